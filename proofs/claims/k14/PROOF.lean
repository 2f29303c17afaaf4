import PyProof.Rows.All
import Wide.All
import OpenK.AllK
import Wide.FinOn
import HandS.ForMost
import HandS.GenOver
import HandS.GenList
import HandS.GenCall
import HandS.Wide
import HandS.IsInst
import HandS.Deep
import PyProof.Rows.ReprR
import PyProof.ZipIter
import KE.KItemsList
import HandS.WideMore
import HandS.Walk
import KE.GoesMore
import PyProof.EnumMake
import PyProof.Draws
import HandS.Star
import PyProof.LongRange
import HandS.IntHex
import HandS.FStr
import HandS.Codes
import PyProof.FString3
import PyProof.Rows.StrIntSpec
import HandS.Rev
import HandS.MapJoin
import HandS.StrMore
import KE.KTabLook
import HandS.Style
import HandS.WideBits
import HandS.ReplaceLit
import HandS.ReplaceDef
import HandS.ReplaceList
import PyProof.Rows.StrJoinRep
import PyProof.Rows.StrMul
import HandS.Defaults
import HandS.Strs
import HandS.SetFor
import HandS.SortInts
import PyProof.Rows.StrFromFirst
import HandS.ClsMeth
import HandS.DictComp
import HandS.Property
import HandS.OwnEq
import HandS.Conv
import HandS.MakeKwOnly
import KE.GoesEnumKw
import HandS.Comp
import HandS.TupAny
import HandS.SortRule
import HandS.Zip
import KE.DataMinMax
import KE.SortData
import HandS.MethStar
import HandS.TryOnly
import PyProof.NeKinds
import OpenK.KOps
import KE.KParC
import HandS.ExcField
import HandS.ExcIs
import HandS.ExcValue
import HandS.Lambda
import KE.KTryMore
import HandS.ExcInit
import HandS.Nested
import KE.KExcSuper
import HandS.ExcOwn
import KE.KCallOwn
import HandS.HeadNt
import HandS.Head2
import PySem.Challenge.RW_triplefree_k14_whole_first_of_free_sets
set_option Elab.async false
set_option linter.all false
set_option maxRecDepth 100000
set_option maxHeartbeats 4000000
/-! G0: a run that never wakes a sleeping generator leaves it asleep, whatever it would do -/
namespace TF
open PySem PySem.Spec PyProof.Rows L2

/-- a sleeper that can't be woken -/
def deaf : Resume → Sem PySem.Fin := fun _ => .unsupported ""
def hush : GenState → GenState
  | .suspended _ l c p fs cl => .suspended deaf l c p fs cl
  | .fresh c => .fresh c
  | .running => .running
  | .finished => .finished

inductive Alike : GenState → GenState → Prop
  | fre (c) : Alike (.fresh c) (.fresh c)
  | run : Alike .running .running
  | fin : Alike .finished .finished
  | sus (k l c p fs cl) : splitAtGen fs = none → Alike (.suspended k l c p fs cl) (.suspended k l c p fs cl)
  | msk (k l c p fs cl) : Alike (.suspended deaf l c p fs cl) (.suspended k l c p fs cl)

theorem Alike.hushed (x : GenState) : Alike (hush x) x := by
  cases x with
  | fresh c => exact .fre c
  | suspended k l c p fs cl => exact .msk k l c p fs cl
  | running => exact .run
  | finished => exact .fin
theorem Alike.seen {x y : GenState} (h : Alike x y) : x.seen = y.seen := by cases h <;> rfl
theorem Alike.bare {x y : GenState} (h : Alike x y) : x.bare = y.bare := by cases h <;> rfl

/-- two tables of generators, one with deaf sleepers -/
structure Tabs (a b : Array GenState) : Prop where
  size : a.size = b.size
  alike : ∀ (i : Nat) x, a[i]? = some x → ∃ y, b[i]? = some y ∧ Alike x y
/-- the deaf ones of a, their twins in b: as they were -/
def Asleep (a b a' b' : Array GenState) : Prop := ∀ (i : Nat) l c p fs cl, a[i]? = some (.suspended deaf l c p fs cl) → a'[i]? = some (.suspended deaf l c p fs cl) ∧ b'[i]? = b[i]?
theorem Asleep.rfl' {a b : Array GenState} : Asleep a b a b := fun _ _ _ _ _ _ h => ⟨h, rfl⟩
theorem Asleep.trans {a b a' b' a2 b2 : Array GenState} (x : Asleep a b a' b') (y : Asleep a' b' a2 b2) : Asleep a b a2 b2 := fun i l c p fs cl h => by
  obtain ⟨h1, h2⟩ := x i l c p fs cl h
  obtain ⟨h3, h4⟩ := y i l c p fs cl h1
  exact ⟨h3, h4.trans h2⟩

theorem Tabs.set {a b : Array GenState} (t : Tabs a b) (g : Nat) {x y : GenState} (h : Alike x y) : Tabs (a.setIfInBounds g x) (b.setIfInBounds g y) where
  size := by simp [t.size]
  alike := fun i z hz => by
    by_cases e : i = g
    · subst e
      have hi : i < a.size := by
        have := (Array.getElem?_eq_some_iff.mp hz).1
        simpa using this
      have hb : i < b.size := by rw [← t.size]; exact hi
      have e1 : (a.setIfInBounds i x)[i]? = some x := by simp [hi]
      have e2 : (b.setIfInBounds i y)[i]? = some y := by simp [hb]
      rw [e1] at hz
      cases hz
      exact ⟨y, e2, h⟩
    · rw [Array.getElem?_setIfInBounds_ne (Ne.symm e)] at hz
      rw [Array.getElem?_setIfInBounds_ne (Ne.symm e)]
      exact t.alike i z hz
theorem Tabs.push {a b : Array GenState} (t : Tabs a b) (c : Code) : Tabs (a.push (.fresh c)) (b.push (.fresh c)) where
  size := by simp [t.size]
  alike := fun i z hz => by
    rw [Array.getElem?_push] at hz
    rw [Array.getElem?_push, ← t.size]
    by_cases e : i = a.size
    · rw [if_pos e] at hz ⊢
      cases hz
      exact ⟨_, rfl, .fre c⟩
    · rw [if_neg e] at hz ⊢
      exact t.alike i z hz
theorem Asleep.set {a b : Array GenState} {g : Nat} {x y : GenState} (h : ∀ l c p fs cl, a[g]? ≠ some (.suspended deaf l c p fs cl)) : Asleep a b (a.setIfInBounds g x) (b.setIfInBounds g y) := fun i l c p fs cl e => by
  have ne : g ≠ i := fun z => h l c p fs cl (z ▸ e)
  rw [Array.getElem?_setIfInBounds_ne ne, Array.getElem?_setIfInBounds_ne ne]
  exact ⟨e, rfl⟩
theorem Asleep.push {a b : Array GenState} (hs : a.size = b.size) (c : Code) : Asleep a b (a.push (.fresh c)) (b.push (.fresh c)) := fun i l cc p fs cl e => by
  have hi : i < a.size := (Array.getElem?_eq_some_iff.mp e).1
  rw [Array.getElem?_push, Array.getElem?_push, if_neg (Nat.ne_of_lt hi), if_neg (by rw [← hs]; exact Nat.ne_of_lt hi)]
  exact ⟨e, rfl⟩

theorem Asleep.about {a G a1 G1 a2 G2 : Array GenState} {g : Nat} {x y z u : GenState} (hne : ∀ l c p fs cl, a[g]? ≠ some (.suspended deaf l c p fs cl))
    (b1 : Asleep (a.setIfInBounds g x) (G.setIfInBounds g y) a1 G1) (b2 : Asleep (a1.setIfInBounds g z) (G1.setIfInBounds g u) a2 G2) : Asleep a G a2 G2 := fun i l c p fs cl e => by
  have ne : g ≠ i := fun z => hne l c p fs cl (z ▸ e)
  obtain ⟨q1, q2⟩ := b1 i l c p fs cl (by rw [Array.getElem?_setIfInBounds_ne ne]; exact e)
  obtain ⟨q3, q4⟩ := b2 i l c p fs cl (by rw [Array.getElem?_setIfInBounds_ne ne]; exact q1)
  rw [Array.getElem?_setIfInBounds_ne ne] at q2 q4
  exact ⟨q3, q4.trans q2⟩
/-- nothing runs on out of what is not supported -/
theorem no_run {M : Model} {Γ : PySem.Ctx} {p : Pos} {t : Sem PySem.Fin} {fs : List Frame} {s s' : Shared} {e : End} (h : Runs M Γ p t fs s e s') : ∀ w, t ≠ .unsupported w := by
  induction h with
  | segRet _ _ a _ => exact a
  | segGen _ _ a _ => exact a
  | segSuspOut _ _ a => exact a
  | segSuspGen _ _ _ _ a _ => exact a
  | _ => intro w z; cases z

theorem split_app {a b : List Frame} (ha : splitAtGen a = none) (hb : splitAtGen b = none) : splitAtGen (a ++ b) = none := by
  induction a with
  | nil => exact hb
  | cons F r ih =>
    cases F with
    | gen g k l c p => cases ha
    | ret k h g l c p kp =>
      have e : (splitAtGen r).map (fun x => ((Frame.ret k h g l c p kp) :: x.1, x.2.1, x.2.2)) = none := ha
      have er : splitAtGen r = none := by
        cases q : splitAtGen r with
        | none => rfl
        | some x => rw [q] at e; cases e
      show (splitAtGen (r ++ b)).map _ = none
      rw [ih er]; rfl
theorem split_tail {F : Frame} {r : List Frame} (h : splitAtGen (F :: r) = none) : splitAtGen r = none := by
  cases F with
  | gen g k l c p => cases h
  | ret k hh g l c p kp =>
    have e : (splitAtGen r).map (fun x => ((Frame.ret k hh g l c p kp) :: x.1, x.2.1, x.2.2)) = none := h
    cases q : splitAtGen r with
    | none => rfl
    | some x => rw [q] at e; cases e

/-- how a run may end: no generator's frame is left in it -/
def Tidy : End → Prop
  | .ret _ => True
  | .susp _ _ _ _ _ _ fs => splitAtGen fs = none
theorem Alike.ended {e : End} (h : Tidy e) : Alike e.genState e.genState := by
  cases e with
  | ret _ => exact .fin
  | susp v g l k c p fs => exact .sus k l c p fs _ h


/-- THE TWIN RUN: what a run does beside deaf sleepers it does beside any -/
theorem twin {M : Model} {Γ : PySem.Ctx} {p : Pos} {t : Sem PySem.Fin} {fs : List Frame} {s s' : Shared} {e : End} (h : Runs M Γ p t fs s e s') :
    splitAtGen fs = none → ∀ G, Tabs s.gens G → ∃ G', Tabs s'.gens G' ∧ Asleep s.gens G s'.gens G' ∧ Tidy e ∧ Runs M Γ p t fs { s with gens := G } e { s' with gens := G' } := by
  induction h with
  | done => intro _ G t; exact ⟨G, t, .rfl', trivial, .done⟩
  | raise => intro _ G t; exact ⟨G, t, .rfl', trivial, .raise⟩
  | again hq _ ih => intro hf G t; obtain ⟨G', a, b, c, d⟩ := ih hf G t; exact ⟨G', a, b, c, .again hq d⟩
  | rule _ ih => intro hf G t; obtain ⟨G', a, b, c, d⟩ := ih hf G t; exact ⟨G', a, b, c, .rule d⟩
  | «at» _ ih => intro hf G t; obtain ⟨G', a, b, c, d⟩ := ih hf G t; exact ⟨G', a, b, c, .at d⟩
  | load ho _ ih => intro hf G t; obtain ⟨G', a, b, c, d⟩ := ih hf G t; exact ⟨G', a, b, c, .load ho d⟩
  | update ho _ ih => intro hf G t; obtain ⟨G', a, b, c, d⟩ := ih hf G t; exact ⟨G', a, b, c, .update ho d⟩
  | loadIfAlive _ ih => intro hf G t; obtain ⟨G', a, b, c, d⟩ := ih hf G t; exact ⟨G', a, b, c, .loadIfAlive d⟩
  | point _ ih => intro hf G t; obtain ⟨G', a, b, c, d⟩ := ih hf G t; exact ⟨G', a, b, c, .point d⟩
  | alloc _ ih => intro hf G t; obtain ⟨G', a, b, c, d⟩ := ih hf G t; exact ⟨G', a, b, c, .alloc d⟩
  | fresh _ ih => intro hf G t; obtain ⟨G', a, b, c, d⟩ := ih hf G t; exact ⟨G', a, b, c, .fresh d⟩
  | ask _ ih => intro hf G t; obtain ⟨G', a, b, c, d⟩ := ih hf G t; exact ⟨G', a, b, c, .ask d⟩
  | choose hn _ ih => intro hf G t; obtain ⟨G', a, b, c, d⟩ := ih hf G t; exact ⟨G', a, b, c, .choose hn d⟩
  | os _ ih => intro hf G t; obtain ⟨G', a, b, c, d⟩ := ih hf G t; exact ⟨G', a, b, c, .os d⟩
  | handled _ ih => intro hf G t; obtain ⟨G', a, b, c, d⟩ := ih hf G t; exact ⟨G', a, b, c, .handled d⟩
  | stack _ ih => intro hf G t; obtain ⟨G', a, b, c, d⟩ := ih hf G t; exact ⟨G', a, b, c, .stack d⟩
  | thread _ ih => intro hf G t; obtain ⟨G', a, b, c, d⟩ := ih hf G t; exact ⟨G', a, b, c, .thread d⟩
  | genState hg _ ih =>
    intro hf G t
    obtain ⟨y, hy, al⟩ := t.alike _ _ hg
    obtain ⟨G', a, b, c, d⟩ := ih hf G t
    rw [al.seen] at d
    exact ⟨G', a, b, c, .genState hy d⟩
  | newGen _ ih =>
    intro hf G t
    obtain ⟨G', a, b, c, d⟩ := ih hf _ (t.push _)
    refine ⟨G', a, (Asleep.push t.size _).trans b, c, .newGen ?_⟩
    have es := t.size
    simp only at es d ⊢
    rw [← es]
    exact d
  | call _ _ ih1 ih2 =>
    intro hf G t
    obtain ⟨G1, a1, b1, c1, d1⟩ := ih1 rfl G t
    obtain ⟨G2, a2, b2, c2, d2⟩ := ih2 hf G1 a1
    exact ⟨G2, a2, b1.trans b2, c2, .call d1 d2⟩
  | callSusp _ ih =>
    intro hf G t
    obtain ⟨G1, a1, b1, c1, d1⟩ := ih rfl G t
    exact ⟨G1, a1, b1, split_app c1 rfl, .callSusp d1⟩
  | yield => intro hf G t; exact ⟨G, t, .rfl', rfl, .yield⟩
  | resumeFresh hg _ hq _ ih1 ih2 =>
    intro hf G t
    obtain ⟨y, hy, al⟩ := t.alike _ _ hg
    cases al
    obtain ⟨G1, a1, b1, c1, d1⟩ := ih1 rfl _ (t.set _ .run)
    obtain ⟨G2, a2, b2, c2, d2⟩ := ih2 hf _ (a1.set _ (.ended c1))
    exact ⟨G2, a2, Asleep.about (fun l c p fs cl z => by rw [hg] at z; cases z) b1 b2, c2, .resumeFresh hy d1 hq d2⟩
  | resumeSuspended hg h1 hq _ ih1 ih2 =>
    intro hf G t
    obtain ⟨y, hy, al⟩ := t.alike _ _ hg
    cases al with
    | msk k => exact absurd rfl (no_run h1 "")
    | sus _ _ _ _ _ _ hc =>
      obtain ⟨G1, a1, b1, c1, d1⟩ := ih1 hc _ (t.set _ .run)
      obtain ⟨G2, a2, b2, c2, d2⟩ := ih2 hf _ (a1.set _ (.ended c1))
      refine ⟨G2, a2, Asleep.about (fun l c p fs cl z => ?_) b1 b2, c2, .resumeSuspended hy d1 hq d2⟩
      rw [hg] at z
      cases z
      exact absurd rfl (no_run h1 "")
  | resumeJustStarted hg hv _ ih =>
    intro hf G t
    obtain ⟨y, hy, al⟩ := t.alike _ _ hg
    cases al
    obtain ⟨G', a, b, c, d⟩ := ih hf G t; exact ⟨G', a, b, c, .resumeJustStarted hy hv d⟩
  | resumeThrowFresh hg _ ih =>
    intro hf G t
    obtain ⟨y, hy, al⟩ := t.alike _ _ hg
    cases al
    obtain ⟨G', a, b, c, d⟩ := ih hf _ (t.set _ .fin)
    exact ⟨G', a, Asleep.trans (Asleep.set fun l c p fs cl z => by rw [hg] at z; cases z) b, c, .resumeThrowFresh hy d⟩
  | resumeRunning hg _ ih =>
    intro hf G t
    obtain ⟨y, hy, al⟩ := t.alike _ _ hg
    cases al
    obtain ⟨G', a, b, c, d⟩ := ih hf G t; exact ⟨G', a, b, c, .resumeRunning hy d⟩
  | resumeFinished hg _ ih =>
    intro hf G t
    obtain ⟨y, hy, al⟩ := t.alike _ _ hg
    cases al
    obtain ⟨G', a, b, c, d⟩ := ih hf G t; exact ⟨G', a, b, c, .resumeFinished hy d⟩
  | segRet _ _ ih1 ih2 =>
    intro hf G t
    obtain ⟨G1, a1, b1, c1, d1⟩ := ih1 rfl G t
    obtain ⟨G2, a2, b2, c2, d2⟩ := ih2 (split_tail hf) G1 a1
    exact ⟨G2, a2, b1.trans b2, c2, .segRet d1 d2⟩
  | segGen _ _ _ _ => intro hf; cases hf
  | segSuspOut hs _ ih =>
    intro hf G t
    obtain ⟨G1, a1, b1, c1, d1⟩ := ih rfl G t
    exact ⟨G1, a1, b1, split_app c1 hf, .segSuspOut hs d1⟩
  | segSuspGen hs _ _ _ _ _ => intro hf; rw [hs] at hf; cases hf
end TF

namespace TF
open PySem PySem.Spec PyProof.Rows L2
open Sem (wp)

theorem twin_wakes {M : Model} {Γ : PySem.Ctx} {p : Pos} {g : Nat} {r : Resume} {s s' : Shared} {res : GenResult} (h : Wakes M Γ p g r s res s') (G : Array GenState) (t : Tabs s.gens G) :
    ∃ G', Tabs s'.gens G' ∧ Asleep s.gens G s'.gens G' ∧ Wakes M Γ p g r { s with gens := G } res { s' with gens := G' } := by
  unfold Wakes at h
  split at h
  · exact h.elim
  · rename_i c hg
    obtain ⟨y, hy, al⟩ := t.alike _ _ hg
    cases al
    split at h
    · obtain ⟨e₁, s₁, hr, hq, rfl, rfl⟩ := h
      obtain ⟨G1, a1, b1, c1, d1⟩ := twin hr rfl _ (t.set g .run)
      refine ⟨G1.setIfInBounds g e₁.genState, a1.set g (.ended c1), Asleep.about (fun l c p fs cl z => by rw [hg] at z; cases z) b1 .rfl', ?_⟩
      unfold Wakes
      rw [show ({ s with gens := G } : Shared).gens[g]? = _ from hy]
      exact ⟨e₁, _, d1, hq, rfl, rfl⟩
    · rename_i v hv
      obtain ⟨rfl, rfl⟩ := h
      exact ⟨G, t, .rfl', Sem.wakes_justStarted M Γ hy hv⟩
    · obtain ⟨rfl, rfl⟩ := h
      refine ⟨G.setIfInBounds g .finished, t.set g .fin, Asleep.set (fun l c p fs cl z => by rw [hg] at z; cases z), ?_⟩
      unfold Wakes
      rw [show ({ s with gens := G } : Shared).gens[g]? = _ from hy]
      exact ⟨rfl, rfl⟩
  · rename_i hg
    obtain ⟨y, hy, al⟩ := t.alike _ _ hg
    obtain ⟨e₁, s₁, hr, hq, rfl, rfl⟩ := h
    cases al with
    | msk k => exact absurd rfl (no_run hr "")
    | sus _ _ _ _ _ _ hc =>
      obtain ⟨G1, a1, b1, c1, d1⟩ := twin hr hc _ (t.set g .run)
      refine ⟨G1.setIfInBounds g e₁.genState, a1.set g (.ended c1), Asleep.about (fun l c p fs cl z => ?_) b1 .rfl', ?_⟩
      · rw [hg] at z
        cases z
        exact absurd rfl (no_run hr "")
      · unfold Wakes
        rw [show ({ s with gens := G } : Shared).gens[g]? = _ from hy]
        exact ⟨e₁, _, d1, hq, rfl, rfl⟩
  · rename_i hg
    obtain ⟨y, hy, al⟩ := t.alike _ _ hg
    cases al
    obtain ⟨rfl, rfl⟩ := h
    refine ⟨G, t, .rfl', ?_⟩
    unfold Wakes
    rw [show ({ s' with gens := G } : Shared).gens[g]? = _ from hy]
    exact ⟨rfl, rfl⟩
  · rename_i hg
    obtain ⟨y, hy, al⟩ := t.alike _ _ hg
    cases al
    obtain ⟨rfl, rfl⟩ := h
    refine ⟨G, t, .rfl', ?_⟩
    unfold Wakes
    rw [show ({ s' with gens := G } : Shared).gens[g]? = _ from hy]
    exact ⟨rfl, rfl⟩

/-- behind a twin run from a, G: the state S beside s -/
def Beside (a G : Array GenState) {α : Type} (Q : α → Pos → Shared → Prop) : α → Pos → Shared → Prop := fun x p S =>
  ∃ s', Tabs s'.gens S.gens ∧ S = { s' with gens := S.gens } ∧ Asleep a G s'.gens S.gens ∧ Q x p s'
theorem Beside.of {a G a1 G1 : Array GenState} {α : Type} {Q : α → Pos → Shared → Prop} (k : Asleep a G a1 G1) {x : α} {p : Pos} {S : Shared} (h : Beside a1 G1 Q x p S) : Beside a G Q x p S := by
  obtain ⟨s', h1, h2, h3, h4⟩ := h
  exact ⟨s', h1, h2, k.trans h3, h4⟩
theorem twin_wp {α : Type} {M : Model} {Γ : PySem.Ctx} (t : Sem α) : ∀ (Q : α → Pos → Shared → Prop) (E : Value → Pos → Shared → Prop) (p : Pos) (s : Shared) (G : Array GenState), Tabs s.gens G → wp M Γ t Q E p s →
    wp M Γ t (Beside s.gens G Q) (Beside s.gens G E) p { s with gens := G } := by
  induction t with
  | pure a => intro Q E p s G t h; exact ⟨s, t, rfl, .rfl', h⟩
  | raise e => intro Q E p s G t h; exact ⟨s, t, rfl, .rfl', h⟩
  | unsupported _ => intro Q E p s G _ h; exact h
  | finish _ => intro Q E p s G _ h; exact h
  | rule _ k ih => intro Q E p s G t h; exact ih () Q E p s G t h
  | «at» p' k ih => intro Q E p s G t h; exact ih () Q E p' s G t h
  | load a _ k ih => intro Q E p s G t h; obtain ⟨o, ho, h⟩ := h; exact ⟨o, ho, ih o Q E p s G t h⟩
  | update a _ f k ih => intro Q E p s G t h; exact ⟨h.1, ih () Q E p { s with heap := s.heap.update a f } G t h.2⟩
  | loadIfAlive a k ih => intro Q E p s G t h; exact ih _ Q E p s G t h
  | point _ k ih => intro Q E p s G t h; exact ih () Q E p s G t h
  | register _ _ => intro Q E p s G _ h; exact h
  | alloc o k ih => intro Q E p s G t h; exact ih _ Q E p { s with heap := s.heap.push o } G t h
  | fresh k ih => intro Q E p s G t h; exact ih _ Q E p { s with toks := s.toks + 1 } G t h
  | ask k ih => intro Q E p s G t h; exact ih _ Q E p s G t h
  | choose src m k ih => intro Q E p s G t h; exact ⟨h.1, ih _ Q E p { s with drawn := s.drawn.bump src } G t h.2⟩
  | os q _ k ih => intro Q E p s G t h; exact ih _ Q E p { s with os := (Os.step s.os q).1 } G t h
  | call c hd _ _ k ih =>
    intro Q E p s G t h
    obtain ⟨r, s', hr, h⟩ := h
    obtain ⟨G1, a1, b1, _, d1⟩ := twin hr rfl G t
    exact ⟨r, _, d1, Sem.wp_mono M Γ _ (fun _ _ _ z => z.of b1) (fun _ _ _ z => z.of b1) p _ (ih r Q E p s' G1 a1 h)⟩
  | handled own k ih => intro Q E p s G t h; exact ih _ Q E p s G t h
  | genState g k ih =>
    intro Q E p s G t h
    obtain ⟨st, hs, h⟩ := h
    obtain ⟨y, hy, al⟩ := t.alike _ _ hs
    refine ⟨y, hy, ?_⟩
    rw [← al.seen]
    exact ih _ Q E p s G t h
  | newGen c k ih =>
    intro Q E p s G t h
    have q := ih _ Q E p { s with gens := s.gens.push (.fresh c) } _ (t.push c) h
    show wp M Γ (k G.size) _ _ p _
    rw [← t.size]
    exact Sem.wp_mono M Γ _ (fun _ _ _ z => z.of (Asleep.push t.size c)) (fun _ _ _ z => z.of (Asleep.push t.size c)) p _ q
  | resume g r _ k ih =>
    intro Q E p s G t h
    obtain ⟨res, s', hw, h⟩ := h
    obtain ⟨G1, a1, b1, d1⟩ := twin_wakes hw G t
    exact ⟨res, _, d1, Sem.wp_mono M Γ _ (fun _ _ _ z => z.of b1) (fun _ _ _ z => z.of b1) p _ (ih res Q E p s' G1 a1 h)⟩
  | yield _ _ _ _ => intro Q E p s G _ h; exact h
  | stack k ih => intro Q E p s G t h; exact ih _ Q E p s G t h
  | fork _ _ => intro Q E p s G _ h; exact h
  | thread k ih => intro Q E p s G t h; exact ih _ Q E p s G t h
  | await _ _ _ _ _ => intro Q E p s G _ h; exact h

/-- the table with every sleeper deaf -/
def hushed (s : Shared) : Shared := { s with gens := s.gens.map hush }
theorem tabs_hushed (a : Array GenState) : Tabs (a.map hush) a where
  size := by simp
  alike := fun i x h => by
    rw [Array.getElem?_map] at h
    cases q : a[i]? with
    | none => rw [q] at h; cases h
    | some y => rw [q] at h; cases h; exact ⟨y, rfl, .hushed y⟩
/-- S is as s, and all sleepers of the table G sleep on in it -/
structure Woke (G : Array GenState) (s S : Shared) : Prop where
  tabs : Tabs s.gens S.gens
  same : S = { s with gens := S.gens }
  stay : ∀ (i : Nat) k l c p fs cl, G[i]? = some (.suspended k l c p fs cl) → S.gens[i]? = G[i]?
/-- THE RULE: what is done beside deaf sleepers -/
theorem wpAny_deaf {α : Type} {M : Model} {A : Around} {t : Sem α} {Q : α → Shared → Prop} {E : Value → Shared → Prop} {s : Shared} (h : wpAny M A t Q E (hushed s)) :
    wpAny M A t (fun a S => ∃ s', Woke s.gens s' S ∧ Q a s') (fun e S => ∃ s', Woke s.gens s' S ∧ E e s') s := by
  intro Γ p hΓ
  have q := twin_wp t _ _ p (hushed s) s.gens (tabs_hushed s.gens) (h Γ p hΓ)
  have fin : ∀ {s' S : Shared}, Asleep (s.gens.map hush) s.gens s'.gens S.gens → ∀ (i : Nat) k l c p fs cl, s.gens[i]? = some (.suspended k l c p fs cl) → S.gens[i]? = s.gens[i]? := fun ha i k l c p fs cl e =>
    (ha i l c p fs cl (by rw [Array.getElem?_map, e]; rfl)).2
  exact Sem.wp_mono M Γ _ (fun _ _ _ ⟨s', h1, h2, h3, h4⟩ => ⟨s', ⟨h1, h2, fin h3⟩, h4⟩) (fun _ _ _ ⟨s', h1, h2, h3, h4⟩ => ⟨s', ⟨h1, h2, fin h3⟩, h4⟩) p _ q
theorem bare_tabs {a b : Array GenState} (t : Tabs a b) (h : AllBare a) : AllBare b := fun y hy => by
  obtain ⟨i, hi, e⟩ := Array.mem_iff_getElem.mp hy
  have hia : i < a.size := by rw [t.size]; exact hi
  obtain ⟨z, hz, al⟩ := t.alike i a[i] (Array.getElem?_eq_getElem hia)
  rw [Array.getElem?_eq_getElem hi, e] at hz
  cases hz
  rw [← al.bare]
  exact h _ (Array.getElem_mem hia)
theorem bare_hushed {s : Shared} (h : AllBare s.gens) : AllBare (hushed s).gens := fun y hy => by
  obtain ⟨x, hx, rfl⟩ := Array.mem_map.mp hy
  rw [(Alike.hushed x).bare]
  exact h x hx
/-- the invariant does not look at the table, but that it is bare -/
theorem Inv.hushed {X : Cx} {pins : List (Addr × Obj)} {σ : L2.St} {H : Hp} {s : Shared} (I : Inv X pins σ H s) : Inv X pins σ H (TF.hushed s) :=
  ⟨I.ok, I.os, bare_hushed I.bare, I.base, I.loc, I.cell, I.free, I.freeC, I.pin, I.hok, I.len⟩
theorem Inv.woke {X : Cx} {pins : List (Addr × Obj)} {σ : L2.St} {H : Hp} {G : Array GenState} {s S : Shared} (I : Inv X pins σ H s) (w : Woke G s S) : Inv X pins σ H S := by
  have e := w.same
  have b := bare_tabs w.tabs I.bare
  rw [e]
  exact ⟨I.ok, I.os, b, I.base, I.loc, I.cell, I.free, I.freeC, I.pin, I.hok, I.len⟩
end TF

/-! G1: a generator's body that sleeps while its consumer does what it likes -/
namespace TF
open PySem PySem.Spec PyProof.Rows L2 GenW

/-! ### the heap below an address -/
def under0 (h : Heap) (L : Addr) : Heap := ⟨h.objs.extract 0 L, h.life⟩
theorem under0_get {h : Heap} {L b : Addr} (hb : b < L) : (under0 h L).get? b = h.get? b := by
  unfold under0 Heap.get?
  have e : (h.objs.extract 0 L)[b]? = h.objs[b]? := by
    rw [Array.getElem?_extract]
    by_cases z : b < h.objs.size
    · rw [if_pos (show b < min L h.objs.size - 0 from Nat.lt_min.mpr ⟨hb, z⟩), Nat.zero_add]
    · rw [if_neg (show ¬ b < min L h.objs.size - 0 from fun q => z (Nat.lt_min.mp q).2), Array.getElem?_eq_none (Nat.le_of_not_lt z)]
  simp only [e]
theorem under0_size {h : Heap} {L : Addr} : (under0 h L).objs.size ≤ L := by
  show (h.objs.extract 0 L).size ≤ L
  rw [Array.size_extract]; exact Nat.min_le_left _ _
theorem under0_size' {h : Heap} {L n : Addr} (h1 : n ≤ L) (h2 : n ≤ h.objs.size) : n ≤ (under0 h L).objs.size := by
  show n ≤ (h.objs.extract 0 L).size
  rw [Array.size_extract]; exact Nat.le_min.mpr ⟨h1, h2⟩
theorem under0_of {h : Heap} {L b : Addr} {o : Obj} (e : (under0 h L).get? b = some o) : b < L ∧ h.get? b = some o := by
  have hb : b < L := Nat.lt_of_lt_of_le (Heap.lt_size e) under0_size
  exact ⟨hb, by rw [← under0_get hb]; exact e⟩
theorem under0_frames {h base : Heap} {L : Addr} : ∀ {l : List Env}, h.FunFrames base l → (∀ b ∈ frs l, b < L) → (under0 h L).FunFrames base l := by
  intro l
  induction l with
  | nil => intro _ _; trivial
  | cons env r ih =>
    rintro ⟨hk, ⟨a, o, hf, hn, ho, hd⟩, hr⟩ hl
    have ha : a < L := hl a (by unfold frs; rw [List.filterMap_cons, hf]; exact List.mem_cons_self)
    refine ⟨hk, ⟨a, o, hf, hn, (under0_get ha).trans ho, hd⟩, ih hr fun b hb => hl b ?_⟩
    unfold frs
    rw [List.filterMap_cons, hf]
    exact List.mem_cons_of_mem _ hb

/-! ### a generator's frame and what stands fast about it -/
structure Gx where
  P : Program
  w : World
  K : PySem.W.Frag
  mg : Str → Option Value
  base : Heap
  N : List Str
  qual : Str
  scope : Scope
  f : Addr
  cd : Value
  A : Around
  outer : List Env
  L : Addr
abbrev Gx.env (Y : Gx) : Env := envOfC Y.qual Y.scope Y.L Y.f Y.cd
/-- its context in a turn that begins at s, H -/
def Gx.cx (Y : Gx) (s : Shared) (H : Hp) : Cx where
  prog := Y.P
  w := Y.w
  K := Y.K
  mg := Y.mg
  base := Y.base
  A := Y.A.deeper Y.env
  N := Y.N
  s_0 := { s with heap := under0 s.heap Y.L }
  H_0 := H
  env := Y.env
  outer := Y.outer
  stack := Y.env :: Y.outer
  ex := []
  fn := fun _ => true
  calm := true
  pn := []
  xe := fun _ _ => False
/-- what stands fast -/
structure Gx.Fast (Y : Gx) : Prop where
  hd : Y.A.handled = none
  kind : Y.scope.kind = .function
  plain : ∀ y ∈ Y.scope.names, y.2 ≠ .cell ∧ y.2 ≠ .free
  above : Y.base.objs.size ≤ Y.L
  frs : ∀ b ∈ L2.frs Y.outer, b < Y.L

theorem cellsFrom_plain : ∀ (l : List (Str × NameKind)) (n : Nat), (∀ y ∈ l, y.2 ≠ .cell ∧ y.2 ≠ .free) → cellsFrom n l [] = [] := by
  intro l
  induction l with
  | nil => intro n _; rfl
  | cons a r ih =>
    intro n h
    obtain ⟨x, k⟩ := a
    have h1 := h (x, k) List.mem_cons_self
    have h2 := ih n fun y hy => h y (List.mem_cons_of_mem _ hy)
    cases k <;> first | exact h2 | exact absurd rfl h1.1 | exact absurd rfl h1.2
theorem Gx.Fast.cells {Y : Gx} (F : Y.Fast) (x : Str) (c : Addr) : Y.env.cells.lookup x ≠ some c := by
  show (cellsFrom (Y.L + 1) Y.scope.names []).lookup x ≠ some c
  rw [cellsFrom_plain _ _ F.plain]
  intro z; cases z
theorem Gx.Fast.nocell {Y : Gx} (F : Y.Fast) {x : Str} : ¬ (Y.env.kindOf x = some .cell ∨ Y.env.kindOf x = some .free) := by
  rintro (z | z)
  · exact (F.plain _ (PySem.mem_of_lookup (show Y.scope.names.lookup x = some .cell from z))).1 rfl
  · exact (F.plain _ (PySem.mem_of_lookup (show Y.scope.names.lookup x = some .free from z))).2 rfl

/-- the frame's slots as σ says -/
def Gx.Has (Y : Gx) (σ : L2.St) (h : Heap) : Prop :=
  ∃ m, h.Ns Y.L m ∧ ∀ (i : Nat) (x : Str) (v : V), Y.N[i]? = some x → σ[i]? = some (some v) → Vis Y.env.scope x → ∃ u, RelV v u ∧ Look Y.env h m x u
/-- the things that sleep with it stand still -/
def Still (ps : List (Addr × Obj)) (H : Hp) (h : Heap) : Prop := ∀ p ∈ ps, h.get? p.1 = some p.2 ∧ H p.1 = none
/-- they are its own -/
def Own (L : Addr) (ps : List (Addr × Obj)) : Prop := ∀ p ∈ ps, L < p.1 ∧ ∀ v, p.2.data ≠ .cell v

theorem Gx.wake {Y : Gx} (F : Y.Fast) {s : Shared} {H : Hp} {σ : L2.St} {ps : List (Addr × Obj)} (e0 : Env0 Y.P Y.w Y.K Y.mg Y.base Y.A Y.outer s H) (hl : Y.Has σ s.heap) (h0 : H Y.L = none) (hs : Still ps H s.heap) (ho : Own Y.L ps)
    (len : σ.length = Y.N.length) : Inv (Y.cx s H) ps σ H s where
  ok := ⟨e0.mod, F.kind, rfl, rfl, under0_size, fun x y c e _ => absurd e (F.cells x c), fun x h => absurd h F.nocell, fun x c _ e => absurd e (F.cells x c), fun _ => F.hd, Around.frames_deeper e0.frames, .inr ⟨rfl, rfl⟩,
    fun b z => absurd (show b ∈ ([] : List Addr) from z) (by simp),
    fun b o e => ⟨(under0_get (Nat.lt_of_lt_of_le (Heap.lt_size e) F.above)).trans (e0.bs b o e).1, (e0.bs b o e).2⟩, under0_size' F.above e0.bsz,
    fun b o _ z => absurd (show b ∈ ([] : List Addr) from z) (by simp), fun b z => absurd (show b ∈ ([] : List Addr) from z) (by simp), under0_frames e0.funs F.frs, e0.frf⟩
  os := rfl
  bare := e0.bare
  base := Un.kept fun b u e => (under0_of e).2
  loc := hl
  cell := fun x c e => absurd e (F.cells x c)
  free := h0
  freeC := fun x c e => absurd e (F.cells x c)
  pin := fun p hp => by
    have hp : p ∈ ps := hp
    obtain ⟨h1, h2⟩ := hs p hp
    obtain ⟨h3, h4⟩ := ho p hp
    exact ⟨h1, h2, Nat.ne_of_gt h3, fun z => absurd (F.frs p.1 z) (Nat.not_lt.mpr (Nat.le_of_lt h3)), h4⟩
  hok := e0.hok
  len := len

/-- what a turn from s, H to s', H' has done, for those who wait -/
structure Turned (P : Program) (w : World) (outer : List Env) (L : Addr) (s : Shared) (H : Hp) (s' : Shared) (H' : Hp) : Prop where
  os : s'.os = s.os
  bare : AllBare s'.gens
  un : ∃ ch, (∀ b ∈ ch, L ≤ b) ∧ Un (frs outer) ch H H' s.heap s'.heap
  hok : HOk P w H' s'.heap
theorem Inv.turned0 {Y : Gx} {ps : List (Addr × Obj)} {σ : L2.St} {H H' : Hp} {s s' : Shared} (I : Inv (Y.cx s H) ps σ H' s') : Turned Y.P Y.w Y.outer Y.L s H s' H' where
  os := I.os
  bare := I.bare
  hok := I.hok
  un := by
    refine ⟨(List.range s.heap.objs.size).filter fun b => decide (Y.L ≤ b), fun b hb => of_decide_eq_true (List.mem_filter.mp hb).2, ?_⟩
    have B : Un (frs Y.outer) [] H H' (under0 s.heap Y.L) s'.heap := I.base
    have low : ∀ {b : Addr} {o : Obj}, s.heap.get? b = some o → b ∉ (List.range s.heap.objs.size).filter (fun b => decide (Y.L ≤ b)) → (under0 s.heap Y.L).get? b = some o := fun {b o} e hb => by
      have hlt : b < Y.L := by
        apply Classical.byContradiction
        intro z
        exact hb (List.mem_filter.mpr ⟨List.mem_range.mpr (Heap.lt_size e), decide_eq_true (Nat.le_of_not_lt z)⟩)
      exact (under0_get hlt).trans e
    exact ⟨fun b o e n h1 h2 => B.keep b o (low e h2) n h1 (by simp), fun b o e n h1 h2 => B.slot b o (low e h2) n h1 (by simp), fun b o e n h2 => B.free b o (low e h2) n (by simp), fun b o e h2 => B.there b o (low e h2) (by simp),
      B.tups, B.frzs, B.tbls⟩
/-- its frame's object sleeps with the rest -/
theorem Inv.asleep {Y : Gx} {ps : List (Addr × Obj)} {σ : L2.St} {H H' : Hp} {s s' : Shared} (I : Inv (Y.cx s H) ps σ H' s') :
    ∃ oL, s'.heap.get? Y.L = some oL ∧ (∀ v, oL.data ≠ .cell v) ∧ Still ((Y.L, oL) :: ps) H' s'.heap ∧ ∀ h, h.get? Y.L = some oL → (∀ x c, Y.env.cells.lookup x ≠ some c) → Y.Has σ h := by
  obtain ⟨m, hn, hl⟩ := id I.loc
  obtain ⟨o, es, ep, ho, hd, r⟩ := id hn
  have hL : ∃ o : Obj, s'.heap.get? Y.L = some o := ⟨o, ho⟩
  refine ⟨o, ho, fun v z => (by rw [hd] at z; cases z), fun p hp => ?_, fun h e nc => ⟨m, ⟨o, es, ep, e, hd, r⟩, fun i x v e1 e2 e3 => ?_⟩⟩
  · rcases List.mem_cons.mp hp with z | z
    · rw [z]; exact ⟨ho, I.free⟩
    · obtain ⟨h1, h2, _⟩ := I.pin p (List.mem_append_right _ z)
      exact ⟨h1, h2⟩
  · obtain ⟨u, ru, l⟩ := hl i x v e1 e2 e3
    refine ⟨u, ru, ?_⟩
    rcases l with l | ⟨_, c, e, _⟩
    · exact .inl l
    · exact absurd e (nc x c)

/-! ### what a generator promises, and the protocol -/
/-- turn i from H: it hands out x in H' (go), or ends (stop); back: what the consumer may have done before the next turn -/
structure GJ where
  go : Nat → Hp → Prop
  yld : Nat → Hp → V → Hp → Prop
  back : Nat → Hp → Hp → Prop
  stop : Nat → Hp → Prop
  fin : Nat → Hp → Hp → Prop
  excl : ∀ i H, go i H → stop i H → False
/-- the consumer's own word at a turn's start: turns left, turn, heap, state -/
abbrev CI := Nat → Nat → Hp → Shared → Prop
def GYp (Y : Gx) (J : GJ) (C : CI) (a : Addr) (go : Obj) : Protocol := fun n s₀ v s kap =>
  ∃ i H x H' ps, C (n + 1) i H s₀ ∧ J.go i H ∧ J.yld i H x H' ∧ RelV x v ∧ Turned Y.P Y.w Y.outer Y.L s₀ H s H' ∧ Still ps H' s.heap ∧ (a, go) ∈ ps ∧ (∀ p ∈ ps, Y.L ≤ p.1 ∧ ∀ v, p.2.data ≠ .cell v) ∧
    ∀ s2 H2, C n (i + 1) H2 s2 → Env0 Y.P Y.w Y.K Y.mg Y.base Y.A Y.outer s2 H2 → Still ps H2 s2.heap → J.back i H' H2 → ((J.go (i + 1) H2 ∧ n ≠ 0) ∨ J.stop (i + 1) H2) → kap (.send .none) s2 ∧ kap (.send (.bool true)) s2
def GFin (Y : Gx) (J : GJ) (C : CI) (a : Addr) (go : Obj) (n : Nat) (s₀ s : Shared) : Prop :=
  ∃ i H H', C n i H s₀ ∧ J.stop i H ∧ J.fin i H H' ∧ Turned Y.P Y.w Y.outer Y.L s₀ H s H' ∧ s.heap.get? a = some go ∧ H' a = none
def GRp (Y : Gx) (J : GJ) (C : CI) (a : Addr) (go : Obj) : GenEnd := fun n s₀ r s =>
  ((r = .ok (.ret .none) ∨ r = .ok .next) ∧ GFin Y J C a go n s₀ s) ∨ ∃ e, r = .error e ∧ (fun (_ : Value) (_ : Shared) => False) e s

/-- what is wanted behind a statement of the body: turn, the heap at the turn's start, slots, heap -/
structure QEnds where
  nx : Nat → Hp → L2.St → Hp → Prop
  rt : Nat → Hp → VK
  bk : Nat → Hp → L2.St → Hp → Prop := fun _ _ _ _ => False
  ct : Nat → Hp → L2.St → Hp → Prop := fun _ _ _ _ => False
abbrev TQ := QEnds → Nat → Hp → L2.St → Hp → Prop
def QEnds.at (D : QEnds) (i : Nat) (B : Hp) : Ends := { nx := D.nx i B, rt := D.rt i B, bk := D.bk i B, ct := D.ct i B }
def QSP (Y : Gx) (ps : List (Addr × Obj)) (D : QEnds) (i : Nat) (B : Hp) (s₀ : Shared) (f : Flow) (s : Shared) : Prop :=
  match f with
  | .next => ∃ σ H, Inv (Y.cx s₀ B) ps σ H s ∧ D.nx i B σ H
  | .brk => ∃ σ H, Inv (Y.cx s₀ B) ps σ H s ∧ D.bk i B σ H
  | .cont => ∃ σ H, Inv (Y.cx s₀ B) ps σ H s ∧ D.ct i B σ H
  | .ret u => ∃ v σ H, Inv (Y.cx s₀ B) ps σ H s ∧ RelV v u ∧ D.rt i B v H
/-- a turn that runs: n more turns may follow -/
structure Amid (Y : Gx) (J : GJ) (C : CI) (T n i : Nat) (B : Hp) (s₀ : Shared) : Prop where
  ci : C n i B s₀
  way : (J.go i B ∧ n ≠ 0) ∨ J.stop i B
  sum : n + i = T
structure QC (Y : Gx) (a : Addr) (go : Obj) (ps : List (Addr × Obj)) (A : Around) (c : Code) (fs : List Frame) (gd : Bool → Bool) : Prop where
  fast : Y.Fast
  mine : (a, go) ∈ ps
  own : Own Y.L ps
  over : A.over c fs = Y.A.deeper Y.env
  split : splitAtGen fs = none
  guard : fs.any Frame.guarded = false
  gd : gd false = false
structure QK (Y : Gx) (J : GJ) (C : CI) (a : Addr) (go : Obj) (T : Nat) (ps : List (Addr × Obj)) (A : Around) (c : Code) (fs : List Frame) (K : Flow → Sem PySem.Fin) (D : QEnds) : Prop where
  ok : ∀ (n i : Nat) (B : Hp) (s₀ s : Shared) (f : Flow), Amid Y J C T n i B s₀ → QSP Y ps D i B s₀ f s → Seg (model Y.P Y.w) A (GRp Y J C a go) (GYp Y J C a go) n s₀ c (K f) fs s
structure QS (Y : Gx) (J : GJ) (st : Stmt) (t : TQ) : Prop where
  run : ∀ (C : CI) (a : Addr) (go : Obj) (T : Nat) (A : Around) (ps : List (Addr × Obj)) (n i : Nat) (B : Hp) (s₀ : Shared) (c : Code) (fs : List Frame) (K : Flow → Sem PySem.Fin) (Jx : Value → Sem PySem.Fin) (gd : Bool → Bool) (lv : List Value → List Value) (s : Shared) (σ : L2.St) (H : Hp) (D : QEnds),
    QC Y a go ps A c fs gd → Amid Y J C T n i B s₀ → QK Y J C a go T ps A c fs K D → Inv (Y.cx s₀ B) ps σ H s → t D i B σ H → Seg (model Y.P Y.w) A (GRp Y J C a go) (GYp Y J C a go) n s₀ c ((exec st Y.env).wrap K Jx gd lv) fs s
structure QSs (Y : Gx) (J : GJ) (st : List Stmt) (t : TQ) : Prop where
  run : ∀ (C : CI) (a : Addr) (go : Obj) (T : Nat) (A : Around) (ps : List (Addr × Obj)) (n i : Nat) (B : Hp) (s₀ : Shared) (c : Code) (fs : List Frame) (K : Flow → Sem PySem.Fin) (Jx : Value → Sem PySem.Fin) (gd : Bool → Bool) (lv : List Value → List Value) (s : Shared) (σ : L2.St) (H : Hp) (D : QEnds),
    QC Y a go ps A c fs gd → Amid Y J C T n i B s₀ → QK Y J C a go T ps A c fs K D → Inv (Y.cx s₀ B) ps σ H s → t D i B σ H → Seg (model Y.P Y.w) A (GRp Y J C a go) (GYp Y J C a go) n s₀ c ((execs st Y.env).wrap K Jx gd lv) fs s

section
variable {Y : Gx} {J : GJ} {st : Stmt} {rest : List Stmt}
theorem sp_qsp {ps : List (Addr × Obj)} {D : QEnds} {i : Nat} {B : Hp} {s₀ s : Shared} {f : Flow} (h : SP (Y.cx s₀ B) ps (D.at i B) f s) : QSP Y ps D i B s₀ f s := by
  cases f <;> exact h
/-- a statement (a block) that hands out nothing -/
def tQp (t : Shared → Hp → TS) : TQ := fun D i B σ H => ∀ s₀, t s₀ B (D.at i B) σ H
theorem qs_ps {t : Shared → Hp → TS} (h : ∀ s₀ B, PS (Y.cx s₀ B) st (t s₀ B)) : QS Y J st (tQp t) := by
  refine ⟨fun C a go T A ps n i B s₀ c fs K Jx gd lv s σ H D g am k hI ht => seg_wrap ?_⟩
  rw [g.over]
  exact wpAny_mono ((h s₀ B).run ps s σ H (D.at i B) hI (ht s₀)) (fun f s' hs => k.ok n i B s₀ s' f am (sp_qsp hs)) fun x s' hx => hx.elim
theorem qss_ps {t : Shared → Hp → TS} (h : ∀ s₀ B, PSs (Y.cx s₀ B) rest (t s₀ B)) : QSs Y J rest (tQp t) := by
  refine ⟨fun C a go T A ps n i B s₀ c fs K Jx gd lv s σ H D g am k hI ht => seg_wrap ?_⟩
  rw [g.over]
  exact wpAny_mono ((h s₀ B).run ps s σ H (D.at i B) hI (ht s₀)) (fun f s' hs => k.ok n i B s₀ s' f am (sp_qsp hs)) fun x s' hx => hx.elim
def tQ0 : TQ := fun D i B σ H => D.nx i B σ H
theorem qss_nil : QSs Y J [] tQ0 :=
  ⟨fun C a go T A ps n i B s₀ c fs K Jx gd lv s σ H D g am k hI ht => seg_execs_nil (k.ok n i B s₀ s .next am ⟨σ, H, hI, ht⟩)⟩
def tQThen (t u : TQ) : TQ := fun D i B σ H => t { D with nx := fun i' B' σ' H' => u D i' B' σ' H' } i B σ H
theorem qss_cons {t u : TQ} (x : QS Y J st t) (y : QSs Y J rest u) : QSs Y J (st :: rest) (tQThen t u) := by
  refine ⟨fun C a go T A ps n i B s₀ c fs K Jx gd lv s σ H D g am k hI ht => seg_execs_cons ?_⟩
  refine x.run C a go T A ps n i B s₀ c fs _ Jx gd lv s σ H { D with nx := fun i' B' σ' H' => u D i' B' σ' H' } g am ⟨fun n' i' B' s₀' s' f am' hs => ?_⟩ hI ht
  cases f with
  | next =>
    obtain ⟨σ', H', I', q⟩ := hs
    exact y.run C a go T A ps n' i' B' s₀' c fs K Jx gd lv s' σ' H' D g am' k I' q
  | brk => exact k.ok n' i' B' s₀' s' .brk am' hs
  | cont => exact k.ok n' i' B' s₀' s' .cont am' hs
  | ret v => exact k.ok n' i' B' s₀' s' (.ret v) am' hs

/-! ### yield -/
def tQYield (J : GJ) (te : Shared → Hp → TE) : TQ := fun D i B σ H => J.go i B ∧ ∀ s₀, te s₀ B σ H fun x H' => J.yld i B x H' ∧ ∀ H2, J.back i H' H2 → (J.go (i + 1) H2 ∨ J.stop (i + 1) H2) → D.nx (i + 1) H2 σ H2
theorem qs_yield {e : Expr} {yp pos : Pos} {te : Shared → Hp → TE} (he : ∀ s₀ B, PE (Y.cx s₀ B) e (te s₀ B)) (hco : Y.env.scope.isCoroutine = false := by rfl) (hi : interactive Y.env = false := by rfl) : QS Y J (.Expr (.Yield (some e) yp) pos) (tQYield J te) := by
  refine ⟨fun C a go T A ps n i B s₀ c fs K Jx gd lv s σ H D g am k hI ht => ?_⟩
  cases n with
  | zero =>
    rcases am.way with z | z
    · exact absurd rfl z.2
    · exact (J.excl i B ht.1 z).elim
  | succ n =>
    refine seg_Expr_Yield g.split g.gd g.guard ?_ hco hi
    rw [g.over]
    refine wpAny_mono ((he s₀ B).run ps s σ H _ hI (ht.2 s₀)) (fun v s' hv => ?_) fun x s' hx => hx.elim
    obtain ⟨x, H', I', rv, hy, hb⟩ := hv
    have hgo := ht.1
    intro kap hk
    obtain ⟨oL, eL, dL, hst, has⟩ := Inv.asleep I'
    refine ⟨i, B, x, H', (Y.L, oL) :: ps, am.ci, hgo, hy, rv, Inv.turned0 I', hst, List.mem_cons_of_mem _ g.mine, fun p hp => ?_, fun s2 H2 hc e0 hst2 hbk hw => ?_⟩
    · rcases List.mem_cons.mp hp with z | z
      · rw [z]; exact ⟨Nat.le_refl _, dL⟩
      · exact ⟨Nat.le_of_lt (g.own p z).1, (g.own p z).2⟩
    · have hsL := hst2 (Y.L, oL) List.mem_cons_self
      have I2 : Inv (Y.cx s2 H2) ps σ H2 s2 := Gx.wake g.fast e0 (has _ hsL.1 fun x c => g.fast.cells x c) hsL.2 (fun p hp => hst2 p (List.mem_cons_of_mem _ hp)) g.own (by have := I'.len; exact this)
      have q := k.ok n (i + 1) H2 s2 s2 .next ⟨hc, hw, by have := am.sum; omega⟩ ⟨σ, H2, I2, hb H2 hbk (hw.elim (fun z => .inl z.1) .inr)⟩
      exact ⟨hk .none s2 q, hk (.bool true) s2 q⟩
end
end TF

/-! G2: while in such a body; the def's promise -/
namespace TF
open PySem PySem.Spec PyProof.Rows L2 GenW
section
variable {Y : Gx} {J : GJ}
/-- W: the word by a measure; a turn of the loop makes the measure less, or has handed something out -/
def tQWhile (c : Shared → Hp → TT) (tb : TQ) : TQ := fun D i B σ H => ∃ W : Nat → Nat → Hp → L2.St → Hp → Prop, (∃ m, W m i B σ H) ∧ ∀ m i B σ H, W m i B σ H → ∀ s₀,
  c s₀ B σ H fun b H1 => if b = true then ∃ N : Nat → Hp → L2.St → Hp → Prop, (∀ i' B' σ' H', N i' B' σ' H' → ∃ m', (i < i' ∨ (i = i' ∧ m' < m)) ∧ W m' i' B' σ' H') ∧ tb { D with nx := N, ct := N, bk := D.nx } i B σ H1 else D.nx i B σ H1
theorem QC.loop {a : Addr} {go : Obj} {ps : List (Addr × Obj)} {A : Around} {c c' : Code} {fs : List Frame} {gd : Bool → Bool} {k : Result → Sem PySem.Fin} {l kp : List Value} {p : Pos} (g : QC Y a go ps A c fs gd) (hw : c'.weight = 0) (hu : c'.cUnits = 0) :
    QC Y a go ps A c' (.ret k none (gd false) l c p kp :: fs) id := by
  refine ⟨g.fast, g.mine, g.own, (over_loop hw hu).trans g.over, ?_, ?_, rfl⟩
  · show Option.map _ (splitAtGen fs) = none
    rw [g.split, Option.map_none]
  · have h1 := g.gd
    have h2 := g.guard
    simp only [List.any_cons, Frame.guarded, h1, h2, Bool.or_self]
theorem qs_while {test : Expr} {body : List Stmt} {pos : Pos} {tc : Shared → Hp → TT} {tb : TQ} (hc : ∀ s₀ B, PT (Y.cx s₀ B) test (tc s₀ B)) (hb : QSs Y J body tb) : QS Y J (.While test body [] pos) (tQWhile tc tb) := by
  constructor
  intro C a go T A ps n i B s₀ c fs K Jx gd lv s σ H D g am k hI ht
  obtain ⟨W, ⟨m0, w0⟩, turn⟩ := ht
  apply seg_While
  intro p
  have loop : ∀ (n m i : Nat) (B : Hp) (s₀ s : Shared) (σ : L2.St) (H : Hp), Amid Y J C T n i B s₀ → W m i B σ H → Inv (Y.cx s₀ B) ps σ H s →
      Seg (model Y.P Y.w) A (GRp Y J C a go) (GYp Y J C a go) n s₀ (.whileLoop test body [] Y.env) ((model Y.P Y.w).den (.whileLoop test body [] Y.env))
        (.ret (fun r => ((match r with | .ok f => (.pure f : Sem Flow) | .error e => .raise e).onRaise (cameBack Y.env)).wrap K Jx gd lv) none (gd false) (lv []) c p [] :: fs) s := by
    intro n
    induction n using Nat.strongRecOn with
    | ind n ihn =>
      intro m
      induction m using Nat.strongRecOn with
      | ind m ihm =>
        intro i B s₀ s σ H am w hI
        have gl := QC.loop (k := fun r => ((match r with | .ok f => (.pure f : Sem Flow) | .error e => .raise e).onRaise (cameBack Y.env)).wrap K Jx gd lv) (c' := .whileLoop test body [] Y.env) (l := lv []) (kp := []) (p := p) g rfl rfl
        apply seg_whileLoop
        rw [gl.over]
        refine wpAny_mono ((hc s₀ B).run ps s σ H _ hI (turn m i B σ H w s₀)) (fun b s' hb' => ?_) fun x s' hx => hx.elim
        obtain ⟨H2, I2, q2⟩ := hb'
        by_cases e : b = true
        · rw [if_pos e] at q2 ⊢
          obtain ⟨N, hN, q2⟩ := q2
          refine hb.run C a go T A ps n i B s₀ _ _ _ _ id id s' σ H2 { D with nx := N, ct := N, bk := D.nx } gl am ⟨fun n' i' B' s₀' s3 f am' hs => ?_⟩ I2 q2
          have more : ∀ {σ3 : L2.St} {H3 : Hp}, Inv (Y.cx s₀' B') ps σ3 H3 s3 → N i' B' σ3 H3 → Seg (model Y.P Y.w) A (GRp Y J C a go) (GYp Y J C a go) n' s₀' (.whileLoop test body [] Y.env) (.pure (.again (.whileLoop test body [] Y.env)))
              (.ret (fun r => ((match r with | .ok f => (.pure f : Sem Flow) | .error e => .raise e).onRaise (cameBack Y.env)).wrap K Jx gd lv) none (gd false) (lv []) c p [] :: fs) s3 := fun {σ3 H3} I3 n3 => by
            obtain ⟨m', hm, w3⟩ := hN i' B' σ3 H3 n3
            have h1 := am.sum
            have h2 := am'.sum
            refine seg_again rfl ?_
            rcases hm with hm | ⟨hi, hm⟩
            · exact ihn n' (by omega) m' i' B' s₀' s3 σ3 H3 am' w3 I3
            · have en : n' = n := by omega
              subst en
              exact ihm m' hm i' B' s₀' s3 σ3 H3 am' w3 I3
          cases f with
          | next => obtain ⟨σ3, H3, I3, n3⟩ := hs; exact more I3 n3
          | cont => obtain ⟨σ3, H3, I3, n3⟩ := hs; exact more I3 n3
          | brk => exact seg_leaf (.ok .next) (k.ok n' i' B' s₀' s3 .next am' hs)
          | ret v => exact seg_leaf (.ok (.ret v)) (k.ok n' i' B' s₀' s3 (.ret v) am' hs)
        · rw [if_neg e] at q2 ⊢
          exact seg_execs_nil (seg_leaf (.ok .next) (k.ok n i B s₀ s' .next am ⟨σ, H2, I2, q2⟩))
  exact loop n m0 i B s₀ s σ H am w0 hI
end

/-! ### the def's promise -/
/-- the arguments, the heap at the call, what it then does -/
abbrev SpJ := List V → Hp → GJ → Prop
/-- a generator that has not begun: its frame stands at the size of the heap at the call -/
def GFresh (P : Program) (w : World) (K : PySem.W.Frag) (mg : Str → Option Value) (base : Heap) (k : Nat) (outer : List Env) (s : Shared) (J : GJ) (u : Value) (s' : Shared) : Prop :=
  ∃ (Y : Gx) (a : Addr) (g : Nat) (c : Code) (go oL : Obj), Y.P = P ∧ Y.w = w ∧ Y.K = K ∧ Y.mg = mg ∧ Y.base = base ∧ Y.outer = outer ∧ Y.L = s.heap.objs.size ∧ u = .ref a ∧ Y.L < a ∧ s'.heap.get? a = some go ∧ s'.heap.get? Y.L = some oL ∧ (∀ v, go.data ≠ .cell v) ∧ (∀ v, oL.data ≠ .cell v) ∧
    (∀ h : Heap, h.get? a = some go → h.IsGen a g) ∧ s'.gens[g]? = some (.fresh c) ∧ g < s'.gens.size ∧ s'.os = s.os ∧ AllBare s'.gens ∧ (∀ b o, s.heap.get? b = some o → s'.heap.get? b = some o) ∧
    ∀ (A : Around) (C : CI) (n : Nat) (s2 : Shared) (H2 : Hp), Room k A → Y.base.objs.size ≤ Y.L → (∀ b ∈ frs outer, b < Y.L) → C n 0 H2 s2 → Env0 P w K mg base A outer s2 H2 → Still [(Y.L, oL), (a, go)] H2 s2.heap → ((J.go 0 H2 ∧ n ≠ 0) ∨ J.stop 0 H2) →
      Seg (model P w) A (GRp { Y with A := A } J C a go) (GYp { Y with A := A } J C a go) n s2 c ((model P w).den c) [] s2
structure GDef (P : Program) (w : World) (K : PySem.W.Frag) (mg : Str → Option Value) (base : Heap) (k : Nat) (f : Addr) (fd : FuncData) (ps : List Str) (sp : SpJ) : Prop where
  len : ∀ vs H J, sp vs H J → vs.length = ps.length
  run : ∀ (A : Around) (outer : List Env) (s : Shared) (H : Hp) (args : Args) (us : List Value) (vs : List V) (J : GJ), Room k A → Env0 P w K mg base A outer s H → BindsTo s fd args (ps.zip us) → Vals vs us → sp vs H J →
    codeAny (model P w) A (.call (.ref f) args) (fun r s' => match r with | .ok (.ret u) => GFresh P w K mg base k outer s J u s' | _ => False) s
end TF

/-! G3: a generator def by its body -/
namespace TF
open PySem PySem.Spec PyProof.Rows L2 GenW
/-- the frame of such a def in a call -/
abbrev gxOf (P : Program) (w : World) (K : PySem.W.Frag) (mg : Str → Option Value) (base : Heap) (N : List Str) (qual : Str) (scope : Scope) (f : Addr) (cd : Value) (A : Around) (outer : List Env) (L : Addr) : Gx :=
  ⟨P, w, K, mg, base, N, qual, scope, f, cd, A, outer, L⟩
/-- its end -/
def qEnd (J : GJ) : QEnds := { nx := fun i B _ H => J.stop i B ∧ J.fin i B H, rt := fun i B v H => v = .non ∧ J.stop i B ∧ J.fin i B H }
theorem gdef_of {P : Program} {w : World} {K : PySem.W.Frag} {mg : Str → Option Value} {base : Heap} {k : Nat} {f : Addr} {name qual : Str} {params : Arguments} {body : List Stmt} {scope : Scope} {dV kV doc pm cdv ct oc : Value} {an od : Option Addr}
    {osl : Array (Option Value)} {N ps : List Str} {sp : SpJ} (lk : K.lookup f = some ⟨oc, od, .func (PySem.W.fnOf name qual params body scope dV kV doc pm an cdv ct), osl⟩) (hcd : PySem.W.codeIn K cdv qual = true) (S : GScope N ps scope)
    (plain : ∀ y ∈ scope.names, y.2 ≠ .cell ∧ y.2 ≠ .free) (len : ∀ vs H J, sp vs H J → vs.length = ps.length)
    (hbody : ∀ (A : Around) (outer : List Env) (L : Addr) (H : Hp) (vs : List V) (J : GJ), Room k (A.deeper (envOfC qual scope L f cdv)) → sp vs H J →
      ∃ t, QSs (gxOf P w K mg base N qual scope f cdv A outer L) J body t ∧ ∀ B, (J.go 0 B ∨ J.stop 0 B) → t (qEnd J) 0 B (start N vs) B) :
    GDef P w K mg base (k + 1) f (PySem.W.fnOf name qual params body scope dV kV doc pm an cdv ct) ps sp := by
  refine ⟨len, ?_⟩
  intro A outer s H args us vs J hr e0 hb r hsp
  have hl := len _ _ _ hsp
  have KX : K.In s.heap := e0.mod.kin.keeps fun b o e => (e0.bs b o e).1
  have lim : s.heap.NoLimit := e0.mod.nolimit.keeps fun b o e => (e0.bs b o e).1
  have kinds : ∀ y ∈ ps.zip us, scope.names.lookup y.1 = some .local ∨ (scope.names.lookup y.1 = some .cell ∧ ((cellsFrom (s.heap.objs.size + 1) scope.names []).lookup y.1).isSome = true) := by
    rintro ⟨n, v⟩ hy
    rcases S.par n (List.of_mem_zip hy).1 with q | q
    · exact .inl q
    · exact .inr ⟨q, PySem.W.cellsFrom_some _ _ _ (.inl q)⟩
  refine codeAny_call_generator hr.depth (KX _ _ lk) rfl S.co S.gen rfl (PySem.W.codeRec_of KX hcd) (hb _ _ _ _ ?_)
  refine wpAny_newFunctionEnv_cells S.kind kinds fun env he s1 x => ?_
  subst he
  refine ⟨lim.keeps x.toInCall.keep, ?_⟩
  obtain ⟨h1, tk, es1, hk1⟩ := x.done
  have I1 : Inv (gcxOf P w K mg base N qual scope f cdv A outer s H (fun _ _ _ => False) []) [] (start N vs) H s1 := inv_startG S hr.hd e0 hl r x
  obtain ⟨m, hns, hslots⟩ := I1.loc
  obtain ⟨oL, es, ep, hoL, hdL, rL⟩ := id hns
  have ltL : s.heap.objs.size < s1.heap.objs.size := x.toInCall.ns.lt
  have main : ∀ (go : Obj) (nm qn : Value) (tk2 : Nat), go.cls = .type "generator" → go.data = .fields #[.int s1.gens.size 0, nm, qn] → go.slots = #[] → (∀ h : Heap, (h.push go).get? h.objs.size = some go) →
      GFresh P w K mg base (k + 1) outer s J (.ref s1.heap.objs.size) { s1 with gens := s1.gens.push (.fresh (.func body (envOfC qual scope s.heap.objs.size f cdv))), toks := tk2, heap := s1.heap.push go } := by
    intro go nm qn tk2 g1 g2 g3 g4
    have dgo : ∀ v, go.data ≠ .cell v := fun v z => by rw [g2] at z; cases z
    have doL : ∀ v, oL.data ≠ .cell v := fun v z => by rw [hdL] at z; cases z
    refine ⟨gxOf P w K mg base N qual scope f cdv A outer s.heap.objs.size, s1.heap.objs.size, s1.gens.size, _, go, oL, rfl, rfl, rfl, rfl, rfl, rfl, rfl, rfl, ltL, g4 _, Heap.get?_push_of_some _ hoL, dgo, doL,
      fun h e => ⟨go, nm, qn, e, g1, g2, g3⟩, Array.getElem?_push_size .., ?_, I1.os, ?_, fun b o e => Heap.get?_push_of_some _ (x.toInCall.keep b o e), ?_⟩
    · show s1.gens.size < (s1.gens.push _).size
      rw [Array.size_push]; exact Nat.lt_succ_self _
    · exact AllBare.push I1.bare rfl
    intro A2 C n s2 H2 hr2 hab hfr hc e2 hst hw
    obtain ⟨t, ht, hq⟩ := hbody A2 outer s.heap.objs.size H vs J (hr2.deeper _) hsp
    have F : (gxOf P w K mg base N qual scope f cdv A2 outer s.heap.objs.size).Fast := ⟨hr2.hd, S.kind, plain, hab, hfr⟩
    have hL2 := hst (s.heap.objs.size, oL) List.mem_cons_self
    have ha2 := hst (s1.heap.objs.size, go) (List.mem_cons_of_mem _ List.mem_cons_self)
    have has : (gxOf P w K mg base N qual scope f cdv A2 outer s.heap.objs.size).Has (start N vs) s2.heap := by
      refine ⟨m, ⟨oL, es, ep, hL2.1, hdL, rL⟩, fun i y v e1 e2 e3 => ?_⟩
      obtain ⟨u, ru, l⟩ := hslots i y v e1 e2 e3
      refine ⟨u, ru, ?_⟩
      rcases l with l | ⟨_, c, e, _⟩
      · exact .inl l
      · exact absurd e (F.cells y c)
    have hown : Own s.heap.objs.size [(s1.heap.objs.size, go)] := fun p hp => by
      rw [List.mem_singleton.mp hp]; exact ⟨ltL, dgo⟩
    have I2 : Inv ((gxOf P w K mg base N qual scope f cdv A2 outer s.heap.objs.size).cx s2 H2) [(s1.heap.objs.size, go)] (start N vs) H2 s2 :=
      Gx.wake F e2 has hL2.2 (fun p hp => by rw [List.mem_singleton.mp hp]; exact ha2) hown I1.len
    refine seg_func ?_
    refine ht.run C s1.heap.objs.size go n A2 [(s1.heap.objs.size, go)] n 0 H2 s2 _ [] _ _ id id s2 (start N vs) H2 (qEnd J) ⟨F, List.mem_singleton.mpr rfl, hown, over_func, rfl, rfl, rfl⟩ ⟨hc, hw, Nat.add_zero _⟩ ⟨fun n' i B s₀ s' fl am hs => ?_⟩ I2
      (hq H2 (hw.elim (fun z => .inl z.1) .inr))
    have fin : ∀ {σ' : L2.St} {H' : Hp}, Inv ((gxOf P w K mg base N qual scope f cdv A2 outer s.heap.objs.size).cx s₀ B) [(s1.heap.objs.size, go)] σ' H' s' → J.stop i B → J.fin i B H' →
        ∀ r : Result, (r = .ok (.ret .none) ∨ r = .ok .next) → GRp (gxOf P w K mg base N qual scope f cdv A2 outer s.heap.objs.size) J C s1.heap.objs.size go n' s₀ r s' := fun {σ' H'} I' q1 q2 r hr => by
      obtain ⟨p1, p2, _⟩ := I'.pin (s1.heap.objs.size, go) (List.mem_append_right _ (List.mem_singleton.mpr rfl))
      exact .inl ⟨hr, i, B, H', am.ci, q1, q2, Inv.turned0 I', p1, p2⟩
    cases fl with
    | next => obtain ⟨σ', H', I', q1, q2⟩ := hs; exact seg_end (.ok (.ret .none)) (fin I' q1 q2 _ (.inl rfl))
    | brk => obtain ⟨_, _, _, q⟩ := hs; exact q.elim
    | cont => obtain ⟨_, _, _, q⟩ := hs; exact q.elim
    | ret u =>
      obtain ⟨v, σ', H', I', rv, ev, q1, q2⟩ := hs
      subst ev
      obtain rfl : u = Value.none := rv
      exact seg_end (.ok (.ret .none)) (fin I' q1 q2 _ (.inl rfl))
  exact main _ _ _ _ rfl rfl rfl fun h => Heap.get?_push_size _ rfl
end TF

/-! G4: for x in such a generator -/
namespace TF
open PySem PySem.Spec PyProof.Rows L2 GenW
/-- an expression whose value is such a generator, not yet begun -/
abbrev TJ := L2.St → Hp → (GJ → Hp → Prop) → Prop
structure PJ (X : Cx) (k : Nat) (e : Expr) (tj : TJ) : Prop where
  run : ∀ (pins : List (Addr × Obj)) (s : Shared) (σ : L2.St) (H : Hp) (R : GJ → Hp → Prop), Inv X pins σ H s → tj σ H R →
    wpAny (model X.prog X.w) X.A (eval e X.env) (fun u s' => ∃ H1 sc J, Inv X pins σ H1 sc ∧ GFresh X.prog X.w X.K X.mg X.base k X.stack sc J u s' ∧ R J H1) X.xe s
section
variable {X : Cx} {k : Nat}
/-- W: the word by turn and measure -/
def tForJ (tj : TJ) (g : TG) (tb : TS) : TS := fun D σ H => tj σ H fun J H1 => ∃ W : Nat → Nat → L2.St → Hp → Prop, (∃ m, W 0 m σ H1) ∧ ∀ i m σ H, W i m σ H →
  (J.stop i H ∧ ∀ H', J.fin i H H' → (∀ b xs, H b = some (.tup xs) → H' b = some (.tup xs)) → D.nx σ H') ∨
  (J.go i H ∧ ∃ N : Hp → L2.St → Hp → Prop, (∀ B σ' H', N B σ' H' → J.back i B H' ∧ ∃ m', m' < m ∧ W (i + 1) m' σ' H') ∧
    ∀ x H', J.yld i H x H' → (∀ b xs, H b = some (.tup xs) → H' b = some (.tup xs)) → g x σ H' fun σ2 H2 => tb { D with nx := N H', ct := N H', bk := D.nx } σ2 H2)
theorem nofail {α : Type} {M : Model} {A : Around} {t : Sem α} {Q : α → Shared → Prop} {E E' : Value → Shared → Prop} {s : Shared} (hx : ∀ e s, ¬ E e s) (h : wpAny M A t Q E s) : wpAny M A t Q E' s :=
  wpAny_mono h (fun _ _ q => q) fun e s q => (hx e s q).elim
/-- beside sleepers, where nothing is raised -/
theorem deafly {α : Type} {M : Model} {A : Around} {t : Sem α} {Q Q' : α → Shared → Prop} {E E' : Value → Shared → Prop} {s : Shared} (hx : ∀ e s, ¬ E e s) (h : wpAny M A t Q E (hushed s)) (k : ∀ a s' S, Woke s.gens s' S → Q a s' → Q' a S) : wpAny M A t Q' E' s :=
  wpAny_mono (wpAny_deaf h) (fun a S ⟨s', w, q⟩ => k a s' S w q) fun e S ⟨s', _, q⟩ => (hx e s' q).elim
theorem Inv.setGen {pins : List (Addr × Obj)} {σ : L2.St} {H : Hp} {s : Shared} (I : Inv X pins σ H s) (g : Nat) {x : GenState} (hx : x.bare = true) : Inv X pins σ H (s.setGen g x) :=
  ⟨I.ok, I.os, allBare_setGen I.bare hx, I.base, I.loc, I.cell, I.free, I.freeC, I.pin, I.hok, I.len⟩
theorem Woke.at {G : Array GenState} {s S : Shared} (w : Woke G s S) {g : Nat} {x : GenState} (h : G[g]? = some x) (hs : ∃ k l c p fs cl, x = .suspended k l c p fs cl) : S.gens[g]? = some x := by
  obtain ⟨k, l, c, p, fs, cl, rfl⟩ := hs
  rw [w.stay g k l c p fs cl h]; exact h
theorem Woke.heap {G : Array GenState} {s S : Shared} (w : Woke G s S) : S.heap = s.heap := by rw [w.same]

theorem ps_forJ {tg iter : Expr} {body : List Stmt} {tj : TJ} {g : TG} {tb : TS} {pos : Pos} (hx : ∀ e s, ¬ X.xe e s) (hc : X.calm = true) (hr : Room (k + 1) X.A) (hi : PJ X k iter tj) (hg : PG X tg g) (hb : PSs X body tb)
    (hs : ∀ x, foldedSetIterable iter X.env x = pure x := by intro _; rfl) : PS X (.For tg iter body [] pos) (tForJ tj g tb) := by
  constructor
  intro pins s σ H D I h
  refine wpAny_For (thn (hi.run pins s σ H _ I h) fun u s1 h1 => ?_) hs
  obtain ⟨H1, sc, J, Isc, ⟨Y, a, gi, c, go, oL, eP, ew, eK, emg, ebase, eout, eL, eu, haL, hga, hgL, dgo, doL, hgen, hgs, hglt, hos, hbare, hkp, wake⟩, W, ⟨m0, w0⟩, turn⟩ := h1
  subst eu
  have I1 : Inv X pins σ H1 s1 := Isc.call' (ch := []) hos (Un.kept hkp) (Isc.hok.kept hkp) hbare fun b z => by simp at z
  refine wpAny_pyIter_gen (hgen _ hga) ?_
  have pinsL : ∀ p ∈ X.pn ++ pins, p.1 < Y.L := fun p hp => by rw [eL]; exact Heap.lt_size (Isc.pin p hp).1
  have locL : X.env.locals < Y.L := by rw [eL]; exact Isc.lt
  have cellL : ∀ x cc, X.env.cells.lookup x = some cc → cc < Y.L := fun x cc e => by
    obtain ⟨v, o, ho, _⟩ := Isc.cell x cc e
    rw [eL]; exact Heap.lt_size ho
  have frsL : ∀ b ∈ frs X.stack, b < Y.L := fun b hb => by
    rw [eL]
    obtain ⟨_, o, ho, _⟩ := Isc.stack.mem hb
    exact Heap.lt_size ho
  have szL : X.s_0.heap.objs.size ≤ Y.L := by rw [eL]; exact Isc.sz
  have baseL : Y.base.objs.size ≤ Y.L := by rw [ebase]; exact Nat.le_trans Isc.ok.bsz szL
  have hchL : ∀ {ch : List Addr}, (∀ b ∈ ch, Y.L ≤ b) → ∀ b ∈ ch, (b ∈ X.ex ∨ X.s_0.heap.objs.size ≤ b) ∧ b ≠ X.env.locals ∧ (∀ x cc, X.env.cells.lookup x = some cc → cc ≠ b) ∧ ∀ p ∈ X.pn ++ pins, p.1 ≠ b := fun {ch} hch b hb =>
    ⟨.inr (Nat.le_trans szL (hch b hb)), Nat.ne_of_gt (Nat.lt_of_lt_of_le locL (hch b hb)), fun x cc e => Nat.ne_of_lt (Nat.lt_of_lt_of_le (cellL x cc e) (hch b hb)), fun p hp => Nat.ne_of_lt (Nat.lt_of_lt_of_le (pinsL p hp) (hch b hb))⟩
  -- the consumer's word at a turn's start
  let C : CI := fun n i H s => ∃ σ m, Inv X pins σ H s ∧ W i m σ H ∧ m < n
  let Y1 : Gx := { Y with A := X.A.in1 }
  have env1 : ∀ {σ' : L2.St} {H' : Hp} {s' : Shared} {ps' : List (Addr × Obj)}, Inv X ps' σ' H' s' → Env0 X.prog X.w X.K X.mg X.base X.A.in1 X.stack s' H' := fun I' => I'.env0.in1
  have way : ∀ {i m n : Nat} {σ' : L2.St} {H' : Hp}, W i m σ' H' → m < n → ((J.go i H' ∧ n ≠ 0) ∨ J.stop i H') := fun {i m n σ' H'} w hm => by
    rcases turn i m σ' H' w with ⟨z, _⟩ | ⟨z, _⟩
    · exact .inr z
    · exact .inl ⟨z, by omega⟩
  have back1 : ∀ {s0 s' : Shared} {σ' : L2.St} {H' H3 : Hp}, Inv X pins σ' H' s0 → Turned Y.P Y.w Y.outer Y.L s0 H' s' H3 → Inv X pins σ' H3 s' := fun {s0 s' σ' H' H3} I' t => by
    obtain ⟨q1, q2, ⟨ch, hch, un⟩, q4⟩ := t
    rw [eout] at un
    rw [eP, ew] at q4
    exact I'.call' q1 un q4 q2 (hchL hch)
  have tups1 : ∀ {s0 s' : Shared} {H' H3 : Hp}, Turned Y.P Y.w Y.outer Y.L s0 H' s' H3 → ∀ b xs, H' b = some (.tup xs) → H3 b = some (.tup xs) := fun t => by
    obtain ⟨_, _, ⟨ch, _, un⟩, _⟩ := t
    exact un.tups
  refine codeAny_forLoop_any (fun n s' => s'.heap.get? a = some go ∧ ∃ i σ' H' m gs, Inv X pins σ' H' s' ∧ W i m σ' H' ∧ m < n ∧ s'.gens[gi]? = some gs ∧
    gs.Goes (model X.prog X.w) X.A.in1 (GRp Y1 J C a go) (GYp Y1 J C a go) n (.send .none) (s'.setGen gi .running)) ?_ (m0 + 1) ⟨hga, 0, σ, H1, m0, .fresh c, I1, w0, Nat.lt_succ_self _, hgs, rfl, ?_⟩
  · -- a turn
    rintro n s' ⟨hga', i, σ', H', m, gs, I', w', hmn, hgs', hgo⟩
    refine nofail (E := fun _ _ => False) (fun _ _ z => z) (wpAny_gsz (n := gi + 1) (Array.getElem?_eq_some_iff.mp hgs').1 (next_genG (F := GFin Y1 J C a go) (Er := fun _ _ => False) (Y := GYp Y1 J C a go) (I'.ok.hd hc) I'.nolimit hr.depth (hgen _ hga') hgs' hgo (fun v s3 gs' hb' hy => ?_) (fun s3 hp h' hk => ?_) fun e s3 z => z.elim))
    · intro hsz
      obtain ⟨i2, H2, x, H3, ps, ⟨σ2, m2, I2, w2, hm2⟩, hgo2, hy2, rv, td, hst, hmem, hps, kap⟩ := hy
      obtain ⟨n, rfl⟩ : ∃ q, n = q + 1 := ⟨n - 1, by omega⟩
      have hn2 : m2 < n + 1 := by simpa using hm2
      rcases turn i2 m2 σ2 H2 w2 with ⟨z, _⟩ | ⟨_, N, hN, step⟩
      · exact (J.excl i2 H2 hgo2 z).elim
      have I3 : Inv X pins σ2 H3 s3 := back1 I2 td
      have I3g : Inv X pins σ2 H3 (s3.setGen gi gs') := Inv.setGen I3 gi hb'
      have hga3 : s3.heap.get? a = some go := (hst (a, go) hmem).1
      obtain ⟨ob, nm, qn, g1, g2, g3, g4⟩ := hgen _ hga3
      refine go_of (s := s3.setGen gi gs') g1 g2 g3 (by decide) ?_
      have I3p : Inv X (pins ++ ps) σ2 H3 (s3.setGen gi gs') := I3g.pins_of fun p hp => by
        rcases List.mem_append.mp hp with z | z
        · exact I3g.pin p (List.mem_append_right _ z)
        · obtain ⟨q1, q2⟩ := hst p z
          obtain ⟨q3, q4⟩ := hps p z
          exact ⟨q1, q2, Nat.ne_of_gt (Nat.lt_of_lt_of_le locL q3), fun hb => absurd (Nat.lt_of_lt_of_le (by
            obtain ⟨_, o, ho, _⟩ := Isc.funs.mem hb
            rw [eL]; exact Heap.lt_size ho) q3) (Nat.lt_irrefl _), q4⟩
      refine deafly hx (hg.run (pins ++ ps) _ σ2 H3 x v _ (Inv.hushed I3p) rv (step x H3 hy2 (tups1 td))) fun _ s4 S4 w4 q4 => ?_
      obtain ⟨σ4, H4, I4, q4⟩ := q4
      have I4 : Inv X (pins ++ ps) σ4 H4 S4 := Inv.woke I4 w4
      refine deafly hx (hb.run (pins ++ ps) _ σ4 H4 _ (Inv.hushed I4) q4) fun f s5 S5 w5 q5 => ?_
      have kept : ∀ x, (∃ k l c p fs cl, x = GenState.suspended k l c p fs cl) → (s3.setGen gi gs').gens[gi]? = some x → S5.gens[gi]? = some x := fun x hx e => w5.at (w4.at e hx) hx
      have hin : (s3.setGen gi gs').gens[gi]? = some gs' := by
        refine setGen_at ?_
        have q : (s3.setGen gi gs').gens.size = s3.gens.size := setGen_size _ _ _
        have q2 : gi + 1 ≤ (s3.setGen gi gs').gens.size := hsz
        omega
      have again : ∀ {σ5 : L2.St} {H5 : Hp}, Inv X (pins ++ ps) σ5 H5 s5 → N H3 σ5 H5 → ∃ q, q < n + 1 ∧ (S5.heap.get? a = some go ∧ ∃ i σ' H' m gs, Inv X pins σ' H' S5 ∧ W i m σ' H' ∧ m < q ∧ S5.gens[gi]? = some gs ∧
          gs.Goes (model X.prog X.w) X.A.in1 (GRp Y1 J C a go) (GYp Y1 J C a go) q (.send .none) (S5.setGen gi .running)) := fun {σ5 H5} I5 n5 => by
        have I5 : Inv X (pins ++ ps) σ5 H5 S5 := Inv.woke I5 w5
        obtain ⟨hbk, m5, hm5, w5'⟩ := hN H3 σ5 H5 n5
        have hm5n : m5 < n := by omega
        have stl : Still ps H5 S5.heap := fun p hp => by
          obtain ⟨q1, q2, _⟩ := I5.pin p (List.mem_append_right _ (List.mem_append_right _ hp))
          exact ⟨q1, q2⟩
        have I5u : Inv X pins σ5 H5 S5 := I5.unpinned
        have I5r : Inv X pins σ5 H5 (S5.setGen gi .running) := Inv.setGen I5u gi rfl
        have e0 : Env0 Y1.P Y1.w Y1.K Y1.mg Y1.base Y1.A Y1.outer (S5.setGen gi .running) H5 := by
          show Env0 Y.P Y.w Y.K Y.mg Y.base X.A.in1 Y.outer _ _
          rw [eP, ew, eK, emg, ebase, eout]
          exact env1 I5r
        obtain ⟨k1, k2⟩ := kap (S5.setGen gi .running) H5 ⟨σ5, m5, I5r, w5', by simpa using hm5n⟩ e0 stl hbk (way w5' (by simpa using hm5n))
        refine ⟨n, Nat.lt_succ_self _, (stl (a, go) hmem).1, i2 + 1, σ5, H5, m5, gs', I5u, w5', hm5n, ?_, k1⟩
        cases gs' with
        | fresh cc => exact absurd k2.1 (by intro z; cases z)
        | running => exact k2.elim
        | finished => exact k2.elim
        | suspended k l cc p fs cl => exact kept _ ⟨k, l, cc, p, fs, cl, rfl⟩ hin
      cases f with
      | next => obtain ⟨σ5, H5, I5, n5⟩ := q5; exact again I5 n5
      | cont => obtain ⟨σ5, H5, I5, n5⟩ := q5; exact again I5 n5
      | brk => obtain ⟨σ5, H5, I5, n5⟩ := q5; exact ⟨σ5, H5, (Inv.woke I5 w5).unpinned, n5⟩
      | ret u => obtain ⟨x5, σ5, H5, I5, r5, n5⟩ := q5; exact ⟨x5, σ5, H5, (Inv.woke I5 w5).unpinned, r5, n5⟩
    · intro _
      obtain ⟨i2, H2, H3, ⟨σ2, m2, I2, w2, hm2⟩, hst2, hfin, td, hga3, _⟩ := hp
      rcases turn i2 m2 σ2 H2 w2 with ⟨_, z⟩ | ⟨z, _⟩
      · have I3 : Inv X pins σ2 H3 s3 := back1 I2 td
        have I3g : Inv X pins σ2 H3 (s3.setGen gi .finished) := Inv.setGen I3 gi rfl
        exact wpAny_execs_nil ⟨σ2, H3, I3g.kept (t' := (s3.setGen gi .finished).toks) hk, z H3 hfin (tups1 td)⟩
      · exact (J.excl i2 H2 z hst2).elim
  · -- the first one
    have I1r : Inv X pins σ H1 (s1.setGen gi .running) := Inv.setGen I1 gi rfl
    have e0 : Env0 X.prog X.w X.K X.mg X.base X.A.in1 X.stack (s1.setGen gi .running) H1 := env1 I1r
    refine wake X.A.in1 C (m0 + 1) (s1.setGen gi .running) H1 hr.in1 baseL frsL ⟨σ, m0, I1r, w0, Nat.lt_succ_self _⟩ e0 (fun p hp => ?_) (way w0 (Nat.lt_succ_self _))
    have fr : ∀ b, Y.L ≤ b → H1 b = none := fun b hb => Isc.hok.fresh (by rw [← eL]; exact hb)
    rcases List.mem_cons.mp hp with z | z
    · rw [z]; exact ⟨hgL, fr _ (Nat.le_refl _)⟩
    · rw [List.mem_singleton.mp z]; exact ⟨hga, fr _ (Nat.le_of_lt haL)⟩
end
end TF

/-! plain mathematics of digits, for all the laws: core Lean alone -/
namespace TM
/-- the digits of n, the least one first; f: at least as many turns as digits -/
def digsF : Nat → Nat → Nat → List Nat
  | 0, _, _ => []
  | f + 1, r, n => if n = 0 then [] else n % r :: digsF f r (n / r)
def digs (r n : Nat) : List Nat := digsF n r n
theorem digsF_more {r : Nat} (hr : 2 ≤ r) : ∀ (f g n : Nat), n ≤ f → n ≤ g → digsF f r n = digsF g r n
  | 0, 0, n, _, _ => rfl
  | 0, g + 1, n, h, _ => by
    have e : n = 0 := by omega
    subst e
    show [] = if (0 : Nat) = 0 then [] else _
    rw [if_pos rfl]
  | f + 1, 0, n, _, h => by
    have e : n = 0 := by omega
    subst e
    show (if (0 : Nat) = 0 then [] else _) = []
    rw [if_pos rfl]
  | f + 1, g + 1, n, h1, h2 => by
    show (if n = 0 then [] else n % r :: digsF f r (n / r)) = if n = 0 then [] else n % r :: digsF g r (n / r)
    by_cases h : n = 0
    · rw [if_pos h, if_pos h]
    · have lt : n / r < n := Nat.div_lt_self (by omega) (by omega)
      rw [if_neg h, if_neg h, digsF_more hr f g (n / r) (by omega) (by omega)]
theorem digs_zero (r : Nat) : digs r 0 = [] := rfl
theorem digs_pos {r n : Nat} (hr : 2 ≤ r) (h : 0 < n) : digs r n = n % r :: digs r (n / r) := by
  obtain ⟨m, rfl⟩ : ∃ m, n = m + 1 := ⟨n - 1, by omega⟩
  have lt : (m + 1) / r < m + 1 := Nat.div_lt_self (by omega) (by omega)
  show (if m + 1 = 0 then [] else (m + 1) % r :: digsF m r ((m + 1) / r)) = (m + 1) % r :: digsF ((m + 1) / r) r ((m + 1) / r)
  rw [if_neg (by omega), digsF_more hr m ((m + 1) / r) ((m + 1) / r) (by omega) (by omega)]
theorem digs_len {r : Nat} (hr : 2 ≤ r) : ∀ (b n : Nat), n < 2 ^ b → (digs r n).length ≤ b
  | 0, n, h => by
    have e : n = 0 := by simpa using h
    subst e
    exact Nat.le_refl _
  | b + 1, n, h => by
    by_cases h0 : n = 0
    · subst h0
      exact Nat.zero_le _
    · rw [digs_pos hr (by omega), List.length_cons]
      have : n / r < 2 ^ b := by
        refine Nat.div_lt_of_lt_mul ?_
        rw [Nat.pow_succ] at h
        have : 2 * 2 ^ b ≤ r * 2 ^ b := Nat.mul_le_mul_right _ hr
        omega
      have := digs_len hr b (n / r) this
      omega
/-- no digit 2 -/
def plain (n : Nat) : Prop := 2 ∉ digs 3 n
instance (n : Nat) : Decidable (plain n) := by unfold plain; infer_instance
theorem plain_zero : plain 0 := by unfold plain; rw [digs_zero]; exact List.not_mem_nil
theorem digs_step {b n : Nat} (hb : b < 3) (h : 0 < b + 3 * n) : digs 3 (b + 3 * n) = b :: digs 3 n := by
  rw [digs_pos (by omega) h, show (b + 3 * n) % 3 = b by omega, show (b + 3 * n) / 3 = n by omega]
theorem plain_step {b n : Nat} (hb : b < 2) : plain (b + 3 * n) ↔ plain n := by
  unfold plain
  by_cases h : 0 < b + 3 * n
  · rw [digs_step (by omega) h, List.mem_cons]
    constructor
    · intro h1 h2
      exact h1 (.inr h2)
    · rintro h1 (h2 | h2)
      · omega
      · exact h1 h2
  · have e1 : b = 0 := by omega
    have e2 : n = 0 := by omega
    subst e1 e2
    exact Iff.rfl
theorem not_plain_two {n : Nat} : ¬ plain (2 + 3 * n) := by
  unfold plain
  rw [digs_step (by omega) (by omega)]
  intro h
  exact h List.mem_cons_self
/-- some place holds the digit 1 in both -/
def common (n m : Nat) : Prop := (1, 1) ∈ (digs 3 n).zip (digs 3 m)
instance (n m : Nat) : Decidable (common n m) := by unfold common; infer_instance
theorem common_step {b c n m : Nat} (hb : b < 3) (hc : c < 3) (h : ¬ (b = 1 ∧ c = 1)) : common (b + 3 * n) (c + 3 * m) → common n m := by
  unfold common
  by_cases h1 : 0 < b + 3 * n
  · by_cases h2 : 0 < c + 3 * m
    · rw [digs_step hb h1, digs_step hc h2, List.zip_cons_cons, List.mem_cons]
      rintro (e | e)
      · cases e
        exact absurd ⟨rfl, rfl⟩ h
      · exact e
    · rw [show c + 3 * m = 0 by omega, digs_zero, List.zip_nil_right]
      intro e
      cases e
  · rw [show b + 3 * n = 0 by omega, digs_zero, List.zip_nil_left]
    intro e
    cases e
/-! ### the pair of a difference -/
def dpF : Nat → Int → Nat × Nat
  | 0, _ => (0, 0)
  | f + 1, d => if d = 0 then (0, 0) else
    ((if d % 3 = 1 then 1 else 0) + 3 * (dpF f ((d + 1) / 3)).1, (if d % 3 = 2 then 1 else 0) + 3 * (dpF f ((d + 1) / 3)).2)
theorem dpF_more : ∀ (f g : Nat) (d : Int), d.natAbs ≤ f → d.natAbs ≤ g → dpF f d = dpF g d
  | 0, 0, d, _, _ => rfl
  | 0, g + 1, d, h, _ => by
    have e : d = 0 := by omega
    show (0, 0) = if d = 0 then (0, 0) else _
    rw [if_pos e]
  | f + 1, 0, d, _, h => by
    have e : d = 0 := by omega
    show (if d = 0 then (0, 0) else _) = (0, 0)
    rw [if_pos e]
  | f + 1, g + 1, d, h1, h2 => by
    show (if d = 0 then (0, 0) else _) = if d = 0 then (0, 0) else _
    by_cases h : d = 0
    · rw [if_pos h, if_pos h]
    · rw [if_neg h, if_neg h, dpF_more f g ((d + 1) / 3) (by omega) (by omega)]
def dp (d : Int) : Nat × Nat := dpF d.natAbs d
def dx (d : Int) : Nat := (dp d).1
def dy (d : Int) : Nat := (dp d).2
theorem dp_zero : dp 0 = (0, 0) := rfl
theorem dp_step {d : Int} (h : d ≠ 0) : dp d = ((if d % 3 = 1 then 1 else 0) + 3 * dx ((d + 1) / 3), (if d % 3 = 2 then 1 else 0) + 3 * dy ((d + 1) / 3)) := by
  unfold dx dy dp
  obtain ⟨f, hf⟩ : ∃ f, d.natAbs = f + 1 := ⟨d.natAbs - 1, by omega⟩
  rw [hf]
  show (if d = 0 then (0, 0) else _) = _
  rw [if_neg h, dpF_more f ((d + 1) / 3).natAbs _ (by omega) (Nat.le_refl _)]
theorem dx_step {d : Int} (h : d ≠ 0) : dx d = (if d % 3 = 1 then 1 else 0) + 3 * dx ((d + 1) / 3) := congrArg Prod.fst (dp_step h)
theorem dy_step {d : Int} (h : d ≠ 0) : dy d = (if d % 3 = 2 then 1 else 0) + 3 * dy ((d + 1) / 3) := congrArg Prod.snd (dp_step h)
theorem bal_ind {P : Int → Prop} (h0 : P 0) (hs : ∀ d : Int, d ≠ 0 → P ((d + 1) / 3) → P d) : ∀ d, P d := by
  have : ∀ (n : Nat) (d : Int), d.natAbs ≤ n → P d := by
    intro n
    induction n with
    | zero => intro d h; have e : d = 0 := by omega
              subst e; exact h0
    | succ n ih =>
      intro d h
      by_cases e : d = 0
      · subst e; exact h0
      · exact hs d e (ih _ (by omega))
  exact fun d => this _ d (Nat.le_refl _)
theorem dp_sub : ∀ d : Int, (dx d : Int) - dy d = d := by
  refine bal_ind rfl fun d h ih => ?_
  rw [dx_step h, dy_step h]
  by_cases h1 : d % 3 = 1
  · rw [if_pos h1, if_neg (by omega)]; omega
  · by_cases h2 : d % 3 = 2
    · rw [if_neg h1, if_pos h2]; omega
    · rw [if_neg h1, if_neg h2]; omega
theorem dx_plain : ∀ d : Int, plain (dx d) := by
  refine bal_ind plain_zero fun d h ih => ?_
  rw [dx_step h]
  refine (plain_step ?_).mpr ih
  split <;> omega
theorem dy_plain : ∀ d : Int, plain (dy d) := by
  refine bal_ind plain_zero fun d h ih => ?_
  rw [dy_step h]
  refine (plain_step ?_).mpr ih
  split <;> omega
theorem dp_common : ∀ d : Int, ¬ common (dx d) (dy d) := by
  refine bal_ind (by decide) fun d h ih => ?_
  rw [dx_step h, dy_step h]
  intro hc
  refine ih (common_step (by split <;> omega) (by split <;> omega) ?_ hc)
  rintro ⟨e1, e2⟩
  split at e1 <;> split at e2 <;> omega
theorem dp_neg : ∀ d : Int, dx (-d) = dy d ∧ dy (-d) = dx d := by
  refine bal_ind ⟨rfl, rfl⟩ fun d h ih => ?_
  have e : (-d + 1) / 3 = -((d + 1) / 3) := by omega
  have h1 : ((-d) % 3 = 1) ↔ (d % 3 = 2) := by omega
  have h2 : ((-d) % 3 = 2) ↔ (d % 3 = 1) := by omega
  rw [dx_step (show -d ≠ 0 by omega), dy_step (show -d ≠ 0 by omega), e, ih.1, ih.2, dx_step h, dy_step h]
  simp only [h1, h2, and_self]
theorem plain_add : ∀ (p n : Nat), plain n → n / 3 ^ p % 3 = 0 → plain (n + 3 ^ p)
  | 0, n, h, h0 => by
    rw [Nat.pow_zero, Nat.div_one] at h0
    have e : n = 0 + 3 * (n / 3) := by omega
    rw [e] at h
    have h2 := (plain_step (by omega)).mp h
    rw [Nat.pow_zero, show n + 1 = 1 + 3 * (n / 3) by omega]
    exact (plain_step (by omega)).mpr h2
  | p + 1, n, h, h0 => by
    have hb : n % 3 < 2 := by
      rcases Nat.lt_or_ge (n % 3) 2 with q | q
      · exact q
      · have e : n = 2 + 3 * (n / 3) := by omega
        rw [e] at h
        exact absurd h not_plain_two
    have e : n = n % 3 + 3 * (n / 3) := by omega
    have hp : plain (n / 3) := by
      rw [e] at h
      exact (plain_step hb).mp h
    have h1 : n / 3 / 3 ^ p % 3 = 0 := by
      rw [Nat.div_div_eq_div_mul, show 3 * 3 ^ p = 3 ^ (p + 1) by rw [Nat.pow_succ]; omega]
      exact h0
    have ih := plain_add p (n / 3) hp h1
    rw [show n + 3 ^ (p + 1) = n % 3 + 3 * (n / 3 + 3 ^ p) by rw [Nat.pow_succ]; omega]
    exact (plain_step hb).mpr ih
/-- the least members -/
def plains : List Nat := (List.range 730).filter fun n => decide (plain n)
end TM
namespace TM
theorem dp_lt : ∀ (j : Nat) (d : Int), d.natAbs < 2 ^ j → dx d < 3 ^ j ∧ dy d < 3 ^ j
  | 0, d, h => by
    have e : d = 0 := by rw [Nat.pow_zero] at h; omega
    subst e
    exact ⟨by decide, by decide⟩
  | j + 1, d, h => by
    by_cases h0 : d = 0
    · subst h0
      exact ⟨Nat.lt_of_le_of_lt (Nat.zero_le _) (Nat.pow_pos (by decide)), Nat.lt_of_le_of_lt (Nat.zero_le _) (Nat.pow_pos (by decide))⟩
    · have h2 : ((d + 1) / 3).natAbs < 2 ^ j := by
        rw [Nat.pow_succ] at h
        omega
      obtain ⟨a, b⟩ := dp_lt j _ h2
      rw [dx_step h0, dy_step h0, Nat.pow_succ]
      constructor
      · split <;> omega
      · split <;> omega
end TM

/-! members of the base set, their gaps, sums and mirrors: core Lean -/
namespace TM
theorem digs_cons {r b n : Nat} (hr : 2 ≤ r) (hb : b < r) (h : 0 < b + r * n) : digs r (b + r * n) = b :: digs r n := by
  rw [digs_pos hr h]
  have h1 : (b + r * n) % r = b := by rw [Nat.add_mul_mod_self_left, Nat.mod_eq_of_lt hb]
  have h2 : (b + r * n) / r = n := by rw [Nat.add_mul_div_left _ _ (by omega), Nat.div_eq_of_lt hb, Nat.zero_add]
  rw [h1, h2]
/-- digits read in a radix, the least one first -/
def rd (r : Nat) : List Nat → Nat
  | [] => 0
  | d :: l => d + r * rd r l
theorem rd_digs {r : Nat} (hr : 2 ≤ r) : ∀ (f n : Nat), n ≤ f → rd r (digs r n) = n
  | 0, n, h => by
    have e : n = 0 := by omega
    subst e
    rfl
  | f + 1, n, h => by
    by_cases h0 : n = 0
    · subst h0; rfl
    · have lt : n / r < n := Nat.div_lt_self (by omega) (by omega)
      rw [digs_pos hr (by omega)]
      show n % r + r * rd r (digs r (n / r)) = n
      rw [rd_digs hr f (n / r) (by omega)]
      exact Nat.mod_add_div n r
def B (n : Nat) : Nat := rd 3 (digs 2 n)
theorem B_zero : B 0 = 0 := rfl
theorem B_step {b n : Nat} (hb : b < 2) : B (b + 2 * n) = b + 3 * B n := by
  unfold B
  by_cases h : 0 < b + 2 * n
  · rw [digs_cons (by omega) hb h]; rfl
  · have e1 : b = 0 := by omega
    have e2 : n = 0 := by omega
    subst e1 e2
    rfl
theorem B_even (n : Nat) : B (2 * n) = 3 * B n := by
  have := B_step (b := 0) (n := n) (by omega)
  rw [Nat.zero_add, Nat.zero_add] at this
  exact this
theorem B_odd (n : Nat) : B (1 + 2 * n) = 1 + 3 * B n := B_step (by omega)
theorem bin_ind {P : Nat → Prop} (h0 : P 0) (hs : ∀ b n, b < 2 → 0 < b + 2 * n → P n → P (b + 2 * n)) : ∀ n, P n := by
  have : ∀ f n, n ≤ f → P n := by
    intro f
    induction f with
    | zero => intro n h; have e : n = 0 := by omega
              subst e; exact h0
    | succ f ih =>
      intro n h
      by_cases e : n = 0
      · subst e; exact h0
      · have := hs (n % 2) (n / 2) (by omega) (by omega) (ih (n / 2) (by omega))
        rw [show n % 2 + 2 * (n / 2) = n by omega] at this
        exact this
  exact fun n => this n n (Nat.le_refl _)
theorem B_pos {n : Nat} (h : 0 < n) : 0 < B n := by
  revert h
  refine bin_ind (P := fun n => 0 < n → 0 < B n) (fun h => absurd h (by omega)) (fun b n hb h ih _ => ?_) n
  rw [B_step hb]
  by_cases e : 0 < n
  · have := ih e; omega
  · omega
theorem B_digs : ∀ n, digs 3 (B n) = digs 2 n := by
  refine bin_ind rfl fun b n hb h ih => ?_
  have hp := B_pos h
  rw [B_step hb] at hp ⊢
  rw [digs_step (by omega) hp, digs_cons (by omega) hb h, ih]
theorem bits_lt : ∀ n, ∀ d ∈ digs 2 n, d < 2 := by
  refine bin_ind (fun d h => by cases h) fun b n hb h ih d hd => ?_
  rw [digs_cons (by omega) hb h] at hd
  rcases List.mem_cons.mp hd with e | e
  · omega
  · exact ih d e
theorem B_plain (n : Nat) : plain (B n) := by
  unfold plain
  rw [B_digs]
  intro h
  have := bits_lt n 2 h
  omega
/-- a common binary digit 1 -/
def commonB (n m : Nat) : Prop := (1, 1) ∈ (digs 2 n).zip (digs 2 m)
instance (n m : Nat) : Decidable (commonB n m) := by unfold commonB; infer_instance
theorem commonB_step {b c n m : Nat} (hb : b < 2) (hc : c < 2) : commonB (b + 2 * n) (c + 2 * m) ↔ (b = 1 ∧ c = 1) ∨ commonB n m := by
  unfold commonB
  by_cases h1 : 0 < b + 2 * n
  · by_cases h2 : 0 < c + 2 * m
    · rw [digs_cons (by omega) hb h1, digs_cons (by omega) hc h2, List.zip_cons_cons, List.mem_cons]
      constructor
      · rintro (e | e)
        · cases e; exact .inl ⟨rfl, rfl⟩
        · exact .inr e
      · rintro (⟨e1, e2⟩ | e)
        · subst e1 e2; exact .inl rfl
        · exact .inr e
    · have e1 : c = 0 := by omega
      have e2 : m = 0 := by omega
      subst e1 e2
      simp [digs_zero]
  · have e1 : b = 0 := by omega
    have e2 : n = 0 := by omega
    subst e1 e2
    simp [digs_zero]
theorem B_add : ∀ a b : Nat, B a + B b ≤ B (a + b) ∧ (B a + B b = B (a + b) ↔ ¬ commonB a b) := by
  refine bin_ind (P := fun a => ∀ b, B a + B b ≤ B (a + b) ∧ (B a + B b = B (a + b) ↔ ¬ commonB a b)) ?_ ?_
  · intro b
    rw [B_zero, Nat.zero_add, Nat.zero_add]
    refine ⟨Nat.le_refl _, ?_⟩
    have : ¬ commonB 0 b := by unfold commonB; rw [digs_zero, List.zip_nil_left]; exact List.not_mem_nil
    simp [this]
  · intro x a hx _ ih b
    obtain ⟨y, b', hy, rfl⟩ : ∃ y b', y < 2 ∧ b = y + 2 * b' := ⟨b % 2, b / 2, by omega, by omega⟩
    obtain ⟨i1, i2⟩ := ih b'
    rw [B_step hx, B_step hy, commonB_step hx hy]
    by_cases hc : x = 1 ∧ y = 1
    · obtain ⟨rfl, rfl⟩ := hc
      have e : 1 + 2 * a + (1 + 2 * b') = 0 + 2 * (a + b' + 1) := by omega
      rw [e, B_step (by omega)]
      have key : B (a + b') + 1 ≤ B (a + b' + 1) := by
        have : ∀ n, B n + 1 ≤ B (n + 1) := by
          refine bin_ind (by decide) fun z n hz _ ihn => ?_
          rcases (show z = 0 ∨ z = 1 by omega) with rfl | rfl
          · rw [show 0 + 2 * n + 1 = 1 + 2 * n by omega, B_odd, Nat.zero_add, B_even]; omega
          · rw [show 1 + 2 * n + 1 = 2 * (n + 1) by omega, B_odd, B_even]; omega
        exact this _
      refine ⟨by omega, ?_⟩
      constructor
      · intro z; omega
      · intro z; exact absurd (Or.inl ⟨rfl, rfl⟩) z
    · have e : x + 2 * a + (y + 2 * b') = (x + y) + 2 * (a + b') := by omega
      rw [e, B_step (by omega)]
      refine ⟨by omega, ?_⟩
      constructor
      · intro z
        have := i2.mp (by omega)
        rintro (q | q)
        · exact hc q
        · exact this q
      · intro z
        have := i2.mpr fun q => z (.inr q)
        omega
theorem B_mono {m n : Nat} (h : m ≤ n) : B m ≤ B n := by
  have := (B_add m (n - m)).1
  rw [show m + (n - m) = n by omega] at this
  omega
theorem B_lt {m n : Nat} (h : m < n) : B m < B n := by
  have := (B_add m (n - m)).1
  rw [show m + (n - m) = n by omega] at this
  have := B_pos (show 0 < n - m by omega)
  omega
theorem compl_none : ∀ (p a b : Nat), a + b + 1 = 2 ^ p → ¬ commonB a b
  | 0, a, b, h => by
    have e1 : a = 0 := by rw [Nat.pow_zero] at h; omega
    have e2 : b = 0 := by rw [Nat.pow_zero] at h; omega
    subst e1 e2
    decide
  | p + 1, a, b, h => by
    rw [Nat.pow_succ] at h
    rw [show a = a % 2 + 2 * (a / 2) by omega, show b = b % 2 + 2 * (b / 2) by omega, commonB_step (by omega) (by omega)]
    rintro (q | q)
    · omega
    · exact compl_none p (a / 2) (b / 2) (by omega) q
theorem B_compl {p a b : Nat} (h : a + b + 1 = 2 ^ p) : B a + B b = B (2 ^ p - 1) := by
  rw [((B_add a b).2.mpr (compl_none p a b h)), show a + b = 2 ^ p - 1 by omega]
theorem B_full : ∀ p : Nat, 2 * B (2 ^ p - 1) + 1 = 3 ^ p
  | 0 => rfl
  | p + 1 => by
    have hp : 0 < 2 ^ p := Nat.pow_pos (by decide)
    have e : 2 ^ (p + 1) - 1 = 1 + 2 * (2 ^ p - 1) := by rw [Nat.pow_succ]; omega
    have ih := B_full p
    rw [e, B_odd, Nat.pow_succ]
    omega
theorem B_bound {p n : Nat} (h : n < 2 ^ p) : 2 * B n < 3 ^ p := by
  have := B_mono (show n ≤ 2 ^ p - 1 by omega)
  have := B_full p
  omega
/-! ### gaps -/
def GF : Nat → Nat → Nat
  | 0, _ => 1
  | f + 1, n => if n % 2 = 0 then 3 * GF f (n / 2) else 1
def G (n : Nat) : Nat := GF n n
theorem GF_more : ∀ (f g n : Nat), 0 < n → n ≤ f → n ≤ g → GF f n = GF g n
  | 0, _, n, h, h1, _ => by omega
  | _ + 1, 0, n, h, _, h2 => by omega
  | f + 1, g + 1, n, h, h1, h2 => by
    show (if n % 2 = 0 then 3 * GF f (n / 2) else 1) = if n % 2 = 0 then 3 * GF g (n / 2) else 1
    by_cases e : n % 2 = 0
    · rw [if_pos e, if_pos e, GF_more f g (n / 2) (by omega) (by omega) (by omega)]
    · rw [if_neg e, if_neg e]
theorem G_even {n : Nat} (h : 0 < n) (e : n % 2 = 0) : G n = 3 * G (n / 2) := by
  unfold G
  obtain ⟨m, rfl⟩ : ∃ m, n = m + 1 := ⟨n - 1, by omega⟩
  show (if (m + 1) % 2 = 0 then 3 * GF m ((m + 1) / 2) else 1) = _
  rw [if_pos e, GF_more m ((m + 1) / 2) ((m + 1) / 2) (by omega) (by omega) (Nat.le_refl _)]
theorem G_odd {n : Nat} (e : n % 2 = 1) : G n = 1 := by
  unfold G
  obtain ⟨m, rfl⟩ : ∃ m, n = m + 1 := ⟨n - 1, by omega⟩
  show (if (m + 1) % 2 = 0 then 3 * GF m ((m + 1) / 2) else 1) = 1
  rw [if_neg (by omega)]
theorem G_gap : ∀ n : Nat, 0 < n → 2 * B n = 2 * B (n - 1) + (G n + 1) := by
  refine bin_ind (fun h => absurd h (by omega)) fun b n hb h ih _ => ?_
  rcases (show b = 0 ∨ b = 1 by omega) with rfl | rfl
  · have hn : 0 < n := by omega
    have i := ih hn
    rw [Nat.zero_add] at h ⊢
    rw [G_even h (by omega), show 2 * n / 2 = n by omega, show 2 * n - 1 = 1 + 2 * (n - 1) by omega, B_even, B_odd]
    omega
  · rw [G_odd (by omega), show 1 + 2 * n - 1 = 2 * n by omega, B_odd, B_even]
    omega
theorem G_pow : ∀ (p n : Nat), 0 < n → n < 2 ^ p → G n < 3 ^ p
  | 0, n, h, h2 => by rw [Nat.pow_zero] at h2; omega
  | p + 1, n, h, h2 => by
    rcases (show n % 2 = 0 ∨ n % 2 = 1 by omega) with e | e
    · rw [Nat.pow_succ] at h2
      have := G_pow p (n / 2) (by omega) (by omega)
      rw [G_even h e, Nat.pow_succ]
      omega
    · rw [G_odd e]
      have : 0 < 3 ^ p := Nat.pow_pos (by decide)
      rw [Nat.pow_succ]
      omega
/-! ### sums -/
def S : Nat → Nat
  | 0 => 0
  | n + 1 => S n + B n
def sm : Nat → (Nat → Nat) → Nat
  | 0, _ => 0
  | n + 1, f => sm n f + f n
theorem sm_shift (f : Nat → Nat) : ∀ n, sm (n + 1) f = f 0 + sm n fun j => f (j + 1)
  | 0 => by simp [sm]
  | n + 1 => by
    show sm (n + 1) f + f (n + 1) = f 0 + (sm n (fun j => f (j + 1)) + f (n + 1))
    rw [sm_shift f n]; omega
theorem sm_congr {f g : Nat → Nat} : ∀ n, (∀ j, j < n → f j = g j) → sm n f = sm n g
  | 0, _ => rfl
  | n + 1, h => by
    show sm n f + f n = sm n g + g n
    rw [sm_congr n fun j hj => h j (by omega), h n (by omega)]
theorem sm_add (f g : Nat → Nat) : ∀ n, sm n (fun j => f j + g j) = sm n f + sm n g
  | 0 => rfl
  | n + 1 => by
    show sm n (fun j => f j + g j) + (f n + g n) = sm n f + f n + (sm n g + g n)
    rw [sm_add f g n]; omega
theorem sm_mul (c : Nat) (f : Nat → Nat) : ∀ n, sm n (fun j => c * f j) = c * sm n f
  | 0 => rfl
  | n + 1 => by
    show sm n (fun j => c * f j) + c * f n = c * (sm n f + f n)
    rw [sm_mul c f n, Nat.mul_add]
theorem sm_bits : ∀ (L n : Nat), n < 2 ^ L → sm L (fun j => 3 ^ j * (n / 2 ^ j % 2)) = B n
  | 0, n, h => by
    have e : n = 0 := by rw [Nat.pow_zero] at h; omega
    subst e; rfl
  | L + 1, n, h => by
    rw [sm_shift]
    have e : sm L (fun j => 3 ^ (j + 1) * (n / 2 ^ (j + 1) % 2)) = 3 * sm L (fun j => 3 ^ j * (n / 2 / 2 ^ j % 2)) := by
      rw [← sm_mul]
      refine sm_congr L fun j _ => ?_
      rw [Nat.pow_succ 3 j, Nat.pow_succ 2 j, Nat.mul_comm (2 ^ j) 2, ← Nat.div_div_eq_div_mul, Nat.mul_comm (3 ^ j) 3, Nat.mul_assoc]
    rw [Nat.pow_succ] at h
    rw [e, sm_bits L (n / 2) (by omega)]
    simp only [Nat.pow_zero, Nat.one_mul, Nat.div_one]
    rw [← B_step (by omega), show n % 2 + 2 * (n / 2) = n by omega]
/-- how many of the first n numbers have the digit 1 at this place -/
def cn (p n : Nat) : Nat := n / (2 * p) * p + (n % (2 * p) - p)
theorem cn_zero (p : Nat) : cn p 0 = 0 := by unfold cn; simp
theorem cn_step {p : Nat} (hp : 0 < p) (n : Nat) : cn p (n + 1) = cn p n + n / p % 2 := by
  have h2 : 0 < 2 * p := by omega
  have dm := Nat.div_add_mod n (2 * p)
  have lt := Nat.mod_lt n h2
  generalize hq : n / (2 * p) = q at dm
  generalize hr : n % (2 * p) = r at dm lt
  have bit : n / p % 2 = if r < p then 0 else 1 := by
    by_cases h : r < p
    · rw [if_pos h]
      have : n / p = 2 * q := by
        rw [← dm, show 2 * p * q + r = r + p * (2 * q) by rw [Nat.mul_comm 2 p, Nat.mul_assoc]; omega, Nat.add_mul_div_left _ _ hp, Nat.div_eq_of_lt h, Nat.zero_add]
      rw [this]; omega
    · rw [if_neg h]
      have : n / p = 1 + 2 * q := by
        rw [← dm, show 2 * p * q + r = (r - p) + p * (1 + 2 * q) by rw [Nat.mul_add, Nat.mul_one, Nat.mul_comm 2 p, Nat.mul_assoc]; omega, Nat.add_mul_div_left _ _ hp, Nat.div_eq_of_lt (by omega), Nat.zero_add]
      rw [this]; omega
  unfold cn
  rw [hq, hr, bit]
  by_cases h : r + 1 < 2 * p
  · have e1 : (n + 1) / (2 * p) = q := by
      rw [← dm, show 2 * p * q + r + 1 = (r + 1) + 2 * p * q by omega, Nat.add_mul_div_left _ _ h2, Nat.div_eq_of_lt h, Nat.zero_add]
    have e2 : (n + 1) % (2 * p) = r + 1 := by
      rw [← dm, show 2 * p * q + r + 1 = (r + 1) + 2 * p * q by omega, Nat.add_mul_mod_self_left, Nat.mod_eq_of_lt h]
    rw [e1, e2]
    split <;> omega
  · have e0 : r + 1 = 2 * p := by omega
    have e1 : (n + 1) / (2 * p) = q + 1 := by
      rw [← dm, show 2 * p * q + r + 1 = 0 + 2 * p * (q + 1) by rw [Nat.mul_add]; omega, Nat.add_mul_div_left _ _ h2, Nat.zero_div, Nat.zero_add]
    have e2 : (n + 1) % (2 * p) = 0 := by
      rw [← dm, show 2 * p * q + r + 1 = 0 + 2 * p * (q + 1) by rw [Nat.mul_add]; omega, Nat.add_mul_mod_self_left, Nat.zero_mod]
    rw [e1, e2, Nat.add_mul]
    split <;> omega
theorem S_sum {L : Nat} : ∀ n, n ≤ 2 ^ L → sm L (fun j => 3 ^ j * cn (2 ^ j) n) = S n
  | 0, _ => by
    have : ∀ k, sm k (fun j => 3 ^ j * cn (2 ^ j) 0) = 0 := by
      intro k
      induction k with
      | zero => rfl
      | succ k ih => show sm k _ + 3 ^ k * cn (2 ^ k) 0 = 0; rw [ih, cn_zero]; simp
    exact this L
  | n + 1, h => by
    show _ = S n + B n
    rw [← S_sum (L := L) n (by omega), ← sm_bits L n (by omega), ← sm_add]
    refine sm_congr L fun j _ => ?_
    rw [cn_step (Nat.pow_pos (by decide)), Nat.mul_add]
theorem B_high (k m : Nat) (h : m < 2 ^ k) : B (2 ^ k + m) = 3 ^ k + B m := by
  have nc : ∀ (k m : Nat), m < 2 ^ k → ¬ commonB (2 ^ k) m ∧ B (2 ^ k) = 3 ^ k := by
    intro k
    induction k with
    | zero =>
      intro m h
      have e : m = 0 := by rw [Nat.pow_zero] at h; omega
      subst e
      exact ⟨by decide, by decide⟩
    | succ k ih =>
      intro m h
      rw [Nat.pow_succ] at h
      obtain ⟨i1, i2⟩ := ih (m / 2) (by omega)
      have e : 2 ^ (k + 1) = 0 + 2 * 2 ^ k := by rw [Nat.pow_succ]; omega
      refine ⟨?_, ?_⟩
      · rw [e, show m = m % 2 + 2 * (m / 2) by omega, commonB_step (by omega) (by omega)]
        rintro (q | q)
        · omega
        · exact i1 q
      · rw [e, B_step (by omega), i2, Nat.pow_succ]
        omega
  obtain ⟨i1, i2⟩ := nc k m h
  rw [← (B_add (2 ^ k) m).2.mpr i1, i2]
theorem S_split (k : Nat) : ∀ r, r ≤ 2 ^ k → S (2 ^ k + r) = S (2 ^ k) + S r + r * 3 ^ k
  | 0, _ => by simp [S]
  | r + 1, h => by
    show S (2 ^ k + r) + B (2 ^ k + r) = S (2 ^ k) + (S r + B r) + (r + 1) * 3 ^ k
    rw [S_split k r (by omega), B_high k r (by omega), Nat.succ_mul]
    omega
theorem S_pow : ∀ j : Nat, 4 * S (2 ^ j) + 2 ^ j = 2 ^ j * 3 ^ j
  | 0 => rfl
  | j + 1 => by
    have e : 2 ^ (j + 1) = 2 ^ j + 2 ^ j := by rw [Nat.pow_succ]; omega
    have ih := S_pow j
    rw [e, S_split j (2 ^ j) (Nat.le_refl _), Nat.pow_succ 3 j]
    have : (2 ^ j + 2 ^ j) * (3 ^ j * 3) = 6 * (2 ^ j * 3 ^ j) := by
      rw [Nat.add_mul, ← Nat.mul_assoc]; omega
    omega
theorem S_lt {L n : Nat} (h : n ≤ 2 ^ L) : S n ≤ n * 3 ^ L := by
  induction n with
  | zero => exact Nat.zero_le _
  | succ n ih =>
    have := ih (by omega)
    have b := B_bound (p := L) (n := n) (by omega)
    show S n + B n ≤ (n + 1) * 3 ^ L
    rw [Nat.succ_mul]
    omega
end TM

namespace TM
/-! ### the number of members below a number -/
def R (n : Nat) : Nat := if h : n = 0 then 0 else 2 * R (n / 3) + (if plain (n / 3) then n % 3 else 0)
termination_by n
decreasing_by omega
theorem R_zero : R 0 = 0 := by
  unfold R
  rw [dif_pos rfl]
theorem R_step {b m : Nat} (hb : b < 3) : R (b + 3 * m) = 2 * R m + (if plain m then b else 0) := by
  by_cases h : b + 3 * m = 0
  · have hb0 : b = 0 := by omega
    have hm0 : m = 0 := by omega
    subst hb0 hm0
    show R 0 = 2 * R 0 + (if plain 0 then 0 else 0)
    rw [R_zero]
    split <;> rfl
  · rw [R, dif_neg h, show (b + 3 * m) / 3 = m by omega, show (b + 3 * m) % 3 = b by omega]
theorem ter_ind {P : Nat → Prop} (h0 : P 0) (hs : ∀ b n, b < 3 → 0 < b + 3 * n → P n → P (b + 3 * n)) : ∀ n, P n := by
  intro n
  induction n using Nat.strongRecOn with
  | ind n ih =>
    by_cases h : n = 0
    · rw [h]; exact h0
    · have e : n % 3 + 3 * (n / 3) = n := by omega
      rw [← e]
      exact hs _ _ (by omega) (by omega) (ih _ (by omega))
/-- every number whose digits are 0 and 1 is a member -/
theorem plain_B : ∀ n, plain n → ∃ r, B r = n := by
  refine ter_ind (fun _ => ⟨0, rfl⟩) fun b n hb hp ih h => ?_
  by_cases h2 : b = 2
  · subst h2
    exact absurd h not_plain_two
  · have hb2 : b < 2 := by omega
    obtain ⟨r, e⟩ := ih ((plain_step hb2).mp h)
    exact ⟨b + 2 * r, by rw [B_step hb2, e]⟩
theorem R_iff : ∀ n k, B k < n ↔ k < R n := by
  refine ter_ind (fun k => by rw [R_zero]; omega) fun b n hb hp ih k => ?_
  have ek : B k = k % 2 + 3 * B (k / 2) := by
    have := B_step (b := k % 2) (n := k / 2) (by omega)
    rw [show k % 2 + 2 * (k / 2) = k by omega] at this
    exact this
  have hj := ih (k / 2)
  rw [R_step hb, ek]
  have hc : k % 2 < 2 := by omega
  by_cases hpl : plain n
  · rw [if_pos hpl]
    obtain ⟨r, e⟩ := plain_B n hpl
    have hr : R n = r := by
      have h1 := ih r
      rw [e] at h1
      have h3 : ¬ r < R n := fun z => Nat.lt_irrefl _ (h1.mpr z)
      by_cases h4 : R n < r
      · have h5 := B_lt h4
        rw [e] at h5
        have := (ih (R n)).mp h5
        omega
      · omega
    rw [hr] at hj ⊢
    have h6 : B (k / 2) = n ↔ k / 2 = r := by
      constructor
      · intro z
        rcases Nat.lt_trichotomy (k / 2) r with y | y | y
        · have := B_lt y; omega
        · exact y
        · have := B_lt y; omega
      · intro z
        rw [z, e]
    constructor
    · intro z
      by_cases y : B (k / 2) < n
      · have := hj.mp y
        omega
      · have q : B (k / 2) = n := by omega
        have := h6.mp q
        omega
    · intro z
      by_cases y : k / 2 < r
      · have := hj.mpr y
        omega
      · have q : k / 2 = r := by omega
        have := h6.mpr q
        omega
  · rw [if_neg hpl]
    have hne : B (k / 2) ≠ n := fun z => hpl (by rw [← z]; exact B_plain _)
    constructor
    · intro z
      have := hj.mp (by omega)
      omega
    · intro z
      have := hj.mpr (by omega)
      omega
theorem R_B (r : Nat) : R (B r) = r := by
  have h1 := R_iff (B r) r
  by_cases h : R (B r) < r
  · have := (R_iff (B r) (R (B r))).mp (B_lt h)
    omega
  · have : ¬ r < R (B r) := fun z => Nat.lt_irrefl _ (h1.mpr z)
    omega
theorem R_B1 (r : Nat) : R (B r + 1) = r + 1 := by
  have h1 := (R_iff (B r + 1) r).mp (Nat.lt_succ_self _)
  by_cases h : r + 1 < R (B r + 1)
  · have := (R_iff (B r + 1) (r + 1)).mpr h
    have : B r < B (r + 1) := B_lt (by omega)
    omega
  · omega
/-- the next member -/
theorem next_ge (n : Nat) : n ≤ B (R n) := by
  by_cases h : n ≤ B (R n)
  · exact h
  · exact absurd ((R_iff n (R n)).mp (by omega)) (Nat.lt_irrefl _)
theorem between_not {g n : Nat} (h1 : g < n) (h2 : n < B (R (g + 1))) : ¬ plain n := by
  intro hp
  obtain ⟨k, e⟩ := plain_B n hp
  have h3 : ¬ k < R (g + 1) := fun z => by
    have := (R_iff (g + 1) k).mpr z
    omega
  have := B_mono (show R (g + 1) ≤ k by omega)
  omega
theorem R_le (n : Nat) : R n ≤ n := by
  by_cases h : R n ≤ n
  · exact h
  · have h1 := (R_iff n n).mpr (by omega)
    have h2 : ∀ k, k ≤ B k := by
      refine bin_ind (Nat.le_refl _) fun b m hb hp ih => ?_
      rw [B_step hb]
      omega
    have := h2 n
    omega
theorem le_B : ∀ k, k ≤ B k := by
  refine bin_ind (Nat.le_refl _) fun b m hb hp ih => ?_
  rw [B_step hb]
  omega
/-- a digit 2 behind a plain beginning -/
theorem R_two {m : Nat} (hm : plain m) : ∀ (p low : Nat), low < 3 ^ p → R (low + 3 ^ p * (2 + 3 * m)) = (R m + 1) * 2 ^ (p + 1) ∧ ¬ plain (low + 3 ^ p * (2 + 3 * m))
  | 0, low, h => by
    have : low = 0 := by
      rw [Nat.pow_zero] at h
      omega
    subst this
    rw [Nat.pow_zero, Nat.one_mul, Nat.zero_add, R_step (by omega), if_pos hm]
    exact ⟨by rw [Nat.zero_add, Nat.pow_one]; omega, not_plain_two⟩
  | p + 1, low, h => by
    have e : low + 3 ^ (p + 1) * (2 + 3 * m) = low % 3 + 3 * (low / 3 + 3 ^ p * (2 + 3 * m)) := by
      rw [Nat.pow_succ, Nat.mul_right_comm, Nat.mul_comm (3 ^ p * _) 3]
      omega
    obtain ⟨h1, h2⟩ := R_two hm p (low / 3) (by rw [Nat.pow_succ] at h; omega)
    rw [e]
    refine ⟨?_, fun z => ?_⟩
    · rw [R_step (by omega), if_neg h2, h1, Nat.pow_succ 2 (p + 1)]
      rw [Nat.add_zero, Nat.mul_comm 2, Nat.mul_assoc]
    · by_cases h3 : low % 3 = 2
      · rw [h3] at z
        exact not_plain_two z
      · exact h2 ((plain_step (by omega)).mp z)
/-! ### joins and meets -/
theorem bit_split (a : Nat) : a = a % 2 + 2 * (a / 2) := by omega
theorem or_step {b c m n : Nat} (hb : b < 2) (hc : c < 2) : (b + 2 * m) ||| (c + 2 * n) = max b c + 2 * (m ||| n) := by
  have h1 : ((b + 2 * m) ||| (c + 2 * n)) / 2 = m ||| n := by
    rw [Nat.or_div_two, show (b + 2 * m) / 2 = m by omega, show (c + 2 * n) / 2 = n by omega]
  have h2 : ((b + 2 * m) ||| (c + 2 * n)) % 2 = max b c := by
    rw [Nat.or_mod_two_pow (n := 1), show (b + 2 * m) % 2 ^ 1 = b by omega, show (c + 2 * n) % 2 ^ 1 = c by omega]
    rcases (by omega : b = 0 ∨ b = 1) with rfl | rfl <;> rcases (by omega : c = 0 ∨ c = 1) with rfl | rfl <;> rfl
  have := bit_split ((b + 2 * m) ||| (c + 2 * n))
  omega
theorem and_step {b c m n : Nat} (hb : b < 2) (hc : c < 2) : (b + 2 * m) &&& (c + 2 * n) = min b c + 2 * (m &&& n) := by
  have h1 : ((b + 2 * m) &&& (c + 2 * n)) / 2 = m &&& n := by
    rw [Nat.and_div_two, show (b + 2 * m) / 2 = m by omega, show (c + 2 * n) / 2 = n by omega]
  have h2 : ((b + 2 * m) &&& (c + 2 * n)) % 2 = min b c := by
    rw [Nat.and_mod_two_pow (n := 1), show (b + 2 * m) % 2 ^ 1 = b by omega, show (c + 2 * n) % 2 ^ 1 = c by omega]
    rcases (by omega : b = 0 ∨ b = 1) with rfl | rfl <;> rcases (by omega : c = 0 ∨ c = 1) with rfl | rfl <;> rfl
  have := bit_split ((b + 2 * m) &&& (c + 2 * n))
  omega
/-- a join and a meet together are the sum -/
theorem B_or_and : ∀ a b : Nat, B (a ||| b) + B (a &&& b) = B a + B b := by
  refine bin_ind (fun b => by rw [Nat.zero_or, Nat.zero_and, B_zero]; omega) fun b m hb hp ih k => ?_
  rw [bit_split k]
  have hc : k % 2 < 2 := by omega
  rw [or_step hb hc, and_step hb hc, B_step (by omega), B_step (by omega), B_step hb, B_step hc]
  have := ih (k / 2)
  omega
theorem B_or_le (a b : Nat) : B (a ||| b) ≤ B a + B b := by
  have := B_or_and a b
  omega
theorem B_and_le (a b : Nat) : B (a &&& b) ≤ B a := B_mono Nat.and_le_left
/-! ### no three members are evenly spaced -/
theorem no_triple : ∀ b a c : Nat, B a + B c = 2 * B b → a = b ∧ c = b := by
  refine bin_ind (fun a c h => ?_) fun d m hd hp ih a c h => ?_
  · rw [B_zero] at h
    have h1 := le_B a
    have h2 := le_B c
    omega
  · have ea : B a = a % 2 + 3 * B (a / 2) := by
      have := B_step (b := a % 2) (n := a / 2) (by omega)
      rw [show a % 2 + 2 * (a / 2) = a by omega] at this
      exact this
    have ec : B c = c % 2 + 3 * B (c / 2) := by
      have := B_step (b := c % 2) (n := c / 2) (by omega)
      rw [show c % 2 + 2 * (c / 2) = c by omega] at this
      exact this
    rw [B_step hd, ea, ec] at h
    have ha : a % 2 < 2 := by omega
    have hc : c % 2 < 2 := by omega
    obtain ⟨y1, y2⟩ := ih (a / 2) (c / 2) (by omega)
    rw [y1, y2] at h
    omega
/-! ### the plain pair -/
def py (n : Nat) : Nat := rd 3 ((digs 3 n).map fun d => d % 2)
def pz (n : Nat) : Nat := rd 3 ((digs 3 n).map fun d => min d 1)
theorem py_step {b n : Nat} (hb : b < 3) : py (b + 3 * n) = b % 2 + 3 * py n := by
  unfold py
  by_cases h : 0 < b + 3 * n
  · rw [digs_cons (by omega) hb h]
    rfl
  · have h1 : b = 0 := by omega
    have h2 : n = 0 := by omega
    subst h1 h2
    rfl
theorem pz_step {b n : Nat} (hb : b < 3) : pz (b + 3 * n) = min b 1 + 3 * pz n := by
  unfold pz
  by_cases h : 0 < b + 3 * n
  · rw [digs_cons (by omega) hb h]
    rfl
  · have h1 : b = 0 := by omega
    have h2 : n = 0 := by omega
    subst h1 h2
    rfl
theorem pair_eq : ∀ n, 2 * pz n = n + py n := by
  refine ter_ind rfl fun b n hb hp ih => ?_
  rw [py_step hb, pz_step hb]
  rcases (by omega : b = 0 ∨ b = 1 ∨ b = 2) with rfl | rfl | rfl <;> simp <;> omega
theorem pair_plain : ∀ n, plain (py n) ∧ plain (pz n) := by
  refine ter_ind ⟨plain_zero, plain_zero⟩ fun b n hb hp ih => ?_
  rw [py_step hb, pz_step hb]
  exact ⟨(plain_step (by omega)).mpr ih.1, (plain_step (by omega)).mpr ih.2⟩
theorem pair_lt : ∀ n, py n ≤ pz n ∧ (py n = pz n ↔ plain n) := by
  refine ter_ind ⟨Nat.le_refl _, ⟨fun _ => plain_zero, fun _ => rfl⟩⟩ fun b n hb hp ih => ?_
  rw [py_step hb, pz_step hb]
  rcases (by omega : b = 0 ∨ b = 1 ∨ b = 2) with rfl | rfl | rfl
  · refine ⟨by omega, ?_⟩
    rw [plain_step (by omega), ← ih.2]
    omega
  · refine ⟨by omega, ?_⟩
    rw [plain_step (by omega), ← ih.2]
    omega
  · refine ⟨by omega, ⟨fun z => ?_, fun z => absurd z not_plain_two⟩⟩
    have := ih.1
    omega
end TM

namespace TM
/-! the exponent of 2, and the gaps in front of members -/
def ev (n : Nat) : Nat := if h : n = 0 then 0 else if n % 2 = 1 then 0 else ev (n / 2) + 1
termination_by n
decreasing_by omega
theorem ev_odd (m : Nat) : ev (1 + 2 * m) = 0 := by
  unfold ev
  rw [dif_neg (by omega), if_pos (by omega)]
theorem ev_even {m : Nat} (h : 0 < m) : ev (2 * m) = ev m + 1 := by
  rw [ev, dif_neg (by omega), if_neg (by omega)]
  rw [show 2 * m / 2 = m by omega]
/-- the gap with this exponent -/
def ge : Nat → Nat
  | 0 => 1
  | e + 1 => 3 * ge e - 1
theorem ge_pos : ∀ e, 0 < ge e
  | 0 => by decide
  | e + 1 => by have := ge_pos e; unfold ge; omega
theorem ge_eq (e : Nat) : 2 * ge e = 3 ^ e + 1 := by
  induction e with
  | zero => rfl
  | succ e ih =>
    have := ge_pos e
    rw [Nat.pow_succ]
    show 2 * (3 * ge e - 1) = _
    omega
theorem even_ind {P : Nat → Prop} (ho : ∀ m, P (1 + 2 * m)) (he : ∀ m, 0 < m → P m → P (2 * m)) : ∀ n, 0 < n → P n := by
  intro n
  induction n using Nat.strongRecOn with
  | ind n ih =>
    intro h
    by_cases z : n % 2 = 1
    · rw [show n = 1 + 2 * (n / 2) by omega]; exact ho _
    · rw [show n = 2 * (n / 2) by omega]
      exact he _ (by omega) (ih _ (by omega) (by omega))
theorem G_ev : ∀ n, 0 < n → G n = 3 ^ ev n := by
  refine even_ind (fun m => ?_) (fun m hm ih => ?_)
  · rw [ev_odd, G_odd (by omega)]
  · rw [ev_even hm, G_even (by omega) (by omega), show 2 * m / 2 = m by omega, ih, Nat.pow_succ, Nat.mul_comm]
theorem B_next (n : Nat) : B (n + 1) = B n + ge (ev (n + 1)) := by
  have h := G_gap (n + 1) (by omega)
  rw [G_ev (n + 1) (by omega)] at h
  have := ge_eq (ev (n + 1))
  rw [show n + 1 - 1 = n by omega] at h
  omega
/-- the lowest digit 1 -/
theorem low_bit : ∀ n, 0 < n → (n &&& (n - 1)) + 2 ^ ev n = n := by
  refine even_ind (fun m => ?_) (fun m hm ih => ?_)
  · have h := and_step (b := 1) (c := 0) (m := m) (n := m) (by decide) (by decide)
    rw [ev_odd, show 1 + 2 * m - 1 = 0 + 2 * m by omega, h, Nat.and_self]
    show min 1 0 + 2 * m + 1 = 1 + 2 * m
    omega
  · have h := and_step (b := 0) (c := 1) (m := m) (n := m - 1) (by decide) (by decide)
    rw [ev_even hm, show 2 * m - 1 = 1 + 2 * (m - 1) by omega, show 2 * m = 0 + 2 * m by omega, h, Nat.pow_succ]
    show min 0 1 + 2 * (m &&& (m - 1)) + 2 ^ ev m * 2 = 0 + 2 * m
    omega
theorem ev_lt : ∀ n, 0 < n → 2 ^ ev n ≤ n := fun n h => by have := low_bit n h; omega
theorem ge_lt (e : Nat) : ge e ≤ 3 ^ e := by
  have h := ge_eq e
  have : 0 < 3 ^ e := Nat.pow_pos (by decide)
  omega
/-- the list of the first gaps -/
def gl (L : Nat) : List Nat := (List.range L).map ge
theorem gl_len (L : Nat) : (gl L).length = L := by unfold gl; rw [List.length_map, List.length_range]
theorem gl_succ (L : Nat) : gl (L + 1) = gl L ++ [ge L] := by unfold gl; rw [List.range_succ, List.map_append]; rfl
theorem gl_get {L e : Nat} (h : e < L) : (gl L)[e]? = some (ge e) := by
  unfold gl
  rw [List.getElem?_map, List.getElem?_range h]; rfl
end TM

namespace TF
open PySem PySem.Spec PyProof.Rows L2
/-! ### a def that is only called where no repr is running -/
structure GOk (P : Program) (w : World) (K : PySem.W.Frag) (mg : Str → Option Value) (base : Heap) (k : Nat) (f : Addr)
    (fd : FuncData) (ps : List Str) (sp : Sp) : Prop where
  size : ∀ vs H Q E, sp vs H Q E → vs.length = ps.length
  runs : ∀ (A : Around) (outer : List Env) (s : Shared) (H : Hp) (args : Args) (us : List Value) (vs : List V) (Q : VK) (E : XK),
    Room k A → A.guards = some [] → Env0 P w K mg base A outer s H → BindsTo s fd args (ps.zip us) → Vals vs us → sp vs H Q E →
      codeAny (model P w) A (.call (.ref f) args) (CR CX0 outer P w H s Q E) s
section
variable {X : Cx} {pins : List (Addr × Obj)} {σ : L2.St} {H : Hp} {s : Shared}
/-- repr of data -/
def rRep (K : PySem.W.Frag) : List V → Hp → VK → Prop := fun xs H Q => ∃ (a : Addr) (d : PyData), xs = [.ref a] ∧ Dp K H (.ref a) d ∧
  d.showable = true ∧ d.hasDict = false ∧ d.depth ≤ 60 ∧ d.shown.length ≤ sizeLine ∧ Q (.str d.shown) H
theorem call_rep (hg : X.A.guards = some []) (hu : X.A.units + 64 < cLine) : CallR X (.builtin "repr") (rRep X.K) := by
  intro pins s σ H xs us Q I r h
  obtain ⟨a, d, rfl, hd, hs, hnd, hdp, hz, q⟩ := h
  obtain ⟨u, rfl, ru⟩ := vals1 r
  cases ru
  obtain ⟨as, rd⟩ := Dp.reads I d _ _ hd rfl
  refine repr_of_reads' rd hs (PyData.noDict_hsm hnd) hg (by omega) (fun _ _ e => e) (fun h' u tk hk => ?_) hz
  exact ⟨.str d.shown, H, I.kept hk, ⟨u, rfl⟩, q⟩
end
end TF

namespace TFZ
open PySem PySem.Calls PyProof.Rows PyProof.V PySem.Spec
/-- a zip whose last pair still lives at a -/
abbrev ZipB (h : Heap) (z TI TO a : Addr) (f : Bool) : Prop :=
  h.get? z = some { cls := .type "zip", dict := none, data := .fields #[rawInt a, .bool f, .bool false, .ref TI, .ref TO], slots := #[] }
section
variable {prog : Program} {w : World} {A : Around} {E : Value → Shared → Prop} {s : Shared}
theorem zip_more {z TI TO i1 i2 l1 l2 a : Addr} {f : Bool} {oa : Obj} {k1 k2 : Nat} {xs ys : Array Value} {x y : Value} {Q : Value → Shared → Prop}
    (D : ZipApart z TI TO i1 i2 l1 l2) (hz : ZipB s.heap z TI TO a f) (ha : s.heap.get? a = some oa) (haz : a ≠ z)
    (hTI : IsPair s.heap TI (.ref i1) (.ref i2)) (h1 : s.heap.IsListIter i1 l1 k1) (h2 : s.heap.IsListIter i2 l2 k2)
    (hl1 : s.heap.IsList l1 xs) (hl2 : s.heap.IsList l2 ys) (hx : xs[k1]? = some x) (hy : ys[k2]? = some y)
    (hQ : ∀ h', ZipB h' z TI TO a true → h'.IsListIter i1 l1 (k1 + 1) → h'.IsListIter i2 l2 (k2 + 1) →
      IsPair h' s.heap.objs.size x y → h'.objs.size = s.heap.objs.size + 1 →
      (∀ c o, c ≠ z → c ≠ i1 → c ≠ i2 → s.heap.get? c = some o → h'.get? c = some o) → Q (.ref s.heap.objs.size) { s with heap := h' }) :
    wpAny (model prog w) A (Builtin.«zip.__next__» ⟨[.ref z], []⟩) (fun fin s' => ∃ v, fin = .done (.ret v) ∧ Q v s') E s := by
  obtain ⟨hp, g, dr, tk, os⟩ := s
  replace hz : ZipB hp z TI TO a f := hz
  show wpAny _ _ (field (.ref z) 2 >>= _) _ _ _
  refine wpAny_bind (wpAny_field hz rfl (x := .bool false) rfl ?_)
  show wpAny _ _ (field (.ref z) 3 >>= _) _ _ _
  refine wpAny_bind (wpAny_field hz rfl (x := .ref TI) rfl ?_)
  refine wpAny_bind (wpAny_seqItems hTI rfl ?_)
  show wpAny _ _ (Builtin.SmallTypes.ownedTupleIsFree (.ref z) >>= _) _ _ _
  refine wpAny_bind ?_
  unfold Builtin.SmallTypes.ownedTupleIsFree
  refine wpAny_bind (wpAny_field hz rfl (x := rawInt a) rfl ?_)
  show wpAny _ _ (loadIfAlive ((a : Int).toNat) >>= _) _ _ _
  rw [Int.toNat_natCast]
  refine wpAny_bind (PySem.W.kdx_alive ha ?_)
  simp only [Option.isNone_some, Bool.false_eq_true, if_false]
  refine wpAny_bind (wpAny_field hz rfl (x := .bool f) rfl ?_)
  have fin : ∀ h₁ : Heap, ZipB h₁ z TI TO a true → Heap.SameBut z hp h₁ → ∀ h₃, h₃.IsListIter i1 l1 (k1 + 1) → h₃.IsListIter i2 l2 (k2 + 1) →
      h₃.objs.size = hp.objs.size → ZipB h₃ z TI TO a true → (∀ c o, c ≠ z → c ≠ i1 → c ≠ i2 → hp.get? c = some o → h₃.get? c = some o) →
      wpAny (model prog w) A (newTuple [x, y] >>= fun v => ret v) (fun fin s' => ∃ v, fin = .done (.ret v) ∧ Q v s') E ⟨h₃, g, dr, tk, os⟩ := by
    intro h₁ hz₁ hs₁ h₃ e1 e2 e3 e4 e5
    refine wpAny_bind (wpAny_newTuple ?_)
    refine wpAny_pure ⟨_, rfl, ?_⟩
    show Q (.ref h₃.objs.size) _
    rw [e3]
    refine hQ _ (Heap.get?_push_of_some _ e4) (e1.at fun o e => Heap.get?_push_of_some _ e) (e2.at fun o e => Heap.get?_push_of_some _ e) ?_ (by rw [Heap.size_push, e3]) fun c o c1 c2 c3 e => Heap.get?_push_of_some _ (e5 c o c1 c2 c3 e)
    rw [← e3]
    exact Heap.get?_push_size _ rfl
  have n1 : ∀ h₁ : Heap, ZipB h₁ z TI TO a true → Heap.SameBut z hp h₁ → ∀ R : Value → Shared → Prop,
      (∀ h₂, h₂.IsListIter i1 l1 (k1 + 1) → Heap.SameBut i1 h₁ h₂ → R x ⟨h₂, g, dr, tk, os⟩) → wpAny (model prog w) A (Builtin.SmallTypes.nextOf (.ref i1)) R E ⟨h₁, g, dr, tk, os⟩ :=
    fun h₁ _ hs₁ R q => wpAny_nextOf_list_item (h1.extBut hs₁.extBut D.i1z) (hl1.extBut hs₁.extBut D.l1z) hx q
  have n2 : ∀ h₁ h₂ : Heap, Heap.SameBut z hp h₁ → Heap.SameBut i1 h₁ h₂ → ∀ R : Value → Shared → Prop,
      (∀ h₃, h₃.IsListIter i2 l2 (k2 + 1) → Heap.SameBut i2 h₂ h₃ → R y ⟨h₃, g, dr, tk, os⟩) → wpAny (model prog w) A (Builtin.SmallTypes.nextOf (.ref i2)) R E ⟨h₂, g, dr, tk, os⟩ :=
    fun h₁ h₂ hs₁ hs₂ R q => wpAny_nextOf_list_item ((h2.extBut hs₁.extBut D.i2z).extBut hs₂.extBut D.i12.symm) ((hl2.extBut hs₁.extBut D.l2z).extBut hs₂.extBut D.l2i1) hy q
  cases f with
  | true =>
    rw [if_neg (show ¬ ((Value.bool true != Value.bool true) = true) from Bool.false_ne_true)]
    refine wpAny_pure ?_
    simp only [Bool.false_eq_true, if_false]
    simp only [← Array.forIn_toList, List.forIn_cons, List.forIn_nil]
    refine wpAny_bind (wpAny_bind (wpAny_bind (wpAny_holding ?_)))
    show wpAny _ _ (Builtin.SmallTypes.nextOf (.ref i1) >>= _) _ _ _
    refine wpAny_bind (n1 hp hz (Heap.SameBut.refl _ _) _ fun h₂ h1₂ hs₂ => wpAny_pure (wpAny_pure ?_))
    refine wpAny_bind (wpAny_bind (wpAny_holding ?_))
    show wpAny _ _ (Builtin.SmallTypes.nextOf (.ref i2) >>= _) _ _ _
    refine wpAny_bind (n2 hp h₂ (Heap.SameBut.refl _ _) hs₂ _ fun h₃ h2₃ hs₃ => wpAny_pure (wpAny_pure (wpAny_pure ?_)))
    exact fin hp hz (Heap.SameBut.refl _ _) h₃ (h1₂.extBut hs₃.extBut D.i12) h2₃ (by rw [hs₃.1, hs₂.1]) (hs₃.extBut _ _ D.i2z.symm (hs₂.extBut _ _ D.i1z.symm hz))
      fun c o c1 c2 c3 e => hs₃.extBut _ _ c3 (hs₂.extBut _ _ c2 e)
  | false =>
    rw [if_pos (show (Value.bool false != Value.bool true) = true from rfl)]
    refine wpAny_bind (wpAny_setField_rec hz (by simp) fun h₁ hz₁ hs₁ => wpAny_pure ?_)
    replace hz₁ : ZipB h₁ z TI TO a true := hz₁
    simp only [Bool.false_eq_true, if_false]
    simp only [← Array.forIn_toList, List.forIn_cons, List.forIn_nil]
    refine wpAny_bind (wpAny_bind (wpAny_bind (wpAny_holding ?_)))
    show wpAny _ _ (Builtin.SmallTypes.nextOf (.ref i1) >>= _) _ _ _
    refine wpAny_bind (n1 h₁ hz₁ hs₁ _ fun h₂ h1₂ hs₂ => wpAny_pure (wpAny_pure ?_))
    refine wpAny_bind (wpAny_bind (wpAny_holding ?_))
    show wpAny _ _ (Builtin.SmallTypes.nextOf (.ref i2) >>= _) _ _ _
    refine wpAny_bind (n2 h₁ h₂ hs₁ hs₂ _ fun h₃ h2₃ hs₃ => wpAny_pure (wpAny_pure (wpAny_pure ?_)))
    exact fin h₁ hz₁ hs₁ h₃ (h1₂.extBut hs₃.extBut D.i12) h2₃ (by rw [hs₃.1, hs₂.1, hs₁.1]) (hs₃.extBut _ _ D.i2z.symm (hs₂.extBut _ _ D.i1z.symm hz₁))
      fun c o c1 c2 c3 e => hs₃.extBut _ _ c3 (hs₂.extBut _ _ c2 (hs₁.extBut _ _ c1 e))
/-- its end -/
theorem zip_over {z TI TO i1 i2 l1 l2 a : Addr} {f : Bool} {oa : Obj} {k1 k2 : Nat} {xs ys : Array Value} {Q : Fin → Shared → Prop} (hh : A.handled = none)
    (D : ZipApart z TI TO i1 i2 l1 l2) (hz : ZipB s.heap z TI TO a f) (ha : s.heap.get? a = some oa) (haz : a ≠ z)
    (hTI : IsPair s.heap TI (.ref i1) (.ref i2)) (h1 : s.heap.IsListIter i1 l1 k1) (h2 : s.heap.IsListIter i2 l2 k2)
    (hl1 : s.heap.IsList l1 xs) (hl2 : s.heap.IsList l2 ys) (hend : xs[k1]? = none ∨ ys[k2]? = none)
    (hE : ∀ h' e, (∀ c o, c ≠ z → c ≠ i1 → c ≠ i2 → s.heap.get? c = some o → h'.get? c = some o) → (∃ o, h'.get? e = some o ∧ o.cls = .type "StopIteration") → E (.ref e) { s with heap := h' }) :
    wpAny (model prog w) A (Builtin.«zip.__next__» ⟨[.ref z], []⟩) Q E s := by
  obtain ⟨hp, g, dr, tk, os⟩ := s
  replace hz : ZipB hp z TI TO a f := hz
  show wpAny _ _ (field (.ref z) 2 >>= _) _ _ _
  refine wpAny_bind (wpAny_field hz rfl (x := .bool false) rfl ?_)
  show wpAny _ _ (field (.ref z) 3 >>= _) _ _ _
  refine wpAny_bind (wpAny_field hz rfl (x := .ref TI) rfl ?_)
  refine wpAny_bind (wpAny_seqItems hTI rfl ?_)
  show wpAny _ _ (Builtin.SmallTypes.ownedTupleIsFree (.ref z) >>= _) _ _ _
  refine wpAny_bind ?_
  unfold Builtin.SmallTypes.ownedTupleIsFree
  refine wpAny_bind (wpAny_field hz rfl (x := rawInt a) rfl ?_)
  show wpAny _ _ (loadIfAlive ((a : Int).toNat) >>= _) _ _ _
  rw [Int.toNat_natCast]
  refine wpAny_bind (PySem.W.kdx_alive ha ?_)
  simp only [Option.isNone_some, Bool.false_eq_true, if_false]
  refine wpAny_bind (wpAny_field hz rfl (x := .bool f) rfl ?_)
  have go : ∀ h₁ : Heap, Heap.SameBut z hp h₁ → ∀ R : Value → Shared → Prop, (∀ h₂, h₂.IsListIter i1 l1 (k1 + 1) → Heap.SameBut i1 h₁ h₂ → ∀ x, xs[k1]? = some x → R x ⟨h₂, g, dr, tk, os⟩) →
      wpAny (model prog w) A (Builtin.SmallTypes.nextOf (.ref i1)) R E ⟨h₁, g, dr, tk, os⟩ := fun h₁ hs₁ R q => by
    cases hx : xs[k1]? with
    | none => exact wpAny_nextOf_list_end hh (h1.extBut hs₁.extBut D.i1z) (hl1.extBut hs₁.extBut D.l1z) hx fun h₂ e hs₂ he => hE h₂ e (fun c o c1 c2 c3 x => hs₂ _ _ c2 (hs₁.extBut _ _ c1 x)) he
    | some x => exact wpAny_nextOf_list_item (h1.extBut hs₁.extBut D.i1z) (hl1.extBut hs₁.extBut D.l1z) hx fun h₂ a1 a2 => q h₂ a1 a2 x hx
  have go2 : ∀ h₁ h₂ : Heap, Heap.SameBut z hp h₁ → Heap.SameBut i1 h₁ h₂ → (∃ x, xs[k1]? = some x) → ∀ R : Value → Shared → Prop, 
      wpAny (model prog w) A (Builtin.SmallTypes.nextOf (.ref i2)) R E ⟨h₂, g, dr, tk, os⟩ := fun h₁ h₂ hs₁ hs₂ ⟨x, hx⟩ R => by
    have hy : ys[k2]? = none := by
      rcases hend with h | h
      · rw [h] at hx; cases hx
      · exact h
    exact wpAny_nextOf_list_end hh ((h2.extBut hs₁.extBut D.i2z).extBut hs₂.extBut D.i12.symm) ((hl2.extBut hs₁.extBut D.l2z).extBut hs₂.extBut D.l2i1) hy fun h₃ e hs₃ he =>
      hE h₃ e (fun c o c1 c2 c3 x => hs₃ _ _ c3 (hs₂.extBut _ _ c2 (hs₁.extBut _ _ c1 x))) he
  cases f with
  | true =>
    rw [if_neg (show ¬ ((Value.bool true != Value.bool true) = true) from Bool.false_ne_true)]
    refine wpAny_pure ?_
    simp only [Bool.false_eq_true, if_false]
    simp only [← Array.forIn_toList, List.forIn_cons, List.forIn_nil]
    refine wpAny_bind (wpAny_bind (wpAny_bind (wpAny_holding ?_)))
    show wpAny _ _ (Builtin.SmallTypes.nextOf (.ref i1) >>= _) _ _ _
    refine wpAny_bind (go hp (Heap.SameBut.refl _ _) _ fun h₂ h1₂ hs₂ x hx => wpAny_pure (wpAny_pure ?_))
    refine wpAny_bind (wpAny_bind (wpAny_holding ?_))
    show wpAny _ _ (Builtin.SmallTypes.nextOf (.ref i2) >>= _) _ _ _
    exact wpAny_bind (go2 hp h₂ (Heap.SameBut.refl _ _) hs₂ ⟨x, hx⟩ _)
  | false =>
    rw [if_pos (show (Value.bool false != Value.bool true) = true from rfl)]
    refine wpAny_bind (wpAny_setField_rec hz (by simp) fun h₁ hz₁ hs₁ => wpAny_pure ?_)
    simp only [Bool.false_eq_true, if_false]
    simp only [← Array.forIn_toList, List.forIn_cons, List.forIn_nil]
    refine wpAny_bind (wpAny_bind (wpAny_bind (wpAny_holding ?_)))
    show wpAny _ _ (Builtin.SmallTypes.nextOf (.ref i1) >>= _) _ _ _
    refine wpAny_bind (go h₁ hs₁ _ fun h₂ h1₂ hs₂ x hx => wpAny_pure (wpAny_pure ?_))
    refine wpAny_bind (wpAny_bind (wpAny_holding ?_))
    show wpAny _ _ (Builtin.SmallTypes.nextOf (.ref i2) >>= _) _ _ _
    exact wpAny_bind (go2 h₁ h₂ hs₁ hs₂ ⟨x, hx⟩ _)
theorem pyNext_more {z TI TO i1 i2 l1 l2 a : Addr} {f : Bool} {oa : Obj} {k1 k2 : Nat} {xs ys : Array Value} {x y : Value} {Q : Option Value → Shared → Prop}
    (D : ZipApart z TI TO i1 i2 l1 l2) (hz : ZipB s.heap z TI TO a f) (ha : s.heap.get? a = some oa) (haz : a ≠ z)
    (hTI : IsPair s.heap TI (.ref i1) (.ref i2)) (h1 : s.heap.IsListIter i1 l1 k1) (h2 : s.heap.IsListIter i2 l2 k2)
    (hl1 : s.heap.IsList l1 xs) (hl2 : s.heap.IsList l2 ys) (hx : xs[k1]? = some x) (hy : ys[k2]? = some y)
    (hQ : ∀ h', ZipB h' z TI TO a true → h'.IsListIter i1 l1 (k1 + 1) → h'.IsListIter i2 l2 (k2 + 1) →
      IsPair h' s.heap.objs.size x y → h'.objs.size = s.heap.objs.size + 1 →
      (∀ c o, c ≠ z → c ≠ i1 → c ≠ i2 → s.heap.get? c = some o → h'.get? c = some o) → Q (some (.ref s.heap.objs.size)) { s with heap := h' }) :
    wpAny (model prog w) A (pyNext (.ref z)) Q E s := by
  have hT : s.TypeIs (.ref z) "zip" := ⟨_, hz, rfl⟩
  unfold pyNext
  exact wpAny_bind (wpAny_attempt (wpAny_callSpecial?_slot (name := Str.ofString "__next__") hT PySem.F.slot_zip_next
    (wpAny_call_entry PySem.F.slot_zip_next hT PySem.F.entry_zip_next
      (zip_more D hz ha haz hTI h1 h2 hl1 hl2 hx hy fun h' a1 a2 a3 a4 a5 a6 => wpAny_pure (hQ h' a1 a2 a3 a4 a5 a6)) (PySem.F.args_zip_next_1 _))))
theorem pyNext_over {z TI TO i1 i2 l1 l2 a : Addr} {f : Bool} {oa : Obj} {k1 k2 : Nat} {xs ys : Array Value} {Q : Option Value → Shared → Prop} (hh : A.handled = none)
    (D : ZipApart z TI TO i1 i2 l1 l2) (hz : ZipB s.heap z TI TO a f) (ha : s.heap.get? a = some oa) (haz : a ≠ z)
    (hTI : IsPair s.heap TI (.ref i1) (.ref i2)) (h1 : s.heap.IsListIter i1 l1 k1) (h2 : s.heap.IsListIter i2 l2 k2)
    (hl1 : s.heap.IsList l1 xs) (hl2 : s.heap.IsList l2 ys) (hend : xs[k1]? = none ∨ ys[k2]? = none)
    (hQ : ∀ h', (∀ c o, c ≠ z → c ≠ i1 → c ≠ i2 → s.heap.get? c = some o → h'.get? c = some o) → Q none { s with heap := h' }) :
    wpAny (model prog w) A (pyNext (.ref z)) Q E s := by
  have hT : s.TypeIs (.ref z) "zip" := ⟨_, hz, rfl⟩
  unfold pyNext
  refine wpAny_bind (wpAny_attempt (wpAny_callSpecial?_slot (name := Str.ofString "__next__") hT PySem.F.slot_zip_next
    (wpAny_call_entry PySem.F.slot_zip_next hT PySem.F.entry_zip_next (zip_over hh D hz ha haz hTI h1 h2 hl1 hl2 hend fun h' e hk he => ?_) (PySem.F.args_zip_next_1 _))))
  obtain ⟨o, ho, hc⟩ := he
  refine wpAny_bind (wpAny_isInstance (T := "StopIteration") (b := true) ⟨o, ho, hc⟩ isSubtype_stop ?_)
  exact wpAny_pure (hQ _ hk)
end
end TFZ

namespace TFZ
open PySem PySem.Calls PyProof.Rows PyProof.V PySem.Spec
structure ZSt (h : Heap) (z TI TO i1 i2 l1 l2 S : Addr) (xs ys : Array Value) (i : Nat) : Prop where
  zip : (IsZip h z TI TO .none ∧ ∃ a b, IsPair h TO a b) ∨ ∃ a f oa, ZipB h z TI TO a f ∧ h.get? a = some oa ∧ a ≠ z ∧ a ≠ S ∧ a ≠ i1 ∧ a ≠ i2
  pair : IsPair h TI (.ref i1) (.ref i2)
  one : h.IsListIter i1 l1 i
  two : h.IsListIter i2 l2 i
  left : h.IsList l1 xs
  right : h.IsList l2 ys
/-- where all that belongs to the zip lies: above the two lists, below the new list S -/
structure ZAt (z TI TO i1 i2 l1 l2 S lo : Addr) : Prop where
  ap : ZipApart z TI TO i1 i2 l1 l2
  zS : z < S
  TIS : TI < S
  TOS : TO < S
  i1S : i1 < S
  i2S : i2 < S
  loz : lo ≤ z
  loTI : lo ≤ TI
  loTO : lo ≤ TO
  lo1 : lo ≤ i1
  lo2 : lo ≤ i2
  l1lo : l1 < lo
  l2lo : l2 < lo
theorem ZSt.keep {h h' : Heap} {z TI TO i1 i2 l1 l2 S lo : Addr} {xs ys : Array Value} {i : Nat} (x : ZSt h z TI TO i1 i2 l1 l2 S xs ys i) (P : ZAt z TI TO i1 i2 l1 l2 S lo)
    (hk : ∀ b o, b ≠ S → h.get? b = some o → h'.get? b = some o) : ZSt h' z TI TO i1 i2 l1 l2 S xs ys i := by
  have q : ∀ {b : Addr}, b < S → ∀ o, h.get? b = some o → h'.get? b = some o := fun l o e => hk _ o (Nat.ne_of_lt l) e
  have lo' : lo ≤ S := Nat.le_trans P.loz (Nat.le_of_lt P.zS)
  refine ⟨?_, q P.TIS _ x.pair, x.one.at fun o e => q P.i1S o e, x.two.at fun o e => q P.i2S o e, x.left.at fun o e => q (Nat.lt_of_lt_of_le P.l1lo lo') o e, x.right.at fun o e => q (Nat.lt_of_lt_of_le P.l2lo lo') o e⟩
  rcases x.zip with ⟨e, a, b, e2⟩ | ⟨a, f, oa, e, ha, h1, h2, h3, h4⟩
  · exact .inl ⟨q P.zS _ e, a, b, q P.TOS _ e2⟩
  · exact .inr ⟨a, f, oa, q P.zS _ e, hk a oa h2 ha, h1, h2, h3, h4⟩
section
variable {prog : Program} {w : World} {A : Around} {E : Value → Shared → Prop} {s : Shared} {z TI TO i1 i2 l1 l2 S lo : Addr} {xs ys : Array Value} {i : Nat}
theorem z_item (P : ZAt z TI TO i1 i2 l1 l2 S lo) {x y : Value} {Q : Option Value → Shared → Prop} (st : ZSt s.heap z TI TO i1 i2 l1 l2 S xs ys i) (hS : S < s.heap.objs.size) (hx : xs[i]? = some x) (hy : ys[i]? = some y)
    (hQ : ∀ h', ZSt h' z TI TO i1 i2 l1 l2 S xs ys (i + 1) → IsPair h' s.heap.objs.size x y → h'.objs.size = s.heap.objs.size + 1 →
      (∀ c o, c ≠ z → c ≠ TO → c ≠ i1 → c ≠ i2 → s.heap.get? c = some o → h'.get? c = some o) → Q (some (.ref s.heap.objs.size)) { s with heap := h' }) : wpAny (model prog w) A (pyNext (.ref z)) Q E s := by
  have D := P.ap
  have new : ∀ {b : Addr}, b < S → s.heap.objs.size ≠ b := fun l => Nat.ne_of_gt (Nat.lt_trans l hS)
  rcases st.zip with ⟨e, a, b, e2⟩ | ⟨a, f, oa, e, ha, g1, g2, g3, g4⟩
  · refine wpAny_pyNext_zip_item D e st.pair e2 st.one st.two st.left st.right hx hy fun h' a1 a2 a3 a4 a5 a6 hk => ?_
    refine hQ h' ⟨.inr ⟨_, false, _, a1, a5, new P.zS, Nat.ne_of_gt hS, new P.i1S, new P.i2S⟩, hk _ _ D.TIz D.TITO D.TIi1 D.TIi2 st.pair, a3, a4, st.left.at fun o q => hk _ o D.l1z D.l1TO D.l1i1 D.l1i2 q,
      st.right.at fun o q => hk _ o D.l2z D.l2TO D.l2i1 D.l2i2 q⟩ a5 a6 hk
  · refine pyNext_more D e ha g1 st.pair st.one st.two st.left st.right hx hy fun h' a1 a3 a4 a5 a6 hk => ?_
    refine hQ h' ⟨.inr ⟨a, true, oa, a1, hk a oa g1 g3 g4 ha, g1, g2, g3, g4⟩, hk _ _ D.TIz D.TIi1 D.TIi2 st.pair, a3, a4, st.left.at fun o q => hk _ o D.l1z D.l1i1 D.l1i2 q,
      st.right.at fun o q => hk _ o D.l2z D.l2i1 D.l2i2 q⟩ a5 a6 fun c o c1 _ c3 c4 => hk c o c1 c3 c4
theorem z_done (hh : A.handled = none) (P : ZAt z TI TO i1 i2 l1 l2 S lo) {Q : Option Value → Shared → Prop} (st : ZSt s.heap z TI TO i1 i2 l1 l2 S xs ys i) (hend : xs[i]? = none ∨ ys[i]? = none)
    (hQ : ∀ h', (∀ c o, c ≠ z → c ≠ TO → c ≠ i1 → c ≠ i2 → s.heap.get? c = some o → h'.get? c = some o) → Q none { s with heap := h' }) : wpAny (model prog w) A (pyNext (.ref z)) Q E s := by
  have D := P.ap
  rcases st.zip with ⟨e, a, b, e2⟩ | ⟨a, f, oa, e, ha, g1, g2, g3, g4⟩
  · exact wpAny_pyNext_zip_end hh D e st.pair e2 st.one st.two st.left st.right hend hQ
  · exact pyNext_over hh D e ha g1 st.pair st.one st.two st.left st.right hend fun h' hk => hQ h' fun c o c1 _ c3 c4 => hk c o c1 c3 c4
end
structure ZG (xs ys : Array Value) (lo : Addr) (h : Heap) (as : List Addr) : Prop where
  rise : as.Pairwise (· < ·)
  above : ∀ a ∈ as, lo < a
  pairs : ∀ (j : Nat) (a : Addr), as[j]? = some a → ∃ x y, xs[j]? = some x ∧ ys[j]? = some y ∧ IsPair h a x y
theorem ZG.there {xs ys : Array Value} {lo : Addr} {h : Heap} {as : List Addr} (g : ZG xs ys lo h as) {a : Addr} (ha : a ∈ as) : a < h.objs.size := by
  obtain ⟨j, hj⟩ := List.mem_iff_getElem?.mp ha
  obtain ⟨_, _, _, _, e⟩ := g.pairs j a hj
  exact Heap.lt_size e
abbrev lstAt (h : Heap) (S : Addr) (acc : Array Value) (c : Nat) : Prop := h.get? S = some { cls := .type "list", dict := none, data := .seq acc c, slots := #[] }
section
variable {prog : Program} {w : World} {A : Around} {s : Shared} {R : Result → Shared → Prop} {z TI TO i1 i2 l1 l2 S lo : Addr} {xs ys : Array Value}
theorem z_loop (hh : A.handled = none) (P : ZAt z TI TO i1 i2 l1 l2 S lo) (n : Nat) (hnn : n = min xs.size ys.size) (hn : n ≤ sizeLine) (res : Value) {h₁ : Heap} (hlo : h₁.objs.size ≤ lo)
    (hR : ∀ h' tk acc c as, (∀ b o, h₁.get? b = some o → h'.get? b = some o) → lstAt h' S acc c → as.length = n → ZG xs ys S h' as → acc.toList = as.map Value.ref →
      R (.ok (.ret res)) { s with heap := h', toks := tk }) :
    ∀ (k i : Nat) (h : Heap) (tk c : Nat) (acc : Array Value) (as : List Addr), n - i = k → i ≤ n → ZSt h z TI TO i1 i2 l1 l2 S xs ys i → (∀ b o, h₁.get? b = some o → h.get? b = some o) →
      lstAt h S acc c → acc.toList = as.map Value.ref → as.length = i → ZG xs ys S h as →
      codeAny (model prog w) A (.builtin "list.extend.loop" ⟨[.ref S, .ref z, res], []⟩) R { s with heap := h, toks := tk } := by
  have old : ∀ {b : Addr} {o : Obj}, h₁.get? b = some o → b < lo := fun e => Nat.lt_of_lt_of_le (Heap.lt_size e) hlo
  have loS : lo < S := Nat.lt_of_le_of_lt P.loz P.zS
  intro k
  induction k with
  | zero =>
    intro i h tk c acc as hk hi st hkeep hS hacc hal hG
    have hend : xs[i]? = none ∨ ys[i]? = none := by
      rcases Nat.le_total xs.size ys.size with q | q
      · exact .inl (Array.getElem?_eq_none (by omega))
      · exact .inr (Array.getElem?_eq_none (by omega))
    refine codeAny_builtin PySem.F.entry_extend_loop ?_
    rw [Around.under_plainId PySem.F.plain_extend_loop _]
    show wpAny _ A.in1 (pyNext (.ref z) >>= _) _ _ _
    refine wpAny_bind (z_done (s := { s with heap := h, toks := tk }) (A := A.in1) hh P st hend fun h' he => ?_)
    have up : ∀ b o, S ≤ b → h.get? b = some o → h'.get? b = some o := fun b o l e => he b o (Nat.ne_of_gt (Nat.lt_of_lt_of_le P.zS l)) (Nat.ne_of_gt (Nat.lt_of_lt_of_le P.TOS l)) (Nat.ne_of_gt (Nat.lt_of_lt_of_le P.i1S l)) (Nat.ne_of_gt (Nat.lt_of_lt_of_le P.i2S l)) e
    have dn : ∀ b o, b < lo → h.get? b = some o → h'.get? b = some o := fun b o l e => he b o (Nat.ne_of_lt (Nat.lt_of_lt_of_le l P.loz)) (Nat.ne_of_lt (Nat.lt_of_lt_of_le l P.loTO)) (Nat.ne_of_lt (Nat.lt_of_lt_of_le l P.lo1)) (Nat.ne_of_lt (Nat.lt_of_lt_of_le l P.lo2)) e
    refine wpAny_pure (hR h' tk acc c as (fun b o e => dn b o (old e) (hkeep b o e)) (up S _ (Nat.le_refl _) hS) (by omega) ⟨hG.rise, hG.above, fun j a hj => ?_⟩ hacc)
    obtain ⟨x, y, e1, e2, e3⟩ := hG.pairs j a hj
    exact ⟨x, y, e1, e2, up a _ (Nat.le_of_lt (hG.above a (List.mem_of_getElem? hj))) e3⟩
  | succ k ih =>
    intro i h tk c acc as hk hi st hkeep hS hacc hal hG
    have hx : i < xs.size := by omega
    have hy : i < ys.size := by omega
    have hsz : acc.size = i := by rw [← Array.length_toList, hacc, List.length_map, hal]
    have hSl : S < h.objs.size := Heap.lt_size hS
    refine codeAny_builtin PySem.F.entry_extend_loop ?_
    rw [Around.under_plainId PySem.F.plain_extend_loop _]
    show wpAny _ A.in1 (pyNext (.ref z) >>= _) _ _ _
    refine wpAny_bind (z_item (s := { s with heap := h, toks := tk }) P st hSl (Array.getElem?_eq_getElem hx) (Array.getElem?_eq_getElem hy) fun h' st' ht hz hkp => ?_)
    dsimp only at ht hz hkp ⊢
    have upS : ∀ b o, S ≤ b → h.get? b = some o → h'.get? b = some o := fun b o l e => hkp b o (Nat.ne_of_gt (Nat.lt_of_lt_of_le P.zS l)) (Nat.ne_of_gt (Nat.lt_of_lt_of_le P.TOS l)) (Nat.ne_of_gt (Nat.lt_of_lt_of_le P.i1S l)) (Nat.ne_of_gt (Nat.lt_of_lt_of_le P.i2S l)) e
    have dn : ∀ b o, b < lo → h.get? b = some o → h'.get? b = some o := fun b o l e => hkp b o (Nat.ne_of_lt (Nat.lt_of_lt_of_le l P.loz)) (Nat.ne_of_lt (Nat.lt_of_lt_of_le l P.loTO)) (Nat.ne_of_lt (Nat.lt_of_lt_of_le l P.lo1)) (Nat.ne_of_lt (Nat.lt_of_lt_of_le l P.lo2)) e
    have hS' := upS S _ (Nat.le_refl _) hS
    have up : ∀ b o, b ≠ S → h'.get? b = some o → (h'.update S (Obj.mapSeq (·.push (Value.ref h.objs.size)))).get? b = some o := fun b o hb e => (Heap.get?_update_other _ _ (Ne.symm hb)).trans e
    show wpAny _ A.in1 (updateSeq S (·.push (Value.ref h.objs.size)) >>= _) _ _ _
    refine wpAny_bind ?_
    refine wpAny_updateSeq hS' rfl (wpAny_pure ⟨plainId_quiet PySem.F.plain_extend_loop _, ih (i + 1) _ tk _ (acc.push (Value.ref h.objs.size)) (as ++ [h.objs.size]) (by omega) (by omega) (st'.keep P up)
      (fun b o e => up b o (Nat.ne_of_lt (Nat.lt_trans (old e) loS)) (dn b o (old e) (hkeep b o e))) (Heap.get?_update_self _ hS' rfl) (by rw [Array.toList_push, hacc, List.map_append]; rfl) (by rw [List.length_append, hal]; rfl) ⟨?_, ?_, ?_⟩⟩)
      (by rw [hsz]; omega) (by show (acc.push (Value.ref h.objs.size)).size ≤ sizeLine + 1; rw [Array.size_push, hsz]; omega)
    · refine List.pairwise_append.mpr ⟨hG.rise, List.pairwise_singleton _ _, fun a ha b hb => ?_⟩
      rw [List.mem_singleton.mp hb]
      exact hG.there ha
    · intro a ha
      rcases List.mem_append.mp ha with ha | ha
      · exact hG.above a ha
      · rw [List.mem_singleton.mp ha]; exact hSl
    · intro j b hj
      rcases Nat.lt_trichotomy j as.length with q | q | q
      · rw [List.getElem?_append_left q] at hj
        obtain ⟨x', y', e1, e2, e3⟩ := hG.pairs j b hj
        have hb := hG.above b (List.mem_of_getElem? hj)
        exact ⟨x', y', e1, e2, up b _ (Nat.ne_of_gt hb) (upS b _ (Nat.le_of_lt hb) e3)⟩
      · subst q
        have hb : h.objs.size = b := by simpa using hj
        subst hb
        exact ⟨_, _, by rw [hal]; exact Array.getElem?_eq_getElem hx, by rw [hal]; exact Array.getElem?_eq_getElem hy, up _ _ (Nat.ne_of_gt hSl) ht⟩
      · have hnone : (as ++ [h.objs.size])[j]? = none := List.getElem?_eq_none (by rw [List.length_append, List.length_singleton]; omega)
        rw [hnone] at hj; cases hj
end
theorem zip_no_len : typeLookup (.type "zip") "__len__" = pure none := by rw [typeLookup_type, builtinLookup_eq_fast]; kernel_rfl
theorem zip_no_hint : typeLookup (.type "zip") "__length_hint__" = pure none := by rw [typeLookup_type, builtinLookup_eq_fast]; kernel_rfl
end TFZ

namespace TFZ
open PySem PySem.Calls PyProof.Rows PyProof.V PySem.Spec
theorem ZSt.type {h : Heap} {z TI TO i1 i2 l1 l2 S : Addr} {xs ys : Array Value} {i : Nat} (x : ZSt h z TI TO i1 i2 l1 l2 S xs ys i) {s : Shared} (e : s.heap = h) : s.TypeIs (.ref z) "zip" := by
  rcases x.zip with ⟨q, _⟩ | ⟨_, _, _, q, _⟩
  · exact ⟨_, by rw [e]; exact q, rfl⟩
  · exact ⟨_, by rw [e]; exact q, rfl⟩
section
variable {prog : Program} {w : World} {A : Around} {E : Value → Shared → Prop} {s : Shared} {z TI TO i1 i2 l1 l2 S lo : Addr} {xs ys : Array Value}
theorem z_extend {R : Result → Shared → Prop} (hh : A.handled = none) (P : ZAt z TI TO i1 i2 l1 l2 S lo) (n : Nat) (hnn : n = min xs.size ys.size) (hn : n ≤ sizeLine) (res : Value) {h₁ : Heap} (hlo : h₁.objs.size ≤ lo) (c₀ : Nat)
    (hz0 : IsZip s.heap z TI TO .none) (st : ZSt s.heap z TI TO i1 i2 l1 l2 S xs ys 0) (hkeep : ∀ b o, h₁.get? b = some o → s.heap.get? b = some o) (hS : lstAt s.heap S #[] c₀)
    (hR : ∀ h' tk acc c as, (∀ b o, h₁.get? b = some o → h'.get? b = some o) → lstAt h' S acc c → as.length = n → ZG xs ys S h' as → acc.toList = as.map Value.ref →
      R (.ok (.ret res)) { s with heap := h', toks := tk }) :
    wpAny (model prog w) A.in1 (Builtin.List.listExtendWith (.ref S) (.ref z) res)
      (fun fin s' => match fin with | .done f => R (.ok f) s' | .again c' => c'.quiet = true ∧ codeAny (model prog w) A c' R s') (fun e s' => R (.error e) s') s := by
  have hSz : S ≠ z := Nat.ne_of_gt P.zS
  have loS : lo < S := Nat.lt_of_le_of_lt P.loz P.zS
  have key : ∀ (h : Heap) (c₁ tk : Nat), (∀ b o, b ≠ S → s.heap.get? b = some o → h.get? b = some o) → lstAt h S #[] c₁ →
      codeAny (model prog w) A (.builtin "list.extend.loop" ⟨[.ref S, .ref z, res], []⟩) R { s with heap := h, toks := tk } := fun h c₁ tk hk hS₁ =>
    z_loop (s := s) hh P n hnn hn res hlo hR n 0 h tk c₁ #[] [] (Nat.sub_zero _) (Nat.zero_le _) (st.keep P hk)
      (fun b o e => hk b o (Nat.ne_of_lt (Nat.lt_trans (Nat.lt_of_lt_of_le (Heap.lt_size e) hlo) loS)) (hkeep b o e)) hS₁ rfl rfl ⟨List.Pairwise.nil, (fun _ ha => nomatch ha), (fun j a hj => by simp at hj)⟩
  unfold Builtin.List.listExtendWith
  refine wpAny_bind (wpAny_typeOf (st.type rfl) ?_)
  have e1 : Builtin.List.listSameRef (.ref S) (.ref z) = false := by simp [Builtin.List.listSameRef, hSz]
  have e2 : (Value.type "zip" == Value.type "list") = false := by decide
  have e3 : (Value.type "zip" == Value.type "tuple") = false := by decide
  simp only [e1, e2, e3, Bool.or_false, Bool.false_eq_true, if_false]
  refine wpAny_bind (wpAny_pyIter_zip hz0 ?_)
  refine wpAny_bind (wpAny_holding ?_)
  unfold Builtin.List.listLengthHint
  refine wpAny_bind (wpAny_specialOf (st.type rfl) zip_no_len ?_)
  show wpAny _ A.in1 (specialOf (Value.ref z) (Str.ofString "__length_hint__") >>= _) _ _ _
  refine wpAny_bind (wpAny_specialOf (st.type rfl) zip_no_hint ?_)
  refine wpAny_pure ?_
  show wpAny _ A.in1 (rule "list.extend.makes-room" >>= fun _ => Builtin.List.listTouch (.ref S) >>= fun _ => again (.builtin "list.extend.loop" ⟨[.ref S, .ref z, res], []⟩)) _ _ _
  refine wpAny_bind (wpAny_rule ?_)
  refine wpAny_bind ?_
  show wpAny _ _ (updateSeq S (·.push .none) >>= fun _ => updateSeq S (·.pop)) _ _ _
  refine wpAny_bind (wpAny_updateSeq hS rfl ?_)
  have hS₂ := Heap.get?_update_self (Obj.mapSeq (·.push Value.none)) hS rfl
  refine wpAny_updateSeq (hz := by seq_fits) hS₂ rfl ?_
  have hS₃ := Heap.get?_update_self (Obj.mapSeq (·.pop)) hS₂ rfl
  refine wpAny_pure ⟨plainId_quiet PySem.F.plain_extend_loop _, key _ _ _ (fun b o hb e => ?_) hS₃⟩
  exact (Heap.get?_update_other _ _ (Ne.symm hb)).trans ((Heap.get?_update_other _ _ (Ne.symm hb)).trans e)
theorem z_init {R : Result → Shared → Prop} (hh : A.handled = none) (P : ZAt z TI TO i1 i2 l1 l2 S lo) (n : Nat) (hnn : n = min xs.size ys.size) (hn : n ≤ sizeLine) {h₁ : Heap} (hlo : h₁.objs.size ≤ lo)
    (hz0 : IsZip s.heap z TI TO .none) (st : ZSt s.heap z TI TO i1 i2 l1 l2 S xs ys 0) (hkeep : ∀ b o, h₁.get? b = some o → s.heap.get? b = some o) (hS : s.heap.get? S = some { cls := .type "list", data := .seq #[] })
    (hR : ∀ h' tk acc c as, (∀ b o, h₁.get? b = some o → h'.get? b = some o) → lstAt h' S acc c → as.length = n → ZG xs ys S h' as → acc.toList = as.map Value.ref →
      R (.ok (.ret .none)) { s with heap := h', toks := tk }) :
    wpAny (model prog w) A.in1 (Builtin.«list.__init__» ⟨[.ref S, .ref z], []⟩)
      (fun fin s' => match fin with | .done f => R (.ok f) s' | .again c' => c'.quiet = true ∧ codeAny (model prog w) A c' R s') (fun e s' => R (.error e) s') s := by
  have loS : lo < S := Nat.lt_of_le_of_lt P.loz P.zS
  show wpAny _ _ (do let old ← Builtin.List.listItems (.ref S); Builtin.List.listUpdate (.ref S) (fun _ => #[]); letGo old.toList.reverse; Builtin.List.listExtendWith (.ref S) (.ref z) .none) _ _ s
  refine wpAny_bind ?_
  unfold Builtin.List.listItems
  refine wpAny_bind (wpAny_seqItems hS rfl (wpAny_pure ?_))
  show wpAny _ _ (updateSeq S (fun _ => #[]) >>= fun _ => letGo (#[] : Array Value).toList.reverse >>= fun _ => Builtin.List.listExtendWith (.ref S) (.ref z) .none) _ _ s
  refine wpAny_bind (wpAny_updateSeq hS rfl ?_)
  have hS₂ := Heap.get?_update_self (Obj.mapSeq (fun _ => (#[] : Array Value))) hS rfl
  have oth : ∀ b o, b ≠ S → s.heap.get? b = some o → (s.heap.update S (Obj.mapSeq (fun _ => (#[] : Array Value)))).get? b = some o :=
    fun b o hb e => (Heap.get?_update_other _ _ (Ne.symm hb)).trans e
  refine wpAny_bind (wpAny_letGo ?_)
  exact z_extend hh P n hnn hn .none hlo _ (oth _ _ (Nat.ne_of_lt P.zS) hz0) (st.keep P oth)
    (fun b o e => oth b o (Nat.ne_of_lt (Nat.lt_trans (Nat.lt_of_lt_of_le (Heap.lt_size e) hlo) loS)) (hkeep b o e)) hS₂ hR
/-- list(zip) right behind the zip's making -/
theorem z_call {Q : Value → Shared → Prop} (hh : A.handled = none) (hl1 : s.heap.IsList l1 xs) (hl2 : s.heap.IsList l2 ys) {h₀ : Heap} (hlo : h₀.objs.size + 5 = s.heap.objs.size) (ha : l1 < h₀.objs.size) (hb : l2 < h₀.objs.size)
    (hz : IsZip s.heap (h₀.objs.size + 4) (h₀.objs.size + 2) (h₀.objs.size + 3) .none) (hTI : IsPair s.heap (h₀.objs.size + 2) (.ref h₀.objs.size) (.ref (h₀.objs.size + 1)))
    (hTO : IsPair s.heap (h₀.objs.size + 3) .none .none) (h1 : s.heap.IsListIter h₀.objs.size l1 0) (h2 : s.heap.IsListIter (h₀.objs.size + 1) l2 0) (hk : ∀ b o, h₀.get? b = some o → s.heap.get? b = some o)
    (n : Nat) (hnn : n = min xs.size ys.size) (hn : n ≤ sizeLine)
    (hQ : ∀ h' tk acc c as, (∀ b o, h₀.get? b = some o → h'.get? b = some o) → lstAt h' (h₀.objs.size + 5) acc c → as.length = n → ZG xs ys (h₀.objs.size + 5) h' as → acc.toList = as.map Value.ref →
      Q (.ref (h₀.objs.size + 5)) { s with heap := h', toks := tk }) :
    wpAny (model prog w) A (call (.type "list") [.ref (h₀.objs.size + 4)]) Q E s := by
  refine callType_codes (Q₁ := fun obj s₁ => obj = .ref s.heap.objs.size ∧ s₁ = { s with heap := s.heap.push { cls := .type "list", data := .seq #[] } }) PySem.F.called_list (PySem.F.typeCall_list_1 _) PySem.F.entry_list_init
    (code_list_new _ ⟨rfl, rfl⟩) fun obj s₁ h₁ => ?_
  obtain ⟨rfl, rfl⟩ := h₁
  have hS : (s.heap.push { cls := .type "list", data := .seq #[] }).get? s.heap.objs.size = some { cls := .type "list", data := .seq #[] } := Heap.get?_push_size _ rfl
  have lt5 : ∀ k : Nat, k < 5 → h₀.objs.size + k < s.heap.objs.size := fun k hk => by rw [← hlo]; exact Nat.add_lt_add_left hk _
  have P : ZAt (h₀.objs.size + 4) (h₀.objs.size + 2) (h₀.objs.size + 3) h₀.objs.size (h₀.objs.size + 1) l1 l2 s.heap.objs.size h₀.objs.size :=
    ⟨PySem.W.ktu_apart h₀.objs.size l1 l2 ha hb, lt5 4 (by decide), lt5 2 (by decide), lt5 3 (by decide), lt5 0 (by decide), lt5 1 (by decide), Nat.le_add_right _ _, Nat.le_add_right _ _, Nat.le_add_right _ _, Nat.le_refl _, Nat.le_add_right _ _, ha, hb⟩
  have up : ∀ b o, s.heap.get? b = some o → (s.heap.push { cls := .type "list", data := .seq #[] }).get? b = some o := fun b o e => Heap.get?_push_of_some _ e
  have st : ZSt (s.heap.push { cls := .type "list", data := .seq #[] }) (h₀.objs.size + 4) (h₀.objs.size + 2) (h₀.objs.size + 3) h₀.objs.size (h₀.objs.size + 1) l1 l2 s.heap.objs.size xs ys 0 :=
    ⟨.inl ⟨up _ _ hz, _, _, up _ _ hTO⟩, up _ _ hTI, h1.at fun o e => up _ o e, h2.at fun o e => up _ o e, hl1.at fun o e => up _ o e, hl2.at fun o e => up _ o e⟩
  refine ⟨⟨_, hS, rfl⟩, PySem.F.args_list_init_2 _ _, z_init (A := A.in1) hh P n hnn hn (Nat.le_refl _) (up _ _ hz) st (fun b o e => up b o (hk b o e)) hS (fun h' tk acc c as g1 g2 g3 g4 g5 => ?_)⟩
  rw [← hlo] at g2 g4
  rw [← hlo]
  exact ⟨rfl, hQ h' tk acc c as g1 g2 g3 g4 g5⟩
end
end TFZ

namespace TF
open PySem PySem.Spec PyProof.Rows L2 TFZ
/-- the pairs at their places -/
def putP : Hp → List Addr → List (V × V) → Hp
  | H, a :: as, p :: ps => putP (upd H a (.tup [p.1, p.2])) as ps
  | H, _, _ => H
theorem putP_off {b : Addr} : ∀ (as : List Addr) (ps : List (V × V)) (H : Hp), b ∉ as → putP H as ps b = H b
  | [], _, _, _ => rfl
  | _ :: _, [], _, _ => rfl
  | a :: as, p :: ps, H, h => by
    have h2 : b ≠ a ∧ b ∉ as := ⟨fun z => h (by rw [z]; exact List.mem_cons_self), fun z => h (List.mem_cons_of_mem _ z)⟩
    show putP (upd H a (.tup [p.1, p.2])) as ps b = H b
    rw [putP_off as ps _ h2.2, upd_ne h2.1]
theorem putP_at : ∀ (as : List Addr) (ps : List (V × V)) (H : Hp), as.Nodup → ∀ (j : Nat) (a : Addr) (p : V × V), as[j]? = some a → ps[j]? = some p → putP H as ps a = some (.tup [p.1, p.2])
  | [], _, _, _, j, a, p, h, _ => by simp at h
  | _ :: _, [], _, _, j, a, p, _, h => by simp at h
  | b :: as, q :: ps, H, hn, 0, a, p, h, h' => by
    have e1 : b = a := Option.some.inj h
    have e2 : q = p := Option.some.inj h'
    subst e1 e2
    show putP (upd H b (.tup [q.1, q.2])) as ps b = _
    rw [putP_off as ps _ (List.nodup_cons.mp hn).1, upd_same]
  | b :: as, q :: ps, H, hn, j + 1, a, p, h, h' => putP_at as ps _ (List.nodup_cons.mp hn).2 j a p h h'
section
variable {X : Cx} {pins : List (Addr × Obj)} {σ : L2.St} {H : Hp} {s : Shared}
theorem refs_vals : ∀ as : List Addr, Vals (as.map V.ref) (as.map Value.ref)
  | [] => .nil
  | _ :: as => .cons rfl (refs_vals as)
theorem pairs_laid {h' : Heap} {tk : Nat} {S : Addr} {xs ys : List V} {us ws : List Value} {acc : Array Value} {c : Nat} {as : List Addr} (I : Inv X pins σ H s) (hSz : s.heap.objs.size ≤ S)
    (rx : Vals xs us) (ry : Vals ys ws) (hz : as.length ≤ sizeLine) (hal : as.length = min xs.length ys.length) (hk : ∀ b o, s.heap.get? b = some o → h'.get? b = some o) (hS : lstAt h' S acc c)
    (hG : ZG us.toArray ws.toArray S h' as) (hacc : acc.toList = as.map Value.ref) :
    ∃ H' : Hp, (∀ b o, H b = some o → H' b = some o) ∧ H S = none ∧ H' S = some (.lst (as.map V.ref)) ∧
      (∀ (j : Nat) (a : Addr) (x y : V), as[j]? = some a → xs[j]? = some x → ys[j]? = some y → H' a = some (.tup [x, y])) ∧ Inv X pins σ H' { s with heap := h', toks := tk } := by
  have hSn : S ∉ as := fun z => Nat.lt_irrefl _ (hG.above _ z)
  have nd : as.Nodup := List.Pairwise.imp (fun {a b} (h : a < b) => Nat.ne_of_lt h) hG.rise
  have big : ∀ t ∈ as, s.heap.objs.size ≤ t := fun t ht => Nat.le_of_lt (Nat.lt_of_le_of_lt hSz (hG.above t ht))
  have new : ∀ t ∈ as, H t = none := fun t ht => I.hok.fresh (big t ht)
  have newS : H S = none := I.hok.fresh hSz
  have lz : (xs.zip ys).length = as.length := by rw [List.length_zip, hal]
  have zat : ∀ (j : Nat) (x y : V), xs[j]? = some x → ys[j]? = some y → (xs.zip ys)[j]? = some (x, y) := fun j x y e1 e2 => by
    rw [List.getElem?_zip_eq_some]; exact ⟨e1, e2⟩
  have atP : ∀ (j : Nat) (a : Addr) (x y : V), as[j]? = some a → xs[j]? = some x → ys[j]? = some y → putP (upd H S (.lst (as.map V.ref))) as (xs.zip ys) a = some (.tup [x, y]) :=
    fun j a x y e0 e1 e2 => putP_at as (xs.zip ys) _ nd j a (x, y) e0 (zat j x y e1 e2)
  have off : ∀ b, b ∉ as → b ≠ S → putP (upd H S (.lst (as.map V.ref))) as (xs.zip ys) b = H b := fun b h1 h2 => by rw [putP_off as _ _ h1, upd_ne h2]
  have low : ∀ b o, s.heap.get? b = some o → b ∉ as ∧ b ≠ S := fun b o e => ⟨fun z => absurd (Heap.lt_size e) (Nat.not_lt.mpr (big b z)), Nat.ne_of_lt (Nat.lt_of_lt_of_le (Heap.lt_size e) hSz)⟩
  have kp : ∀ b u, H b = some u → (putP (upd H S (.lst (as.map V.ref))) as (xs.zip ys)) b = some u := fun b u e => by
    rw [off b (fun z => by rw [new b z] at e; cases e) (fun z => by rw [z, newS] at e; cases e)]
    exact e
  have eS : putP (upd H S (.lst (as.map V.ref))) as (xs.zip ys) S = some (.lst (as.map V.ref)) := by rw [putP_off as _ _ hSn, upd_same]
  refine ⟨putP (upd H S (.lst (as.map V.ref))) as (xs.zip ys), kp, newS, eS, atP, ?_⟩
  refine I.call' (ch := []) rfl ⟨fun b o q _ _ _ => hk b o q, fun b o q _ _ _ => ⟨o.slots, hk b o q⟩, fun b o q n _ => ?_, fun b o q _ => ⟨o, hk b o q⟩, fun b xs q => kp b _ q, fun b o u q => kp b _ q, fun b ps q => ⟨#[], by rw [kp b _ q]; simp⟩⟩ (fun b u q => ?_) I.bare fun b z => by simp at z
  · obtain ⟨z1, z2⟩ := low b o q
    rw [off b z1 z2]
    exact n
  · by_cases hb : b ∈ as
    · obtain ⟨j, hj⟩ := List.mem_iff_getElem?.mp hb
      have hjl : j < as.length := (List.getElem?_eq_some_iff.mp hj).1
      have hjx : j < xs.length := by omega
      have hjy : j < ys.length := by omega
      obtain ⟨u1, f1, r1⟩ := rx.get (List.getElem?_eq_getElem hjx)
      obtain ⟨u2, f2, r2⟩ := ry.get (List.getElem?_eq_getElem hjy)
      obtain ⟨a1, a2, g1, g2, g3⟩ := hG.pairs j b hj
      have g1' : us[j]? = some a1 := by simpa using g1
      have g2' : ws[j]? = some a2 := by simpa using g2
      have d1 : u1 = a1 := Option.some.inj (f1.symm.trans g1')
      have d2 : u2 = a2 := Option.some.inj (f2.symm.trans g2')
      subst d1 d2
      rw [atP j b _ _ hj (List.getElem?_eq_getElem hjx) (List.getElem?_eq_getElem hjy)] at q
      cases q
      exact ⟨by show 2 ≤ sizeLine; decide, [u1, u2], .cons r1 (.cons r2 .nil), ⟨_, g3, rfl, _, rfl⟩⟩
    · by_cases hb2 : b = S
      · rw [hb2] at q ⊢
        rw [eS] at q
        cases q
        refine ⟨by rw [List.length_map]; exact hz, acc.toList, c, by rw [hacc]; exact refs_vals as, ?_⟩
        rw [Array.toArray_toList]
        exact hS
      · rw [off b hb hb2] at q
        exact (I.hok b u q).stay (fun d v _ y => hk d v y) (fun d y => kp d _ y) fun d xs y => kp d _ y
/-- list(zip(e, e2)) of two lists -/
def tListZip (K : PySem.W.Frag) (ta : TA) : TE := fun σ H Q => ta σ H fun vs H1 => ∃ (a b : Addr) (xs ys : List V), vs = [.ref a, .ref b] ∧ SqL K H1 a xs ∧ SqL K H1 b ys ∧
  ∀ (H' : Hp) (p : Addr) (ts : List Addr), (∀ b o, H1 b = some o → H' b = some o) → H1 p = none → H' p = some (.lst (ts.map V.ref)) → ts.length = min xs.length ys.length →
    (∀ (j : Nat) (t : Addr) (x y : V), ts[j]? = some t → xs[j]? = some x → ys[j]? = some y → H' t = some (.tup [x, y])) → Q (.ref p) H'
theorem pe_listZip {e e2 : Expr} {ta : TA} {p p2 cpos pos : Pos} (hc : X.calm = true) (hg : Gl X "list") (hm : X.mg "list" = none) (hg2 : Gl X "zip") (hm2 : X.mg "zip" = none) (ha : PA X [e, e2] ta)
    (hv : bootBuiltins "list" = some (.type "list")) (hs2 : starEach [e, e2] X.env = (false, eval e X.env) :: starEach [e2] X.env := by rfl) (hpl : (backTo cpos (starEach [e2] X.env)).any (·.1) = false := by rfl)
    (hs : starEach [.Call (.Name "zip" p2) [e, e2] [] cpos] X.env = (false, eval (.Call (.Name "zip" p2) [e, e2] [] cpos) X.env) :: starEach [] X.env := by rfl) :
    PE X (.Call (.Name "list" p) [.Call (.Name "zip" p2) [e, e2] [] cpos] [] pos) (tListZip X.K ta) := by
  refine ⟨fun pins s σ H Q I hq => ?_⟩
  refine wpAny_Call_Name_kw (ld_blt I hg hm hv ?_)
  refine PyProof.Rows.callWith_type1 ?_ hs rfl
  rw [hs]
  show wpAny _ _ (spliced ((false, eval (.Call (.Name "zip" p2) [e, e2] [] cpos) X.env) :: backTo pos (starEach [] X.env))) _ _ s
  refine Calls.spliced_cons ?_
  refine Call_ (ld_blt I hg2 hm2 PyProof.Rows.boot_zip (PyProof.Rows.callWith_type1 (thn (ha.run cpos pins s σ H _ I hq) fun us s1 ⟨vs, H1, I1, r1, q1⟩ => ?_) hs2 hpl))
  obtain ⟨a, b, xs, ys, ex, hqx, hqy, q⟩ := q1
  subst ex
  cases r1 with
  | cons r rr =>
    cases rr with
    | cons r' rr =>
      cases rr
      cases r
      cases r'
      obtain ⟨its, rv, p1, z1⟩ := I1.list hqx
      obtain ⟨its2, rv2, p2', z2⟩ := I1.list hqy
      have la : a < s1.heap.objs.size := p1.lt
      have lb : b < s1.heap.objs.size := p2'.lt
      refine call_zip_2 p1.isList p2'.isList fun h' hz hTI hTO h1 h2 hsz hk => ?_
      refine Calls.spliced_nil ?_
      have I2 : Inv X pins σ H1 { s1 with heap := h' } := I1.kept (t' := s1.toks) hk
      have lx := rv.length
      have ly := rv2.length
      refine z_call (s := { s1 with heap := h' }) (h₀ := s1.heap) (I1.ok.hd hc) (p1.isList.at fun o e => hk _ o e) (p2'.isList.at fun o e => hk _ o e) (by show _ = h'.objs.size; rw [hsz]) la lb hz hTI hTO h1 h2 hk (min xs.length ys.length) (by rw [List.size_toArray, List.size_toArray, lx, ly]) (Nat.le_trans (Nat.min_le_left _ _) z1)
        fun h3 tk acc c as g1 g2 g3 g4 g5 => ?_
      obtain ⟨H', k1, k2, k3, k4, J⟩ := pairs_laid (tk := tk) I1 (Nat.le_add_right _ 5) rv rv2 (by rw [g3]; exact Nat.le_trans (Nat.min_le_left _ _) z1) g3 g1 g2 g4 g5
      exact ⟨.ref _, H', J, rfl, q H' _ as k1 k2 k3 g3 k4⟩
end
end TF

namespace TF
open PySem PySem.Spec PyProof.Rows L2
section
variable {P : Program} {w : World} {K : PySem.W.Frag} {mg : Str → Option Value} {base : Heap}
theorem GOk.of {k : Nat} {f : Addr} {fd : FuncData} {ps : List Str} {sp : Sp} (F : FnOk P w K mg base CX0 k f fd ps sp) : GOk P w K mg base k f fd ps sp :=
  ⟨F.len, fun A outer s H args us vs Q E hr _ e0 hb r h => F.run A outer s H args us vs Q E hr e0 hb r h⟩
/-- THE RULE for such a def: its body, where no repr is running -/
theorem gok {x qual : Str} {st : Stmt} {f : Addr} {fd : FuncData} {N ps : List Str} {k : Nat} {sp : Sp} (F : Fun K x qual st f fd) (S : FnScope N ps (defScope st))
    (len : ∀ vs H Q E, sp vs H Q E → vs.length = ps.length)
    (hbody : ∀ (cdv : Value) (A : Around) (outer : List Env) (s : Shared) (H : Hp) (vs : List V) (Q : VK) (E : XK),
      Room k (A.deeper (envOfC qual (defScope st) s.heap.objs.size f cdv)) → A.guards = some [] → sp vs H Q E →
      ∃ t, PSs (cxOf CX0 P w K mg base N qual (defScope st) f cdv A outer s H E).nox (defBody st) t ∧ t { nx := fun _ H' => Q .non H', rt := Q } (start N vs) H) :
    GOk P w K mg base (k + 1) f fd ps sp := by
  obtain ⟨oc, od, kV, doc, pm, an, cdv, ct, osl, rfl, lk, hcd⟩ := F.ex
  refine ⟨len, fun A outer s H args us vs Q E hr hg e0 hb r hsp => ?_⟩
  have hl := len _ _ _ _ hsp
  have KX : K.In s.heap := e0.mod.kin.keeps fun b o e => (e0.bs b o e).1
  have lim : s.heap.NoLimit := e0.mod.nolimit.keeps fun b o e => (e0.bs b o e).1
  have kinds : ∀ y ∈ ps.zip us, (defScope st).names.lookup y.1 = some .local ∨
      ((defScope st).names.lookup y.1 = some .cell ∧ ((cellsFrom (s.heap.objs.size + 1) (defScope st).names []).lookup y.1).isSome = true) := by
    rintro ⟨n, v⟩ hy
    rcases S.par n (List.of_mem_zip hy).1 with q | q
    · exact .inl q
    · exact .inr ⟨q, PySem.W.cellsFrom_some _ _ _ (.inl q)⟩
  refine codeAny_call_function hr.depth (KX _ _ lk) rfl S.co S.gen rfl
    (PySem.W.codeRec_of KX hcd) (hb _ _ _ _ ?_)
  refine wpAny_newFunctionEnv_cells S.kind kinds fun env he s1 x => ?_
  subst he
  refine ⟨lim.keeps x.toInCall.keep, codeAny_func ?_⟩
  obtain ⟨t, ht, hq⟩ := hbody cdv A outer s H vs Q E (hr.deeper _) hg hsp
  have I := inv_start (CX := CX0) (E := E) S hr.hd e0 hl r x
  refine wpAny_mono (ht.nox.run [] s1 (start N vs) H _ I hq) (fun fl s' hs => ?_)
    fun e s' hs => hs
  have done : ∀ {σ' : L2.St} {H' : Hp} {v : V} {u : Value}, Inv (cxOf CX0 P w K mg base N qual (defScope st) f cdv A outer s H E) [] σ' H' s' →
      RelV v u → Q v H' → CE outer P w H s Q u s' := by
    intro σ' H' v u J rv q
    exact ⟨v, H', J.os, J.bare, J.base, J.hok, rv, q⟩
  cases fl with
  | ret u => obtain ⟨v, σ', H', J, rv, q⟩ := hs; exact done J rv q
  | next => obtain ⟨σ', H', J, q⟩ := hs; exact done (v := V.non) (u := Value.none) J rfl q
  | brk => obtain ⟨_, _, _, q⟩ := hs; exact q.elim
  | cont => obtain ⟨_, _, _, q⟩ := hs; exact q.elim
end
section
variable {X : Cx} {pins : List (Addr × Obj)} {σ : L2.St} {H : Hp} {s : Shared} {k : Nat} {f : Addr} {fd : FuncData} {ps : List Str} {sp : Sp} {ds : List Value} {dvs : List V} {x : Str} {p pos : Pos} {e : Expr} {es : List Expr} {t : TA} {E : XK}
/-- f(e, ..), f such a def -/
theorem pe_callG (F : GOk X.prog X.w X.K X.mg X.base k f fd ps sp) (hG : X.A.guards = some []) (hr : Room k X.A) (hg : Gl X x) (hm : X.mg x = some (.ref f))
    (hk : PySem.W.keepIn X.K (.ref f) = true) (hb : Binds X.K fd ps ds) (hd : Vals dvs ds) (hx : Passes CX0 X E) (ha : PA X (e :: es) t)
    (hdb : (x == ("__debug__" : Str)) = false := by decide) (he : starEach (e :: es) X.env = (false, eval e X.env) :: starEach es X.env := by rfl)
    (hpl : (backTo pos (starEach es X.env)).any (·.1) = false := by rfl) : PE X (.Call (.Name x p) (e :: es) [] pos) (tCall sp dvs E t) := by
  constructor
  intro pins s σ H Q I h
  refine wpAny_Call_Name_kw (ld_glob I hg hm ?_ hdb)
  refine PySem.W.callWith_K (h₀ := X.base) I.ok.mod.kin hk (thn (ha.run pos pins s σ H _ I h) fun us s1 hh => ?_) he hpl
  obtain ⟨vs, H1, I1, r, q⟩ := hh
  refine ⟨I1.kIn, ?_⟩
  have r2 : Vals (vs ++ dvs) (us ++ ds) := r.append hd
  have hl : (us ++ ds).length = ps.length := by
    rw [← r2.length]
    exact F.size _ _ _ _ q
  refine wpAny_call (codeAny_mono (F.runs X.A X.stack s1 H1 ⟨us, []⟩ (us ++ ds) (vs ++ dvs) Q E hr hG I1.env0 (hb s1 us I1.kIn hl) r2 q) fun r s' hq => ?_)
  cases r with
  | error e => exact hx pins σ H1 s1 e s' I1 hq
  | ok fl =>
    cases fl with
    | ret u => exact I1.after hq
    | next => exact hq.elim
    | brk => exact hq.elim
    | cont => exact hq.elim
/-- xs + ys, either a list to be read -/
def rCatS (K : PySem.W.Frag) : R2 := fun x y H Q => ∃ (l b : Addr) (xs zs : List V), x = .ref l ∧ y = .ref b ∧ SqL K H l xs ∧ SqL K H b zs ∧ xs.length + zs.length ≤ sizeLine ∧ ∀ p, H p = none → Q (.ref p) (upd H p (.lst (xs ++ zs)))
theorem op_catS : OpR X (binaryOp .Add) (rCatS X.K) := by
  intro pins s σ H x y v u Q I rx ry h
  obtain ⟨l, b, xs, zs, rfl, rfl, hH, hB, hz, q⟩ := h
  cases rx
  cases ry
  obtain ⟨its, r, p1, _⟩ := I.list hH
  obtain ⟨its2, r2, p2, _⟩ := I.list hB
  have n1 := r.length
  have n2 := r2.length
  obtain ⟨⟨c1, g1, w1, k1⟩, e1, z1, m1, y1⟩ := p1.isList
  obtain ⟨⟨c2, g2, w2, k2⟩, e2, z2, m2, y2⟩ := p2.isList
  simp only at z1 y1 z2 y2
  subst z1 y1 z2 y2
  have za : its.toArray.size + its2.toArray.size ≤ sizeLine := by
    rw [List.size_toArray, List.size_toArray]
    omega
  refine concat_meets ⟨_, e1, rfl⟩ ⟨_, e2, rfl⟩ noFill_list_add seq_list_add PySem.F.slot_list_add PySem.F.entry_list_add (PySem.F.args_list_add_2 _ _)
    (list_addW l b its.toArray its2.toArray m1 m2 g1 g2 k1 k2 za) ⟨e1, e2, ?_⟩
  rw [show its.toArray ++ its2.toArray = (its ++ its2).toArray by simp]
  exact ⟨.ref _, _, I.lnew (t' := s.toks) (r.append r2) (by rw [List.length_append]; omega), rfl, q _ I.fresh⟩
/-! ### the end of a law whose def is such a one -/
theorem law_callG {P : Program} {w : World} {K : PySem.W.Frag} {mg mb : Str → Option Value} {k : Nat} {fa a : Addr} {fd : FuncData} {x : Str} {sp : Sp} {s₁ : Shared} {vs : List Value} {ns : List Int}
    (KX : K.In s₁.heap) (hns : s₁.heap.Ns mainGlobals mg) (hb : s₁.heap.Ns builtinsNs mb) (hbb : ∀ x : Str, x ≠ "__name__" → mb x = bootBuiltins x)
    (hlim : s₁.heap.NoLimit) (hg : s₁.gens = #[]) (ha : s₁.heap.get? a = some { cls := .type "list", data := .seq vs.toArray })
    (hi : IntsAre vs ns) (hl : ns.length ≤ sizeLine) (hr : Room k callerA)
    (F : ∀ base : Heap, K.In base → base.Ns mainGlobals mg → GOk P w K mg base k fa fd [x] sp)
    (hbind : ∀ (s : Shared) (u : Value), BindsTo s fd ⟨[u], []⟩ [(x, u)])
    (hsp : ∀ H : Hp, Only H → SqL K H a (ns.map V.int) → sp [.ref a] H (fun v _ => v = .bl true) fun _ _ _ => False) :
    codeAny (model P w) callerA (.call (.ref fa) ⟨[.ref a], []⟩)
      (fun r s' => r = .ok (.ret (.bool true)) ∧ OldK s₁.heap s'.heap ∧ s'.os = s₁.os ∧ AllBare s'.gens) s₁ := by
  have big : ∀ H : Hp, Only H → SqL K H a (ns.map V.int) → HOk P w H s₁.heap → (∀ b, H b ≠ none → b = a) → (H a ≠ none → K.lookup a = none) →
      codeAny (model P w) callerA (.call (.ref fa) ⟨[.ref a], []⟩)
        (fun r s' => r = .ok (.ret (.bool true)) ∧ OldK s₁.heap s'.heap ∧ s'.os = s₁.os ∧ AllBare s'.gens) s₁ := by
    intro H hO hS hok hA hK
    have low : ∀ {b : Addr} {o : Obj}, s₁.heap.get? b = some o → H b = none → (hidT s₁.heap H).get? b = some o := hidT_get
    have noD : ∀ {b : Addr} {o : Obj} {es : Array DictEntry} {ep : Nat}, s₁.heap.get? b = some o → o.data = .dict es ep → H b = none := by
      intro b o es ep e d
      cases q : H b with
      | none => rfl
      | some u =>
        have eb : b = a := hA b (by rw [q]; simp)
        rw [eb, ha] at e
        cases e
        exact absurd (show Data.seq vs.toArray _ = Data.dict es ep from d) (by simp)
    have nsK : ∀ {b : Addr} {m : Str → Option Value}, s₁.heap.Ns b m → (hidT s₁.heap H).Ns b m := by
      rintro b m ⟨o, es, ep, e, d, r⟩
      exact ⟨o, es, ep, low e (noD e d), d, r⟩
    have hKb : K.In (hidT s₁.heap H) := by
      intro b o e
      refine low (KX b o e) ?_
      cases q : H b with
      | none => rfl
      | some u =>
        have eb : b = a := hA b (by rw [q]; simp)
        rw [eb, hK (by rw [← eb, q]; simp)] at e
        cases e
    have hM : Mod K mg (hidT s₁.heap H) := ⟨hKb, nsK hns, ⟨mb, nsK hb, hbb⟩, hlim.elim fun mc h => ⟨mc, nsK h.1, h.2⟩⟩
    have e0 : Env0 P w K mg (hidT s₁.heap H) callerA [] s₁ H := by
      refine ⟨rfl, hM, fun b o e => of_hidT e, Nat.le_of_eq (hidT_size _ _), trivial, fun b hb => ?_, hok, .of_eq hg⟩
      exact absurd (show b ∈ ([] : List Addr) from hb) (by simp)
    refine codeAny_mono ((F _ hKb (nsK hns)).runs callerA [] s₁ H ⟨[.ref a], []⟩ [.ref a] [.ref a] _ _ hr rfl e0 (hbind s₁ (.ref a)) (.cons rfl .nil) (hsp H hO hS)) fun r s' h => ?_
    cases r with
    | error e => exact (show False from h).elim
    | ok fl =>
      cases fl with
      | next => exact h.elim
      | brk => exact h.elim
      | cont => exact h.elim
      | ret u =>
        obtain ⟨v, H', os, bare, un, hok', r', q⟩ := h
        have ev : v = .bl true := q
        subst ev
        obtain rfl : u = Value.bool true := r'
        refine ⟨rfl, OldK.of_keep fun b o e => ?_, os, bare⟩
        cases qb : H b with
        | none => exact un.keep b o e qb (fun z => absurd (show b ∈ ([] : List Addr) from z) (by simp)) (by simp)
        | some u =>
          rcases hO b with z | ⟨ob, xs, z⟩
          · rw [qb] at z
            cases z
          · obtain ⟨e1, _⟩ := hok b _ z
            obtain ⟨e2, _⟩ := hok' b _ (un.frzs b ob _ z)
            rw [e] at e1
            cases e1
            exact e2
  have rv := vals_ints hi
  have lenV := hi.length
  cases hk : K.lookup a with
  | some o =>
    have e := KX a o hk
    rw [ha] at e
    cases e
    refine big (fun _ => none) (fun _ => .inl rfl) (.inr ⟨_, vs.toArray, _, hk, rfl, rfl, rfl, by rw [List.size_toArray, lenV]; exact hl, by simpa using rv⟩) ?_ (fun b z => absurd rfl z) fun z => absurd rfl z
    intro b u z
    exact absurd (show (none : Option HO) = some u from z) (by simp)
  | none =>
    refine big (fun b => if b = a then some (.frz { cls := .type "list", data := .seq vs.toArray } (.lst (ns.map V.int))) else none) (fun b => ?_)
      (.inl (.inr ⟨{ cls := .type "list", data := .seq vs.toArray }, if_pos rfl⟩)) (fun b u z => ?_) (fun b z => ?_) fun _ => hk
    · by_cases hb : b = a
      · exact .inr ⟨_, _, if_pos hb⟩
      · exact .inl (if_neg hb)
    · by_cases hb : b = a
      · have z' := (if_pos hb).symm.trans z
        cases z'
        subst hb
        exact ⟨ha, by rw [List.length_map]; exact hl, vs, _, rv, ha⟩
      · have z' := (if_neg hb).symm.trans z
        cases z'
    · by_cases hb : b = a
      · exact hb
      · exact absurd (if_neg hb) z
theorem walk_ofG {l : PySem.W.OpenLaw} {n k : Nat} {q : Program} {loose : List Str} {XP : (Str → Option Value) → Heap → Prop} {YP : World → Heap → Prop} {d : DefRec} {K : Params → PySem.W.Frag} {sp : World → Sp} {x : Str}
    (hn : l.most = some n) (hn2 : n ≤ sizeLine) (hdf : d.params.defaults = []) (hr : Room k callerA)
    (hY : ∀ (w : World) (h : Heap), YP w h → (K w.params).In h)
    (F : ∀ (w : World) (mg : Str → Option Value) (fa : Addr) (h : Heap), (K w.params).In h → h.Ns mainGlobals mg → mg d.name = some (.ref fa) →
      ∃ fd : FuncData, (∀ (s : Shared) (u : Value), BindsTo s fd ⟨[u], []⟩ [(x, u)]) ∧
        ∀ base : Heap, (K w.params).In base → base.Ns mainGlobals mg → GOk l.prog w (K w.params) mg base k fa fd [x] (sp w))
    (hsp : ∀ (w : World) (H : Hp) (a : Addr) (ns : List Int), ns.length ≤ n → Only H → SqL (K w.params) H a (ns.map V.int) → sp w [.ref a] H (fun v _ => v = .bl true) fun _ _ _ => False) :
    PySem.W.WalkO q loose XP YP l.row.toRowW d [] (fun f vs => PySem.call f vs) := by
  refine Att.attach_call hn hdf fun w s₀ s₁ mg mb fa o pm cd doc a vs ns G Y ho hd hcd hmg hobj hints hlen hg => ?_
  have KX := hY w _ Y
  obtain ⟨fd, hb, hF⟩ := F w mg fa _ KX G.T.g hmg
  exact law_callG KX G.T.g G.T.b G.T.builtins G.T.nolimit hg hobj hints (Nat.le_trans hlen hn2) hr hF hb fun H hO hS => hsp w H a ns hlen hO hS
end
end TF

namespace TF
open PySem PySem.Spec PyProof.Rows L2 TM
section
variable {X : Cx} {pins : List (Addr × Obj)} {σ : L2.St} {H : Hp} {s : Shared} {k : Nat} {f : Addr} {fd : FuncData} {ps ks : List Str} {sp : Sp} {x : Str} {p pos : Pos} {E : XK}
theorem ip_of {op : Operator} {r : R2} (h : OpR X (inplaceOp op) r) : PIp X op r := fun pins s σ H x y v u Q I r1 r2 q => h pins s σ H x y v u Q I r1 r2 q
theorem iop_mulW : OpR X (inplaceOp .Mult) (rI CMulW fun i j => .int (i * j)) := opI fun _ _ _ _ _ _ _ hc q => imul_int q hc.ok
/-- how keywords alone bind -/
structure KB0 (K : PySem.W.Frag) (fd : FuncData) (ps ks : List Str) (g : {α : Type} → List α → List α) : Prop where
  to : ∀ (s : Shared) (ws : List Value), K.In s.heap → ws.length = ks.length → BindsTo s fd ⟨[], ks.zip ws⟩ (ps.zip (g ws))
  rel : ∀ {zs : List V} {ws : List Value}, Vals zs ws → Vals (g zs) (g ws)
def tCallW (sp : Sp) (n : Nat) (g : {α : Type} → List α → List α) (E : XK) (tk : TA) : TE := fun σ H Q => tk σ H fun zs H2 => zs.length = n ∧ sp (g zs) H2 Q E
/-- f(k = v, ..) by keywords alone -/
theorem pe_callK0 {g : {α : Type} → List α → List α} {kws : List Keyword} {tk : TA} (F : FnOk X.prog X.w X.K X.mg X.base CX0 k f fd ps sp) (hr : Room k X.A) (hg : Gl X x)
    (hm : X.mg x = some (.ref f)) (hk : PySem.W.keepIn X.K (.ref f) = true) (hb : KB0 X.K fd ps ks g) (hx : Passes CX0 X E) (hkw : PK X kws tk)
    (hall : (backToKw pos (keywordEach kws X.env)).all (·.1.isSome) = true := by rfl) (hks : (backToKw pos (keywordEach kws X.env)).filterMap (·.1) = ks := by rfl)
    (hdb : (x == ("__debug__" : Str)) = false := by decide)
    (hpl : ((backTo pos (starEach [] X.env)).any (·.1) || (backToKw pos (keywordEach kws X.env)).any (·.1.isNone)) = false := by rfl) :
    PE X (.Call (.Name x p) [] kws pos) (tCallW sp ks.length g E tk) := by
  constructor
  intro pins s σ H Q I h
  refine wpAny_Call_Name_kw (ld_glob I hg hm ?_ hdb)
  refine PySem.W.callWith_KW0 (h₀ := X.base) I.ok.mod.kin hk hall ?_ hpl
  refine thn (hkw.run pos pins s σ H _ I h) fun ws s2 hh => ?_
  obtain ⟨zs, H2, I2, rz, l0, q2⟩ := hh
  refine ⟨I2.kIn, ?_⟩
  rw [hks]
  have r2 := hb.rel rz
  have hl : ws.length = ks.length := by rw [← rz.length, l0]
  refine wpAny_call (codeAny_mono (F.run X.A X.stack s2 H2 ⟨[], ks.zip ws⟩ (g ws) (g zs) Q E hr I2.env0 (hb.to s2 ws I2.kIn hl) r2 q2) fun r s' hq => ?_)
  cases r with
  | error e => exact hx pins σ H2 s2 e s' I2 hq
  | ok fl =>
    cases fl with
    | ret u => exact I2.after hq
    | next => exact hq.elim
    | brk => exact hq.elim
    | cont => exact hq.elim
theorem kb_mk {K : PySem.W.Frag} {x qual : Str} {st : Stmt} {f : Addr} {fd : FuncData} {ps : List Str} (F : Fun K x qual st f fd)
    (h : ∀ (kV doc pm : Value) (an : Option Addr) (cdv ct : Value) (us : List Value), us.length = ps.length → bindArgs (PySem.W.fnOf x qual (defArgs st) (defBody st) (defScope st) .none kV doc pm an cdv ct) ⟨[], ps.zip us⟩ = pure (ps.zip us)) :
    KB0 K fd ps ps (fun l => l) := by
  obtain ⟨oc, od, kV, doc, pm, an, cdv, ct, osl, rfl, lk, hcd⟩ := F.ex
  exact ⟨fun s ws _ hl => .of_eq (h kV doc pm an cdv ct ws hl), fun r => r⟩
end
/-! ### values and short facts -/
def vn (n : Nat) : V := .int (n : Int)
theorem fmod_nat (n r : Nat) : (n : Int).fmod (r : Int) = ((n % r : Nat) : Int) := by
  rw [Int.fmod_eq_emod_of_nonneg _ (by omega)]; rfl
theorem div_nat (n r : Nat) : (n : Int) / (r : Int) = ((n / r : Nat) : Int) := rfl
theorem inV_two (l : List Nat) : inV (.int 2) (l.map vn) = decide (2 ∈ l) := by
  induction l with
  | nil => rfl
  | cons a l ih =>
    show (eqV (vn a) (.int 2) || inV (.int 2) (l.map vn)) = _
    rw [ih]
    show ((a : Int) == 2 || _) = _
    by_cases h : a = 2
    · subst h; simp
    · have h1 : ((a : Int) == 2) = false := by
        simp only [beq_eq_false_iff_ne]; omega
      have h2 : ¬ 2 = a := fun e => h e.symm
      simp [h1, h2]
theorem flat_vn (l : List Nat) : (l.map vn).all flatV = true := by
  rw [List.all_eq_true]
  intro x hx
  obtain ⟨a, _, rfl⟩ := List.mem_map.mp hx
  rfl
theorem small_ok {n b : Nat} (h : n ≤ b) (hb : b ≤ 1000000 := by decide) : n ≤ sizeLine := Nat.le_trans (Nat.le_trans h hb) (by decide)
theorem small_lt {n b : Nat} (h : n ≤ b) (hb : b ≤ 1000000 := by decide) : n < sizeLine := Nat.lt_of_le_of_lt (Nat.le_trans h hb) (by decide)
theorem same_new {H : Hp} {p : Addr} {o : HO} (h : H p = none) : Same H (upd H p o) := fun b x e => by
  rw [upd_ne (ne_of_none e h)]
  exact e
theorem Same.mut {H H' : Hp} {p : Addr} {o : HO} (e : Same H H') (h : H p = none) : Same H (upd H' p o) := fun a u ha => by
  rw [upd_ne (ne_of_none ha h)]
  exact e a u ha
end TF

namespace TF
open PySem PySem.Spec PyProof.Rows L2 TM
theorem Vals.rev : ∀ {zs : List V} {ws : List Value}, Vals zs ws → Vals zs.reverse ws.reverse
  | _, _, .nil => .nil
  | _, _, .cons a r => by
    rw [List.reverse_cons, List.reverse_cons]
    exact (Vals.rev r).append (.cons a .nil)
theorem room65 {k : Nat} {A : Around} (hr : Room k A) : A.units + 65 < cLine := by
  have := hr.un
  omega
theorem ne_no {a b : V} (h : a = b) : (!decide (a = b)) = true → False := by simp [h]
theorem two_no {n : Nat} (h : TM.plain n) : inV (.int 2) ((digs 3 n).map vn) = true → False := by
  rw [inV_two]
  exact fun c => h (of_decide_eq_true c)
theorem op_inK {X : Cx} (K : PySem.W.Frag) (h : X.K = K := by rfl) : OpR X (compareOp .In) (rIn K false) := by
  subst h
  exact op_in_seq
theorem op_notInK {X : Cx} (K : PySem.W.Frag) (h : X.K = K := by rfl) : OpR X (compareOp .NotIn) (rIn K true) := by
  subst h
  exact op_notIn_seq
/-- two parameters, given by name the other way round -/
theorem kb_mk2 {K : PySem.W.Frag} {x qual : Str} {st : Stmt} {f : Addr} {fd : FuncData} {p q : Str} (F : Fun K x qual st f fd)
    (h : ∀ (kV doc pm : Value) (an : Option Addr) (cdv ct : Value) (u v : Value), bindArgs (PySem.W.fnOf x qual (defArgs st) (defBody st) (defScope st) .none kV doc pm an cdv ct) ⟨[], [(q, v), (p, u)]⟩ = pure [(p, u), (q, v)]) :
    KB0 K fd [p, q] [q, p] (fun l => l.reverse) := by
  obtain ⟨oc, od, kV, doc, pm, an, cdv, ct, osl, rfl, lk, hcd⟩ := F.ex
  refine ⟨fun s ws _ hl => ?_, fun {zs ws} r => ?_⟩
  · match ws, hl with
    | [v, u], _ => exact .of_eq (h kV doc pm an cdv ct u v)
  · exact Vals.rev r
/-! ### data: ints, pairs of ints, lists of these -/
def prI (a b : Int) : PyData := .tuple [.int a, .int b]
section
variable {K : PySem.W.Frag} {H : Hp}
theorem dpAll_of : ∀ (vs : List V) (ds : List PyData), vs.length = ds.length → (∀ (j : Nat) (v : V) (d : PyData), vs[j]? = some v → ds[j]? = some d → Dp K H v d) → DpAll K H vs ds
  | [], [], _, _ => .nil
  | [], _ :: _, h, _ => by cases h
  | _ :: _, [], h, _ => by cases h
  | v :: vs, d :: ds, hl, h => .cons (h 0 v d rfl rfl) (dpAll_of vs ds (Nat.succ.inj hl) fun j v' d' e1 e2 => h (j + 1) v' d' e1 e2)
theorem dp_pair {t : Addr} {a b : Int} (h : SqT K H t [.int a, .int b]) : Dp K H (.ref t) (prI a b) := .tup h (.cons (.int a) (.cons (.int b) .nil))
theorem dp_ints {p : Addr} {l : List Int} (h : SqL K H p (l.map V.int)) : Dp K H (.ref p) (.list (l.map PyData.int)) := by
  refine .lst h (dpAll_of _ _ (by simp) fun j v d e1 e2 => ?_)
  rw [List.getElem?_map] at e1 e2
  cases hx : l[j]? with
  | none => rw [hx] at e1; cases e1
  | some x =>
    rw [hx] at e1 e2
    cases e1
    cases e2
    exact .int x
end
theorem prI_lay (a b : Int) : (prI a b).canLay0 = true := by simp [prI, PyData.canLay0, PyData.canLayAll0]
theorem prI_depth (a b : Int) : (prI a b).depth = 1 := by simp [prI, PyData.depth, PyData.depthAll]
theorem prI_nodict (a b : Int) : (prI a b).hasDict = false := by simp [prI, PyData.hasDict, PyData.hasDictAll]
theorem shaped_of {d : PyData} (h1 : d.canLay0 = true) (h2 : d.depth ≤ 64) : SeqAt.shaped d = true := by
  show (d.canLay0 && decide (d.depth ≤ 64)) = true
  rw [h1, decide_eq_true h2]
  rfl
theorem prI_shaped (a b : Int) : SeqAt.shaped (prI a b) = true := shaped_of (prI_lay a b) (by rw [prI_depth]; decide)
theorem prs_lay : ∀ l : List (Int × Int), PyData.canLayAll0 (l.map fun p => prI p.1 p.2) = true
  | [] => by simp [PyData.canLayAll0]
  | z :: l => by simp [PyData.canLayAll0, prI_lay z.1 z.2, prs_lay l]
theorem prs_depth : ∀ l : List (Int × Int), PyData.depthAll (l.map fun p => prI p.1 p.2) ≤ 1
  | [] => by simp [PyData.depthAll]
  | z :: l => by
    have h1 := prs_depth l
    have h2 := prI_depth z.1 z.2
    simp only [List.map_cons, PyData.depthAll]
    omega
theorem prs_shaped (l : List (Int × Int)) : SeqAt.shaped (.list (l.map fun p => prI p.1 p.2)) = true := by
  have h := prs_depth l
  refine shaped_of (by simp only [PyData.canLay0]; exact prs_lay l) ?_
  simp only [PyData.depth]
  omega
theorem prI_eqv (a b c d : Int) : PyData.eqv (prI a b) (prI c d) = decide (a = c ∧ b = d) := by
  have e : PyData.eqv (prI a b) (prI c d) = ((a == c) && ((b == d) && true)) := by simp only [prI, PyData.eqv, PyData.eqvAll]
  rw [e]
  by_cases h1 : a = c <;> by_cases h2 : b = d <;> simp [h1, h2]
theorem ints_lay : ∀ l : List Int, PyData.canLayAll0 (l.map PyData.int) = true
  | [] => by simp [PyData.canLayAll0]
  | z :: l => by simp [PyData.canLayAll0, PyData.canLay0, ints_lay l]
theorem ints_depth : ∀ l : List Int, PyData.depthAll (l.map PyData.int) = 0
  | [] => by simp [PyData.depthAll]
  | z :: l => by simp [PyData.depthAll, PyData.depth, ints_depth l]
theorem ints_shaped (l : List Int) : SeqAt.shaped (.list (l.map PyData.int)) = true :=
  shaped_of (by simp only [PyData.canLay0]; exact ints_lay l) (by simp only [PyData.depth, ints_depth]; omega)
/-! ### how long what repr shows is -/
theorem textFrom_le (B : Nat) : ∀ (ts : List Str) (k : Nat) (acc : Str), (∀ t ∈ ts, t.length ≤ B) → (textFrom k acc ts).length ≤ acc.length + ts.length * (B + 2)
  | [], k, acc, _ => by
    show acc.length ≤ _
    omega
  | t :: r, k, acc, h => by
    have ih := textFrom_le B r (k + 1) (acc ++ (if k > 0 then ", " else "" : String) ++ t) fun t' ht => h t' (List.mem_cons_of_mem _ ht)
    have e : (acc ++ (if k > 0 then ", " else "" : String) ++ t).length = acc.length + (if k > 0 then 2 else 0) + t.length := by
      rw [strLen_append, strLen_append]
      split <;> rfl
    have ht := h t List.mem_cons_self
    show (textFrom (k + 1) (acc ++ (if k > 0 then ", " else "" : String) ++ t) r).length ≤ _
    have h2 : (if k > 0 then 2 else 0 : Nat) ≤ 2 := by split <;> omega
    rw [List.length_cons, Nat.succ_mul]
    omega
theorem listText_le {B : Nat} {ts : List Str} (h : ∀ t ∈ ts, t.length ≤ B) : (listText ts).length ≤ 2 + ts.length * (B + 2) := by
  have e := textFrom_le B ts 0 "[" h
  unfold listText
  rw [strLen_append]
  have e1 : ((("[" : String) : Str)).length = 1 := rfl
  have e2 : ((("]" : String) : Str)).length = 1 := rfl
  omega
theorem piled_le {B : Nat} : ∀ {ts : List Str}, (∀ t ∈ ts, t.length ≤ B) → piled ts ≤ ts.length * (B + 2)
  | [], _ => by simp [piled]
  | t :: r, h => by
    have ih := piled_le (B := B) (ts := r) fun t' ht => h t' (List.mem_cons_of_mem _ ht)
    have ht := h t List.mem_cons_self
    simp only [piled] at ih ⊢
    rw [List.map_cons, List.sum_cons, List.length_cons, Nat.succ_mul]
    omega
theorem tupleText_le {B : Nat} {ts : List Str} (h0 : ts ≠ []) (h : ∀ t ∈ ts, t.length ≤ B) : (tupleText ts).length ≤ 4 + ts.length * (B + 2) := by
  have e := piled_le h
  have j := join_length_add ts h0
  unfold tupleText
  rw [strLen_append, strLen_append]
  have e1 : ((("(" : String) : Str)).length = 1 := rfl
  have e2 : (((if ts.length == 1 then ",)" else ")" : String) : Str)).length ≤ 2 := by split <;> decide
  omega
theorem shownAll_map : ∀ l : List PyData, PyData.shownAll l = l.map PyData.shown
  | [] => by simp [PyData.shownAll]
  | x :: l => by simp [PyData.shownAll, shownAll_map l]
theorem shown_int {i : Int} (h : i.natAbs.log2 < 1920) : (PyData.int i).shown.length ≤ 1921 := by
  simp only [PyData.shown]
  exact int_text_len_1921 h
theorem shown_list {B : Nat} {l : List PyData} (h : ∀ d ∈ l, d.shown.length ≤ B) : (PyData.list l).shown.length ≤ 2 + l.length * (B + 2) := by
  simp only [PyData.shown]
  rw [shownAll_map]
  have := listText_le (B := B) (ts := l.map PyData.shown) fun t ht => by
    obtain ⟨d, hd, rfl⟩ := List.mem_map.mp ht
    exact h d hd
  rw [List.length_map] at this
  exact this
theorem shown_prI {a b : Int} (ha : a.natAbs.log2 < 1920) (hb : b.natAbs.log2 < 1920) : (prI a b).shown.length ≤ 4000 := by
  show (tupleText (PyData.shownAll [.int a, .int b])).length ≤ 4000
  rw [shownAll_map]
  have := tupleText_le (B := 1921) (ts := [PyData.int a, PyData.int b].map PyData.shown) (by simp) fun t ht => by
    obtain ⟨d, hd, rfl⟩ := List.mem_map.mp ht
    simp only [List.mem_cons, List.not_mem_nil, or_false] at hd
    rcases hd with rfl | rfl
    · exact shown_int ha
    · exact shown_int hb
  exact Nat.le_trans this (by show 4 + 2 * (1921 + 2) ≤ 4000; decide)
theorem prI_show {a b : Int} (ha : a.natAbs.log2 < 1920) (hb : b.natAbs.log2 < 1920) : (prI a b).showable = true := by
  simp [prI, PyData.showable, PyData.showableAll, ha, hb]
theorem prs_show : ∀ {l : List (Int × Int)}, (∀ p ∈ l, p.1.natAbs.log2 < 1920 ∧ p.2.natAbs.log2 < 1920) → PyData.showableAll (l.map fun p => prI p.1 p.2) = true
  | [], _ => by simp [PyData.showableAll]
  | z :: l, h => by
    have h1 := h z List.mem_cons_self
    simp only [List.map_cons, PyData.showableAll, prI_show h1.1 h1.2, prs_show fun p hp => h p (List.mem_cons_of_mem _ hp), Bool.and_self]
theorem prs_nodict : ∀ l : List (Int × Int), PyData.hasDictAll (l.map fun p => prI p.1 p.2) = false
  | [] => by simp [PyData.hasDictAll]
  | z :: l => by simp [PyData.hasDictAll, prI_nodict z.1 z.2, prs_nodict l]
/-- what repr asks of a list of pairs -/
theorem prs_repr {l : List (Int × Int)} (h : ∀ p ∈ l, p.1.natAbs.log2 < 1920 ∧ p.2.natAbs.log2 < 1920) (hl : l.length ≤ 200) :
    (PyData.list (l.map fun p => prI p.1 p.2)).showable = true ∧ (PyData.list (l.map fun p => prI p.1 p.2)).hasDict = false ∧ (PyData.list (l.map fun p => prI p.1 p.2)).depth ≤ 60 ∧
      (PyData.list (l.map fun p => prI p.1 p.2)).shown.length ≤ sizeLine := by
  refine ⟨by simp only [PyData.showable]; exact prs_show h, by simp only [PyData.hasDict]; exact prs_nodict l, by simp only [PyData.depth]; have := prs_depth l; omega, ?_⟩
  refine Nat.le_trans (shown_list (B := 4000) fun d hd => ?_) ?_
  · obtain ⟨p, hp, rfl⟩ := List.mem_map.mp hd
    exact shown_prI (h p hp).1 (h p hp).2
  · rw [List.length_map]
    refine Nat.le_trans (Nat.add_le_add_left (Nat.mul_le_mul_right _ hl) 2) (by decide)
theorem ints_show : ∀ {l : List Int}, (∀ i ∈ l, i.natAbs.log2 < 1920) → PyData.showableAll (l.map PyData.int) = true
  | [], _ => by simp [PyData.showableAll]
  | z :: l, h => by
    have h1 := h z List.mem_cons_self
    simp [PyData.showableAll, PyData.showable, h1, ints_show fun p hp => h p (List.mem_cons_of_mem _ hp)]
theorem ints_nodict : ∀ l : List Int, PyData.hasDictAll (l.map PyData.int) = false
  | [] => by simp [PyData.hasDictAll]
  | z :: l => by simp [PyData.hasDictAll, PyData.hasDict, ints_nodict l]
theorem ints_repr {l : List Int} (h : ∀ i ∈ l, i.natAbs.log2 < 1920) (hl : l.length ≤ 200) :
    (PyData.list (l.map PyData.int)).showable = true ∧ (PyData.list (l.map PyData.int)).hasDict = false ∧ (PyData.list (l.map PyData.int)).depth ≤ 60 ∧ (PyData.list (l.map PyData.int)).shown.length ≤ sizeLine := by
  refine ⟨by simp only [PyData.showable]; exact ints_show h, by simp only [PyData.hasDict]; exact ints_nodict l, by simp only [PyData.depth, ints_depth]; omega, ?_⟩
  refine Nat.le_trans (shown_list (B := 1921) fun d hd => ?_) ?_
  · obtain ⟨p, hp, rfl⟩ := List.mem_map.mp hd
    exact shown_int (h p hp)
  · rw [List.length_map]
    refine Nat.le_trans (Nat.add_le_add_left (Nat.mul_le_mul_right _ hl) 2) (by decide)
theorem log_of {n b : Nat} (h : n < 2 ^ b) (hb : 0 < b) (h2 : b ≤ 1920) : ((n : Int)).natAbs.log2 < 1920 := by
  rw [Int.natAbs_natCast]
  exact Nat.lt_of_lt_of_le (PySem.Flt.log2_lt_of hb h) h2
end TF

namespace TF
open PySem PySem.Spec PyProof.Rows L2 TM
section
variable {X : Cx}
theorem op_eqK (K : PySem.W.Frag) (hu : X.A.units + 64 < cLine) (h : X.K = K := by rfl) : OpR X (compareOp .Eq) (rEqD K) := by
  subst h
  exact op_eqD hu
theorem op_neK (K : PySem.W.Frag) (hu : X.A.units + 64 < cLine) (h : X.K = K := by rfl) : OpR X (compareOp .NotEq) (rNeD K) := by
  subst h
  exact op_neD hu
theorem sl_listK (K : PySem.W.Frag) (h : X.K = K := by rfl) : SlR X (rSlL K) := by
  subst h
  exact sl_list
theorem ix_listK (K : PySem.W.Frag) (h : X.K = K := by rfl) : IxR X (rIxL K) := by
  subst h
  exact ix_list
theorem cr_sumK (K : PySem.W.Frag) (hc : X.calm = true) (h : X.K = K := by rfl) : CallR X (.builtin "sum") (rSum K) := by
  subst h
  exact cr_sum hc
theorem cr_maxK (K : PySem.W.Frag) (hc : X.calm = true) (h : X.K = K := by rfl) : CallR X (.builtin "max") (rMax K) := by
  subst h
  exact cr_max hc
end
/-- all but what stands at p -/
def But (p : Addr) (H H' : Hp) : Prop := ∀ q o, q ≠ p → H q = some o → H' q = some o
theorem But.refl (p : Addr) (H : Hp) : But p H H := fun _ _ _ e => e
theorem But.same {p : Addr} {H H1 H2 : Hp} (a : But p H H1) (b : Same H1 H2) : But p H H2 := fun q o n e => b q o (a q o n e)
theorem Same.but {p : Addr} {H H1 : Hp} (a : Same H H1) : But p H H1 := fun q o _ e => a q o e
theorem But.upd {p : Addr} {H H1 : Hp} {o : HO} (a : But p H H1) : But p H (upd H1 p o) := fun q u n e => by
  rw [upd_ne n]
  exact a q u n e
theorem But.trans {p : Addr} {H H1 H2 : Hp} (a : But p H H1) (b : But p H1 H2) : But p H H2 := fun q o n e => b q o n (a q o n e)
theorem dp_vns {K : PySem.W.Frag} {H : Hp} {p : Addr} {l : List Nat} (h : SqL K H p (l.map vn)) : Dp K H (.ref p) (.list (l.map fun n : Nat => PyData.int (n : Int))) := by
  have := dp_ints (K := K) (H := H) (p := p) (l := l.map fun n : Nat => (n : Int)) (by rw [List.map_map]; exact h)
  rw [List.map_map] at this
  exact this
theorem ints_eqv : ∀ l : List Int, PyData.eqv (.list (l.map PyData.int)) (.list (l.map PyData.int)) = true := by
  intro l
  simp only [PyData.eqv]
  induction l with
  | nil => simp [PyData.eqvAll]
  | cons x l ih => simp [PyData.eqvAll, PyData.eqv, ih]
end TF

namespace TFZ
open PySem PySem.Spec PyProof.Rows L2
open Sem (wp)
/-- what enumerate(v) lays: the iterator of v, itself -/
def enObj (p : Addr) : Obj := { cls := .type "enumerate", data := .fields #[.none, .bool false, .ref p, rawInt 0, .none, .none] }
theorem enum_new1 {v : Value} {o : Obj} {HH : Heap → Prop} (B : Begins v o HH) :
    Meets (Builtin.«enumerate.__new__» ⟨[.type "enumerate", v], []⟩) (fun _ R s => HH s.heap ∧ R (.ok (.ret (.ref (s.heap.push o).objs.size))) { s with heap := (s.heap.push o).push (enObj s.heap.objs.size) }) := by
  refine Meets.of_wp fun prog w A R s h => ?_
  obtain ⟨hp, g, d, tk, os⟩ := s
  obtain ⟨h1, h2⟩ := h
  have hsub := sub_enumerate
  have first : ∀ {A' : Around} {E' : Value → Shared → Prop} {Q' : Value → Shared → Prop}, Q' (.ref hp.objs.size) ⟨hp.push o, g, d, tk, os⟩ → wpAny (model prog w) A' (pyIter v) Q' E' ⟨hp, g, d, tk, os⟩ := by
    intro A' E' Q' q
    exact B.iter prog w _ _ ⟨hp, g, d, tk, os⟩ _ h1 q
  wp_walk using first
  refine wpAny_stack_any fun z => wpAny_pure ?_
  split
  · rename_i cc _ _ _ _ _
    cases (cc == Value.type "enumerate") <;> (wp_walk using first) <;> exact ⟨_, rfl, h2⟩
  · wp_walk using first
    exact ⟨_, rfl, h2⟩
theorem call_enum1 {prog : Program} {w : World} {A : Around} {E : Value → Shared → Prop} {s : Shared} {v : Value} {o : Obj} {HH : Heap → Prop} {Q : Value → Shared → Prop} (B : Begins v o HH) (h1 : HH s.heap)
    (h : ∀ h', IsEnum h' (s.heap.objs.size + 1) s.heap.objs.size 0 .none → h'.get? s.heap.objs.size = some o → (∀ b u, s.heap.get? b = some u → h'.get? b = some u) → Q (.ref (s.heap.objs.size + 1)) { s with heap := h' }) :
    wpAny (model prog w) A (call (.type "enumerate") [v]) Q E s := by
  refine callType_new F.called_enumerate (by decide) (F.typeCall_enumerate_1 _) (F.newCall_enumerate_1 _) (fun x => F.args_object_init_2 x _) F.entry_enumerate_new (enum_new1 B) ⟨h1, ?_⟩
  have z : (s.heap.push o).objs.size = s.heap.objs.size + 1 := Heap.size_push ..
  have e : IsEnum ((s.heap.push o).push (enObj s.heap.objs.size)) (s.heap.objs.size + 1) s.heap.objs.size 0 .none := by
    have y := Heap.get?_push_size (s.heap.push o) (o := enObj s.heap.objs.size) rfl
    rw [z] at y
    exact y
  rw [z]
  exact ⟨⟨_, e, rfl⟩, h _ e (Heap.get?_push_of_some _ (Heap.get?_push_size _ B.free)) fun b u x => Heap.get?_push_of_some _ (Heap.get?_push_of_some _ x)⟩
end TFZ
namespace TF
open PySem PySem.Spec PyProof.Rows L2
/-! ### for i, x in enumerate(a tuple) -/
def Iet (K : PySem.W.Frag) (a : Addr) : It where
  go := fun i H => ∃ (xs : List V) (x : V), SqT K H a xs ∧ xs[i]? = some x
  yld := fun i H v H' => ∃ T x, v = .ref T ∧ H T = none ∧ H' = upd H T (.tup [.int (i : Nat), x]) ∧ ∀ xs, SqT K H a xs → xs[i]? = some x
  stop := fun i H => ∃ xs : List V, SqT K H a xs ∧ xs.length = i
/-- where it stands -/
def EnT (a e it : Addr) (i : Nat) (h : Heap) : Prop := (∃ old, IsEnum h e it ((i : Nat) : Int) old) ∧ h.IsTupleIter it a i ∧ e ≠ it ∧ a ≠ it ∧ a ≠ e
theorem two_of {b e it : Addr} (h : b ∈ [e, it]) : b = e ∨ b = it := by simpa using h
theorem turn_enumT {P : Program} {w : World} {K : PySem.W.Frag} {elts : List Expr} {kk : Nat} {tpos : Pos} (a e it : Addr) : Turn P w K (.Tuple elts kk tpos) (Iet K a) [e, it] e (EnT a e it) := by
  constructor
  case mem => simp
  case obj =>
    rintro i h ⟨⟨old, he⟩, ⟨o, ho, _, hd⟩, _⟩ b hb
    rcases two_of hb with rfl | rfl
    · exact ⟨_, he, fun v q => nomatch q⟩
    · exact ⟨o, ho, fun v q => by rw [hd] at q; cases q⟩
  case keep =>
    rintro i h h' ⟨⟨old, he⟩, hi, hn⟩ k
    exact ⟨⟨old, k e List.mem_cons_self _ he⟩, hi.at fun o q => k it (by simp) o q, hn⟩
  case item =>
    intro X hP hw hK hc i pins s σ H E I hf st hg
    subst hP hw hK
    obtain ⟨⟨old, he⟩, hit, n1, n2, n3⟩ := st
    obtain ⟨xs, x, hq, hx⟩ := hg
    obtain ⟨its, rv, p, hz⟩ := I.tuple hq
    obtain ⟨u, hu, ru⟩ := rv.get hx
    have be : e < s.heap.objs.size := Heap.lt_size he
    have bi : it < s.heap.objs.size := by
      obtain ⟨_, q, _⟩ := hit
      exact Heap.lt_size q
    have hlt : i < its.toArray.size := by
      rw [List.size_toArray]
      obtain ⟨y, _⟩ := List.getElem?_eq_some_iff.mp hu
      exact y
    have D := Draws.tuple (prog := X.prog) (w := X.w) (A := X.A.in1) (I.ok.hd hc) it a n2 its.toArray
    refine wpAny_pyNext_enum_itemD D he ⟨hit, p⟩ hlt n1 (by simp [n1, Ne.symm n3]) fun v h' tk hv ho hs hT hsz hk => ?_
    have ev : v = u := by
      rw [List.getElem?_toArray, hu] at hv
      exact (Option.some.inj hv).symm
    subst ev
    refine ⟨_, rfl, wpAny_letOwnedTupleGo_enum (s := { s with heap := h', toks := tk + 1 }) ho fun h2 he2 sb => ?_⟩
    have hT2 := (sb.2 _ (Nat.ne_of_gt be)).trans hT
    have new : ObjOk X.prog X.w (upd H s.heap.objs.size (.tup [.int (i : Nat), x])) h2 s.heap.objs.size (.tup [.int (i : Nat), x]) :=
      ⟨by show 2 ≤ sizeLine; decide, [.int i tk, v], .cons ⟨_, rfl⟩ (.cons ru .nil), ⟨_, hT2, rfl, _, rfl⟩⟩
    have kept : ∀ b ob, b ∉ [e, it] → s.heap.get? b = some ob → h2.get? b = some ob := fun b ob hb q => by
      have b1 : b ≠ e := fun z => hb (by simp [z])
      have b2 : b ≠ it := fun z => hb (by simp [z])
      exact (sb.2 b b1).trans (hk b ob b1 b2 q)
    have I1 : Inv X pins σ (upd H s.heap.objs.size (.tup [.int (i : Nat), x])) { s with heap := h2, toks := tk + 1 } := I.turnedNew (ch := [e, it]) kept hf (Nat.le_refl _) new
    have yl : (Iet X.K a).yld i H (.ref s.heap.objs.size) (upd H s.heap.objs.size (.tup [.int (i : Nat), x])) :=
      ⟨_, x, rfl, I.hok.fresh (Nat.le_refl _), rfl, fun ys hy => by rw [I.tuple_inj hy hq]; exact hx⟩
    refine ⟨.ref s.heap.objs.size, _, I1, rfl, yl, ⟨⟨v, ?_⟩, hs.1.at fun o q => (sb.2 it (Ne.symm n1)).trans q, n1, n2, n3⟩, fun b hb => ?_⟩
    · rw [show ((i + 1 : Nat) : Int) = (i : Int) + 1 by omega]
      exact he2
    · have hb' : b < s.heap.objs.size := by rcases two_of hb with rfl | rfl <;> assumption
      rw [upd_ne (Nat.ne_of_lt hb')]
      exact (hf b hb).1
  case done =>
    intro X hP hw hK hc i pins s σ H E I hf st hg
    subst hP hw hK
    obtain ⟨⟨old, he⟩, hit, n1, n2, n3⟩ := st
    obtain ⟨xs, hq, hx⟩ := hg
    obtain ⟨its, rv, p, hz⟩ := I.tuple hq
    obtain ⟨f0, f1, f2, f3, f4, f5⟩ := hf it (by simp)
    have hl : i = its.toArray.size := by
      have := rv.length
      rw [List.size_toArray]
      omega
    have D := Draws.tuple (prog := X.prog) (w := X.w) (A := X.A.in1) (I.ok.hd hc) it a n2 its.toArray
    refine wpAny_pyNext_enum_endD D he (by rw [← hl]; exact ⟨hit, p⟩) fun h' eb => ⟨rfl, ?_⟩
    exact I.turned (t' := s.toks) (fun b o hb q => eb b o hb q) f0 f1 f3 f4 f5
  case self =>
    rintro A i s Q E ⟨⟨_, he⟩, _⟩ h
    exact wpAny_pyIter_enum he h
def iEnumT (K : PySem.W.Frag) (ta : TA) : TI := fun σ H R => ta σ H fun vs H1 => ∃ a xs, vs = [.ref a] ∧ SqT K H1 a xs ∧ R (Iet K a) H1
theorem pi_enumT {X : Cx} {e : Expr} {ta : TA} {p pos tpos : Pos} {elts : List Expr} {kk : Nat} (hg : Gl X "enumerate") (hm : X.mg "enumerate" = none) (ha : PA X [e] ta) (hs : starEach [e] X.env = [(false, eval e X.env)] := by rfl) :
    PI X (.Tuple elts kk tpos) (.Call (.Name "enumerate" p) [e] [] pos) (iEnumT X.K ta) := by
  constructor
  intro pins s σ H R I h
  refine Call_ (ld_blt I hg hm boot_enumerate ?_)
  refine PyProof.Rows.callWith_type1 (thn (ha.run pos pins s σ H _ I h) fun us s1 ⟨vs, H1, I1, r1, a, xs, ex, hq, q⟩ => ?_) hs rfl
  subst ex
  obtain ⟨u, rfl, ru⟩ : ∃ u, us = [u] ∧ RelV (.ref a) u := by
    cases r1 with
    | cons r rr => cases rr; exact ⟨_, rfl, r⟩
  obtain rfl : u = Value.ref a := ru
  obtain ⟨its, rv, p', hz⟩ := I1.tuple hq
  have la : a < s1.heap.objs.size := IsTup.lt p'
  refine TFZ.call_enum1 (begins_tuple a its.toArray) p' fun h' he hit hk => wpAny_pyIter_enum he ?_
  refine ⟨s1.heap.objs.size + 1, [s1.heap.objs.size + 1, s1.heap.objs.size], EnT a (s1.heap.objs.size + 1) s1.heap.objs.size, Iet X.K a, H1, rfl, I1.kept (t' := s1.toks) hk, turn_enumT a _ _, ?_, ?_, q⟩
  · exact ⟨⟨_, he⟩, ⟨_, hit, rfl, rfl⟩, Nat.succ_ne_self _, Nat.ne_of_lt la, Nat.ne_of_lt (Nat.lt_succ_of_lt la)⟩
  · intro b hb
    have hle : s1.heap.objs.size ≤ b := by
      rcases two_of hb with rfl | rfl
      · exact Nat.le_succ _
      · exact Nat.le_refl _
    exact I1.fpOk hle (I1.hok.fresh hle)
theorem walk_enumT {K : PySem.W.Frag} {a : Addr} {xs : List V} : Walk (Iet K a) xs.length (fun H => SqT K H a xs) (YPair (fun i => some (.int (i : Nat))) (fun i => xs[i]?)) := by
  refine ⟨fun i _ hi q => ⟨xs, xs[i], q, by simp [hi]⟩, fun _ q => ⟨xs, q, rfl⟩, ?_⟩
  rintro i H v H' _ q ⟨T, x, h1, h2, h3, h4⟩
  exact ⟨T, .int (i : Nat), x, h1, h2, h3, rfl, h4 xs q⟩
end TF

namespace L2
open PySem PySem.Spec PyProof.Rows
/-! ### def f( *members), called by position -/
def StarB (fd : FuncData) (pv : Str) : Prop := ∀ rest : List Value, bindArgs fd ⟨rest, []⟩ = (newTuple rest >>= fun t => pure [(pv, t)])
/-- what it promises: of the tuple of the arguments -/
def starSp (sp : Sp) : Sp := fun vs H Q E => vs.length ≤ sizeLine ∧ ∀ p, H p = none → sp [.ref p] (upd H p (.tup vs)) Q E
theorem Fun.starB {K : PySem.W.Frag} {x qual : Str} {st : Stmt} {f : Addr} {fd : FuncData} {pv : Str} (F : Fun K x qual st f fd)
    (h0 : ∀ (kV doc pm : Value) (an : Option Addr) (cdv ct : Value), bindArgs (PySem.W.fnOf x qual (defArgs st) (defBody st) (defScope st) .none kV doc pm an cdv ct) ⟨[], []⟩ = (newTuple [] >>= fun t => pure [(pv, t)]))
    (h1 : ∀ (kV doc pm : Value) (an : Option Addr) (cdv ct r : Value) (rs : List Value), bindArgs (PySem.W.fnOf x qual (defArgs st) (defBody st) (defScope st) .none kV doc pm an cdv ct) ⟨r :: rs, []⟩ = (newTuple (r :: rs) >>= fun t => pure [(pv, t)])) : StarB fd pv := by
  obtain ⟨oc, od, kV, doc, pm, an, cdv, ct, osl, rfl, lk, hcd⟩ := F.ex
  intro rest
  cases rest with
  | nil => exact h0 kV doc pm an cdv ct
  | cons r rs => exact h1 kV doc pm an cdv ct r rs
theorem Fun.sok {P : Program} {w : World} {K : PySem.W.Frag} {mg : Str → Option Value} {base : Heap} {x qual : Str} {st : Stmt} {f : Addr} {fd : FuncData} {N : List Str} {pv : Str} {k : Nat} {sp : Sp} (F : Fun K x qual st f fd) (S : FnScope N [pv] (defScope st)) (b : StarB fd pv)
    (hbody : ∀ (cdv : Value) (A : Around) (outer : List Env) (s : Shared) (H : Hp) (vs : List V) (Q : VK) (E : XK), Room k (A.deeper (envOfC qual (defScope st) s.heap.objs.size f cdv)) → sp vs H Q E →
      ∃ t, PSs (cxOf CX0 P w K mg base N qual (defScope st) f cdv A outer s H E).nox (defBody st) t ∧ t { nx := fun _ H' => Q .non H', rt := Q } (start N vs) H) : FnR P w K mg base CX0 (k + 1) f (starSp sp) := by
  obtain ⟨oc, od, kV, doc, pm, an, cdv, ct, osl, rfl, lk, hcd⟩ := F.ex
  have hb : ∀ us rest : List Value, us.length = ([] : List Str).length → bindArgs (PySem.W.fnOf x qual (defArgs st) (defBody st) (defScope st) .none kV doc pm an cdv ct) ⟨us ++ rest, []⟩ = (newTuple rest >>= fun t => pure (([] : List Str).zip us ++ [(pv, t)])) := by
    intro us rest hl
    have : us = [] := List.length_eq_zero_iff.mp hl
    subst this
    exact b rest
  refine (StX.fn_star (ps := []) (pv := pv) (sp := sp) lk hcd S StX.cxUp_none hb fun A outer s H vs Q E hr hsp => ?_).imp fun vs H Q E h => ⟨[], vs, rfl, rfl, h.1, h.2⟩
  obtain ⟨t, h, q⟩ := hbody cdv A outer s H vs Q E hr hsp
  exact ⟨t, h.nox, q⟩
section
variable {X : Cx} {k : Nat} {f : Addr} {sp : Sp} {E : XK} {x : Str} {e : Expr} {es : List Expr} {t : TA} {p pos : Pos}
/-- f(e, ..) by a positional promise -/
theorem pe_callR (F : FnR X.prog X.w X.K X.mg X.base CX0 k f sp) (hr : Room k X.A) (hk : PySem.W.keepIn X.K (.ref f) = true) (hg : Gl X x) (hm : X.mg x = some (.ref f)) (hx : Passes CX0 X E) (ha : PA X (e :: es) t)
    (hd : (x == ("__debug__" : Str)) = false := by decide) (he : starEach (e :: es) X.env = (false, eval e X.env) :: starEach es X.env := by rfl) (hpl : (backTo pos (starEach es X.env)).any (·.1) = false := by rfl) :
    PE X (.Call (.Name x p) (e :: es) [] pos) (fun σ H Q => t σ H fun vs H1 => sp vs H1 Q E) := by
  constructor
  intro pins s σ H Q I h
  refine wpAny_Call_Name_kw (ld_glob I hg hm ?_ hd)
  refine PySem.W.callWith_K (h₀ := X.base) I.ok.mod.kin hk ?_ he hpl
  exact thn (ha.run pos pins s σ H _ I h) fun us s1 ⟨vs, H1, I1, r, q⟩ => ⟨I1.kIn, wpAny_call (run_fnR F hr hx I1 r q)⟩
end
end L2

namespace TF
open PySem PySem.Spec PyProof.Rows L2
/-- yes, at once -/
theorem yesC {σ : L2.St} {H : Hp} {E F : Hp → Prop} {inst : ∀ b : Bool, Decidable (b = true)} (h : E H) : tYes σ H (fun (b : Bool) H' => @ite Prop (b = true) (inst b) (E H') (F H')) := by
  show @ite Prop (true = true) (inst true) (E H) (F H)
  rw [if_pos rfl]
  exact h
/-- [e for x in a list of numbers], the value a function of the number -/
theorem lc_map {K : PySem.W.Frag} {p D : Addr} {l : List Nat} {f : Nat → V} {k : Nat} {te : TE} {vs : List Nat} {σ : L2.St} {H1 : Hp} {Qd : Hp → Prop}
    (hp : H1 p = some (.lst (l.map vn))) (hD : H1 D = none) (hl : l.length ≤ 4000) (hw : ∀ x, wipe ((wipe σ vs).set k (some x)) vs = wipe σ vs)
    (hs : ∀ d ∈ l, ∀ (H' : Hp) (E : V → Hp → Prop), Same H1 H' → E (f d) H' → te ((wipe σ vs).set k (some (vn d))) H' E) (hd : ∀ H', Same H1 H' → H' D = some (.lst (l.map f)) → Qd H') :
    ∃ W : Nat → Nat → Hp → Prop, (∃ m, W 0 m (upd H1 D (.lst []))) ∧ ∀ i m H, W i m H →
      ((Itl K p).stop i H ∧ Qd H) ∨ ((Itl K p).go i H ∧ ∃ Nx : Hp → Prop, (∀ H', Nx H' → ∃ m', m' < m ∧ W (i + 1) m' H') ∧ ∀ x H', (Itl K p).yld i H x H' → gName k x (wipe σ vs) H' fun σ2 H2 => wipe σ2 vs = wipe σ vs ∧ tYes σ2 H2 fun b H3 =>
        if b = true then te σ2 H3 fun y H4 => ∃ acc, H4 D = some (.lst acc) ∧ acc.length < sizeLine ∧ Nx (upd H4 D (.lst (acc ++ [y]))) else Nx H3) := by
  refine lc_it (walk_list (xs := l.map vn)) (fun i H' => H' D = some (.lst ((l.take i).map f)) ∧ Same H1 H') ⟨upd_same, same_new hD⟩ (fun i H' _ h => SqL.of (h.2 _ _ hp)) ?_ ?_
  · rintro i x H2 H3 hi ⟨e1, s1⟩ ⟨rfl, hx⟩
    rw [List.length_map] at hi
    have g := List.getElem?_eq_getElem hi
    have ex : x = vn l[i] := by
      rw [List.getElem?_map, g] at hx
      exact (Option.some.inj hx).symm
    subst ex
    refine ⟨hw _, yesC (hs _ (List.getElem_mem hi) _ _ s1 ⟨_, e1, ?_, ?_, Same.mut s1 hD⟩)⟩
    · rw [List.length_map, List.length_take]
      exact small_lt (b := 4000) (by omega)
    · rw [upd_same, List.take_succ, g, List.map_append]
      rfl
  · rintro H2 ⟨e1, s1⟩
    rw [List.length_map, List.take_length] at e1
    exact hd _ s1 e1
end TF

namespace L2
open PySem PySem.Spec PyProof.Rows
/-! ### for i in range(a, b), a and b of any size -/
theorem turn_long {P : Program} {w : World} {K : PySem.W.Frag} {tg : Expr} (it : Addr) (lo : Int) (n : Nat) : Turn P w K tg (Itr lo n) [it] it (fun i h => IsLongIter h it (lo + (i : Nat) * 1) ((n : Int) - (i : Nat)) 1) := by
  constructor
  case mem => simp
  case obj =>
    intro i h st b hb
    obtain rfl : b = it := by simpa using hb
    refine ⟨_, st, fun v z => ?_⟩
    have z2 : Data.fields _ = Data.cell v := z
    cases z2
  case keep => exact fun i h h' st k => k it (by simp) _ st
  case item =>
    intro X hP hw hK hc i pins s σ H E I hf st hg
    subst hP hw hK
    obtain ⟨f0, f1, f2, f3, f4, f5⟩ := hf it (by simp)
    have W := Walks.longrange (prog := X.prog) (w := X.w) (I.ok.hd hc) it lo 1 n
    refine W.item i s _ _ hg st fun v h' tk hv st' kk => ?_
    obtain ⟨t, rfl⟩ := hv
    have J : Inv X pins σ H { s with heap := h', toks := tk } := I.turned (fun b o hb e => kk b o (by simpa using hb) e) f0 f1 f3 f4 f5
    refine ⟨_, rfl, go_of (s := { s with heap := h', toks := tk }) (n := "longrange_iterator") st' rfl rfl (by decide) ⟨.int (lo + i), H, J, ⟨t, ?_⟩, ⟨rfl, rfl⟩, st', fun b hb => (hf b hb).1⟩⟩
    rw [Int.mul_one]
  case done =>
    intro X hP hw hK hc i pins s σ H E I hf st hg
    subst hP hw hK
    obtain ⟨f0, f1, f2, f3, f4, f5⟩ := hf it (by simp)
    have hn : n ≤ i := hg
    exact wpAny_pyNext_long_end (I.ok.hd hc) st (by omega) fun h' eb => ⟨rfl, I.turned (t' := s.toks) (fun b o hb e => eb b o hb e) f0 f1 f3 f4 f5⟩
  case self => exact fun _ _ _ _ _ st h => wpAny_pyIter_longiter st h
section
variable {X : Cx} {tg : Expr}
theorem range_any {pins : List (Addr × Obj)} {σ : St} {H : Hp} {s : Shared} {R : It → Hp → Prop} {E : Value → Shared → Prop} {lo hi : Int} {t u v : Tok} {tk : Nat} (I : Inv X pins σ H s) (q : R (Itr lo (hi - lo).toNat) H) :
    wpAny (model X.prog X.w) X.A (pyIter (.ref s.heap.objs.size)) (PIE X pins σ tg R) E { s with heap := s.heap.push { cls := .type "range", data := .fields #[.int lo t, .int hi u, .int 1 v] }, toks := tk } := by
  have J : Inv X pins σ H { s with heap := s.heap.push { cls := .type "range", data := .fields #[.int lo t, .int hi u, .int 1 v] }, toks := tk } := I.kept fun b o e => Heap.get?_push_of_some _ e
  have size : (((hi - lo).toNat : Nat) : Int) - ((0 : Nat) : Int) = Builtin.Range.rangeSize lo hi 1 := by
    rw [rangeSize_one]
    split <;> omega
  have start : lo + ((0 : Nat) : Int) * 1 = lo := by omega
  by_cases hs : Builtin.Range.small lo hi 1 = true
  · refine wpAny_pyIter_range (IsRange.new ..) hs ?_
    refine ⟨_, [_], _, _, H, rfl, J.kept (t' := tk) fun b o e => Heap.get?_push_of_some _ e, turn_range _ lo (hi - lo).toNat, ?_, fun b hb => ?_, q⟩
    · show IsRangeIter _ _ (lo + ((0 : Nat) : Int) * 1) ((((hi - lo).toNat : Nat) : Int) - ((0 : Nat) : Int)) 1
      rw [start, size]
      exact Heap.get?_push_size _ rfl
    · obtain rfl := List.mem_singleton.mp hb
      exact J.fpOk (Nat.le_refl _) (J.hok.fresh (Nat.le_refl _))
  · have hs' : Builtin.Range.small lo hi 1 = false := by simpa using hs
    refine wpAny_pyIter_longrange (IsRange.new ..) hs' ?_
    refine ⟨_, [_], _, _, H, rfl, J.kept (t' := tk) fun b o e => Heap.get?_push_of_some _ e, turn_long _ lo (hi - lo).toNat, ?_, fun b hb => ?_, q⟩
    · show IsLongIter _ _ (lo + ((0 : Nat) : Int) * 1) ((((hi - lo).toNat : Nat) : Int) - ((0 : Nat) : Int)) 1
      rw [start, size]
      exact Heap.get?_push_size _ rfl
    · obtain rfl := List.mem_singleton.mp hb
      exact J.fpOk (Nat.le_refl _) (J.hok.fresh (Nat.le_refl _))
def iRng2W (ta : TA) : TI := fun σ H R => ta σ H fun vs H1 => ∃ i j : Int, vs = [.int i, .int j] ∧ R (Itr i (j - i).toNat) H1
theorem pi_range2W {a b : Expr} {ta : TA} {p pos : Pos} (hg : Gl X "range") (hm : X.mg "range" = none) (ha : PA X [a, b] ta) (hs : starEach [a, b] X.env = [(false, eval a X.env), (false, eval b X.env)] := by rfl) (hs2 : starEach [b] X.env = [(false, eval b X.env)] := by rfl) :
    PI X tg (.Call (.Name "range" p) [a, b] [] pos) (iRng2W ta) := by
  constructor
  intro pins s σ H R I h
  refine Call_ (ld_blt I hg hm boot_range ?_)
  refine PyProof.Rows.callWith_type1 (thn (ha.run pos pins s σ H _ I h) fun us s1 ⟨vs, H1, I1, r1, i, j, e, q⟩ => ?_) (by rw [hs, hs2]) (by rw [hs2]; rfl)
  subst e
  obtain ⟨t, t', rfl⟩ : ∃ t t', us = [.int i t, .int j t'] := by
    cases r1 with
    | cons r rr =>
      cases rr with
      | cons r' rr =>
        cases rr
        obtain ⟨t, rfl⟩ := r
        obtain ⟨t', rfl⟩ := r'
        exact ⟨t, t', rfl⟩
  exact call_range_2 (range_any I1 q)
end
end L2

/-! texts of digits: core Lean alone -/
namespace TM
theorem rd_append {r : Nat} : ∀ a b : List Nat, rd r (a ++ b) = rd r a + r ^ a.length * rd r b
  | [], b => by simp [rd]
  | d :: a, b => by
    show d + r * rd r (a ++ b) = d + r * rd r a + r ^ (a.length + 1) * rd r b
    rw [rd_append a b, Nat.mul_add, Nat.pow_succ, Nat.mul_comm (r ^ a.length) r, Nat.mul_assoc, Nat.add_assoc]
/-- the k last digits, the least one first -/
def pad : Nat → Nat → List Nat
  | 0, _ => []
  | k + 1, n => n % 3 :: pad k (n / 3)
theorem pad_len : ∀ k n, (pad k n).length = k
  | 0, _ => rfl
  | k + 1, n => by show (pad k (n / 3)).length + 1 = k + 1; rw [pad_len k]
theorem pad_lt : ∀ k n, ∀ d ∈ pad k n, d < 3
  | 0, _, d, h => by cases h
  | k + 1, n, d, h => by
    rcases List.mem_cons.mp h with e | e
    · omega
    · exact pad_lt k _ d e
theorem rd_pad : ∀ k n, rd 3 (pad k n) = n % 3 ^ k
  | 0, n => by rw [Nat.pow_zero, Nat.mod_one]; rfl
  | k + 1, n => by
    show n % 3 + 3 * rd 3 (pad k (n / 3)) = _
    rw [rd_pad k, Nat.pow_succ, Nat.mul_comm (3 ^ k) 3, Nat.mod_mul]
theorem digs_lt {r : Nat} (hr : 2 ≤ r) : ∀ f n, n ≤ f → ∀ d ∈ digs r n, d < r
  | f, n, hf, d, h => by
    by_cases h0 : n = 0
    · subst h0
      cases h
    · rw [digs_pos hr (by omega)] at h
      rcases List.mem_cons.mp h with e | e
      · rw [e]; exact Nat.mod_lt _ (by omega)
      · have lt : n / r < n := Nat.div_lt_self (by omega) (by omega)
        match f with
        | 0 => omega
        | f + 1 => exact digs_lt hr f (n / r) (by omega) d e
theorem digs_lt3 (n : Nat) : ∀ d ∈ digs 3 n, d < 3 := digs_lt (by omega) n n (Nat.le_refl _)
/-- digits as they may be, with zeros in front -/
theorem digs_rd {r : Nat} (hr : 2 ≤ r) : ∀ ds : List Nat, (∀ d ∈ ds, d < r) → ∃ k, ds = digs r (rd r ds) ++ List.replicate k 0
  | [], _ => ⟨0, rfl⟩
  | d :: ds, h => by
    have hd := h d List.mem_cons_self
    obtain ⟨k, e⟩ := digs_rd hr ds fun x hx => h x (List.mem_cons_of_mem _ hx)
    show ∃ k, d :: ds = digs r (d + r * rd r ds) ++ _
    by_cases h0 : 0 < d + r * rd r ds
    · rw [digs_cons hr hd h0]
      exact ⟨k, congrArg (d :: ·) e⟩
    · have hz : rd r ds = 0 := by
        rcases Nat.eq_zero_or_pos (rd r ds) with z | z
        · exact z
        · have : 0 < r * rd r ds := Nat.mul_pos (by omega) z
          omega
      rw [hz] at e
      have e0 : d = 0 := by omega
      refine ⟨k + 1, ?_⟩
      rw [hz, e0, Nat.mul_zero, Nat.add_zero, digs_zero, List.nil_append, List.replicate_succ]
      rw [digs_zero, List.nil_append] at e
      exact congrArg (0 :: ·) e
/-- the signs of digits, the greatest one first -/
def cs (ds : List Nat) : List Nat := ds.reverse.map (· + 48)
theorem cs_nil : cs [] = [] := rfl
theorem cs_append (a b : List Nat) : cs (a ++ b) = cs b ++ cs a := by unfold cs; rw [List.reverse_append, List.map_append]
theorem cs_len (a : List Nat) : (cs a).length = a.length := by unfold cs; rw [List.length_map, List.length_reverse]
theorem cs_cons (d : Nat) (a : List Nat) : cs (d :: a) = cs a ++ [d + 48] := by unfold cs; rw [List.reverse_cons, List.map_append]; rfl
theorem cs_mem {ds : List Nat} {c : Nat} : c + 48 ∈ cs ds ↔ c ∈ ds := by
  unfold cs
  rw [List.mem_map]
  constructor
  · rintro ⟨x, hx, e⟩
    have : x = c := by omega
    rw [← this]; exact List.mem_reverse.mp hx
  · intro h
    exact ⟨c, List.mem_reverse.mpr h, rfl⟩
theorem cs_two (n : Nat) : 50 ∈ cs (digs 3 n) ↔ ¬ plain n := by
  show 2 + 48 ∈ cs (digs 3 n) ↔ _
  rw [cs_mem]
  unfold plain
  exact Iff.symm Decidable.not_not
theorem cs_range {r : Nat} {ds : List Nat} (h : ∀ d ∈ ds, d < r) : ∀ c ∈ cs ds, 48 ≤ c ∧ c < 48 + r := by
  intro c hc
  unfold cs at hc
  obtain ⟨x, hx, e⟩ := List.mem_map.mp hc
  have := h x (List.mem_reverse.mp hx)
  omega
theorem cs_zeros : ∀ (k : Nat) (ds : List Nat), (cs (ds ++ List.replicate k 0)).dropWhile (· == 48) = (cs ds).dropWhile (· == 48) := by
  intro k ds
  rw [cs_append]
  have : cs (List.replicate k 0) = List.replicate k 48 := by
    unfold cs
    rw [List.reverse_replicate, List.map_replicate]
  rw [this]
  induction k with
  | zero => rfl
  | succ k ih =>
    rw [List.replicate_succ, List.cons_append, List.dropWhile_cons_of_pos rfl]
    exact ih (by unfold cs; rw [List.reverse_replicate, List.map_replicate])
theorem digs_last {r : Nat} (hr : 2 ≤ r) : ∀ f n, n ≤ f → 0 < n → ∃ a d, digs r n = a ++ [d] ∧ 0 < d
  | f, n, hf, h => by
    rw [digs_pos hr h]
    by_cases h0 : n / r = 0
    · rw [h0, digs_zero]
      refine ⟨[], n % r, rfl, ?_⟩
      have : n < r := by
        rcases Nat.lt_or_ge n r with z | z
        · exact z
        · have : 0 < n / r := Nat.div_pos z (by omega)
          omega
      rw [Nat.mod_eq_of_lt this]
      exact h
    · have lt : n / r < n := Nat.div_lt_self h (by omega)
      match f with
      | 0 => omega
      | f + 1 =>
        obtain ⟨a, d, e, hd⟩ := digs_last hr f (n / r) (by omega) (Nat.pos_of_ne_zero h0)
        exact ⟨n % r :: a, d, by rw [e]; rfl, hd⟩
theorem cs_strip {ds : List Nat} (h : ∀ d ∈ ds, d < 3) : (cs ds).dropWhile (· == 48) = cs (digs 3 (rd 3 ds)) := by
  obtain ⟨k, e⟩ := digs_rd (r := 3) (by omega) ds h
  generalize rd 3 ds = n at e
  rw [e, cs_zeros]
  rcases Nat.eq_zero_or_pos n with z | z
  · rw [z]; rfl
  · obtain ⟨a, d, e2, hd⟩ := digs_last (r := 3) (by omega) n n (Nat.le_refl _) z
    rw [e2, cs_append]
    have : cs [d] = [d + 48] := rfl
    rw [this, List.singleton_append, List.dropWhile_cons_of_neg]
    intro hh
    have : d + 48 = 48 := by simpa using hh
    omega
/-- what signs are worth in base b -/
def bnum (b : Nat) (l : List Nat) : Nat := l.foldl (fun a c => a * b + (c - 48)) 0
theorem bnum_cs (b : Nat) : ∀ ds, bnum b (cs ds) = rd b ds
  | [] => rfl
  | d :: ds => by
    rw [cs_cons]
    unfold bnum
    rw [List.foldl_append]
    have ih := bnum_cs b ds
    unfold bnum at ih
    rw [ih]
    show rd b ds * b + (d + 48 - 48) = d + b * rd b ds
    rw [Nat.mul_comm, Nat.add_sub_cancel]
    omega
theorem bnum_zero (b : Nat) (ds : List Nat) : bnum b (48 :: cs ds) = rd b ds := by
  rw [← bnum_cs b ds]
  show (cs ds).foldl _ (0 * b + (48 - 48)) = (cs ds).foldl _ 0
  rw [Nat.zero_mul]
/-- the binary text -/
def bt (n : Nat) : List Nat := if n = 0 then [48] else cs (digs 2 n)
theorem bt_rd (b n : Nat) : bnum b (48 :: bt n) = rd b (digs 2 n) := by
  unfold bt
  split
  · rename_i h
    subst h
    show bnum b (48 :: cs [0]) = _
    rw [bnum_zero]
    show 0 + b * 0 = 0
    omega
  · exact bnum_zero b _
theorem toDig : ∀ (f n : Nat) (acc : List Char), n < f → 0 < n → (Nat.toDigitsCore 2 f n acc).map Char.toNat = cs (digs 2 n) ++ acc.map Char.toNat
  | 0, n, acc, h, _ => by omega
  | f + 1, n, acc, h, h0 => by
    unfold Nat.toDigitsCore
    have hc : (Nat.digitChar (n % 2)).toNat = n % 2 + 48 := by
      rcases (show n % 2 = 0 ∨ n % 2 = 1 by omega) with e | e <;> rw [e] <;> rfl
    rw [digs_pos (by omega) h0, cs_cons]
    by_cases h1 : n / 2 = 0
    · simp only [h1, if_true]
      rw [List.map_cons, hc, digs_zero]
      rfl
    · simp only [h1, if_false]
      rw [toDig f (n / 2) _ (by omega) (by omega), List.map_cons, hc, List.append_assoc]
      rfl
theorem bt_eq (n : Nat) : (Nat.toDigits 2 n).map Char.toNat = bt n := by
  unfold bt
  split
  · rename_i h
    subst h
    rfl
  · unfold Nat.toDigits
    rw [toDig _ _ _ (by omega) (by omega)]
    simp
theorem bt_range (n : Nat) : ∀ c ∈ bt n, 48 ≤ c ∧ c < 50 := by
  unfold bt
  split
  · intro c hc
    rw [List.mem_singleton.mp hc]
    omega
  · exact cs_range (r := 2) (bits_lt n)
theorem bt_len {n k : Nat} (h : n < 2 ^ k) (hk : 0 < k) : (bt n).length ≤ k := by
  unfold bt
  split
  · exact hk
  · rw [cs_len]; exact digs_len (by omega) k n h
theorem rd_bits (n : Nat) : plain n → rd 2 (digs 3 n) = R n := by
  intro h
  obtain ⟨r, rfl⟩ := plain_B n h
  rw [B_digs, R_B, rd_digs (by omega) r r (Nat.le_refl _)]
end TM

/-! int(t, 2), int(t, 3) of texts of digits -/
namespace L2
open PySem PySem.Spec PyProof.Rows
namespace Dg
open PySem.NumText PySem.Calls L2.Hx
def IsB (b c : Nat) : Prop := 48 ≤ c ∧ c < 48 + b
section
variable {b : Nat}
theorem digit_b {c : Nat} (hb : b ≤ 3) (h : IsB b c) : digit? c = some (c - 48) := by
  unfold IsB at h
  unfold digit?
  rw [if_pos (bb h.1 (show c ≤ 57 by omega))]
theorem step_b {ds : Array Nat} {z : Bool} {c : Nat} (hb : b ≤ 3) (h : IsB b c) : PySem.NumText.step b (ds, z) c = some (ds.push (c - 48), true) := by
  have hr := h
  unfold IsB at hr
  unfold PySem.NumText.step
  rw [if_neg (by rw [beq_iff_eq]; omega), digit_b hb h]
  exact if_pos (by omega)
theorem foldl_b (hb : b ≤ 3) : ∀ (cs : List Nat) (ds : Array Nat), (∀ c ∈ cs, IsB b c) → cs.foldlM (PySem.NumText.step b) (ds, true) = some (cs.foldl (fun acc c => acc.push (c - 48)) ds, true)
  | [], _, _ => rfl
  | c :: cs, ds, h => by
    rw [List.foldlM_cons, step_b hb (h c (List.mem_cons_self ..))]
    show cs.foldlM (PySem.NumText.step b) (ds.push (c - 48), true) = _
    exact foldl_b hb cs (ds.push (c - 48)) fun d hd => h d (List.mem_cons_of_mem _ hd)
theorem digits_b (hb : b ≤ 3) {cs : List Nat} (h : ∀ c ∈ cs, IsB b c) (hne : cs ≠ []) : digits? b cs = some (cs.foldl (fun acc c => acc.push (c - 48)) #[]) := by
  cases cs with
  | nil => exact absurd rfl hne
  | cons c cs =>
    unfold digits?
    rw [List.foldlM_cons, step_b hb (h c (List.mem_cons_self ..))]
    show (cs.foldlM (PySem.NumText.step b) ((#[] : Array Nat).push (c - 48), true)).bind _ = _
    rw [foldl_b hb cs _ fun d hd => h d (List.mem_cons_of_mem _ hd)]
    rfl
theorem push_b : ∀ (cs : List Nat) (ds : Array Nat), (cs.foldl (fun acc c => acc.push (c - 48)) ds).foldl (fun acc d => acc * b + d) 0 = cs.foldl (fun a c => a * b + (c - 48)) (ds.foldl (fun acc d => acc * b + d) 0)
  | [], _ => rfl
  | c :: cs, ds => by
    rw [List.foldl_cons, push_b cs (ds.push (c - 48)), List.foldl_cons]
    congr 1
    simp
theorem dropB' (hb : b ≤ 3) {cs : List Nat} (h : ∀ c ∈ cs, IsB b c) : cs.dropWhile blank = cs := by
  cases cs with
  | nil => rfl
  | cons c cs => exact dropWhile_of (by have := h c (List.mem_cons_self ..); unfold IsB at this; omega)
theorem signB (hb : b ≤ 3) {cs : List Nat} (h : ∀ c ∈ cs, IsB b c) : sign cs = (false, cs) := by
  cases cs with
  | nil => rfl
  | cons c cs =>
    have := h c (List.mem_cons_self ..)
    unfold IsB at this
    exact sign_of (by omega) (by omega)
theorem basedB (hb : b ≤ 3) (h0 : 0 < b) {cs : List Nat} (h : ∀ c ∈ cs, IsB b c) : based b (48 :: cs) = (b, false, 48 :: cs) := by
  have hz : ¬ (b == 0) = true := by rw [beq_iff_eq]; omega
  cases cs with
  | nil =>
    show (if (b == 0) = true then _ else _) = _
    rw [if_neg hz]
  | cons c r =>
    have hc := h c List.mem_cons_self
    unfold IsB at hc
    have hx : (if (c == 120 || c == 88) = true then some 16 else if (c == 111 || c == 79) = true then some 8 else if (c == 98 || c == 66) = true then some 2 else (none : Option Nat)) = none := by
      rw [if_neg (by rw [Bool.or_eq_true, beq_iff_eq, beq_iff_eq]; omega), if_neg (by rw [Bool.or_eq_true, beq_iff_eq, beq_iff_eq]; omega), if_neg (by rw [Bool.or_eq_true, beq_iff_eq, beq_iff_eq]; omega)]
    show (match (if (c == 120 || c == 88) = true then some 16 else if (c == 111 || c == 79) = true then some 8 else if (c == 98 || c == 66) = true then some 2 else (none : Option Nat)) with
      | some p => if (b == 0 || b == p) = true then (p, false, _) else (b, false, 48 :: c :: r)
      | none => if (b == 0) = true then _ else (b, false, 48 :: c :: r)) = _
    rw [hx]
    show (if (b == 0) = true then _ else (b, false, 48 :: c :: r)) = _
    rw [if_neg hz]
theorem read_b (hb : b ≤ 3) (h0 : 2 ≤ b) {cs : List Nat} (h : ∀ c ∈ cs, IsB b c) (hne : cs.head? = some 48) : (int_private% "readNumeral") 0 b cs = (int_private% "Numeral.value") ((TM.bnum b cs : Nat) : Int) := by
  have hr : ∀ c ∈ cs.reverse, IsB b c := fun c hc => h c (List.mem_reverse.mp hc)
  have hbase : based b cs = (b, false, cs) := by
    cases cs with
    | nil => cases hne
    | cons a r =>
      obtain rfl : a = 48 := Option.some.inj hne
      exact basedB hb (by omega) fun c hc => h c (List.mem_cons_of_mem _ hc)
  have hne2 : cs ≠ [] := fun z => by rw [z] at hne; cases hne
  refine (readNumeral_eq 0 b cs).trans ?_
  rw [dropB' hb h, signB hb h]
  show judge 0 false (based b cs).1 (based b cs).2.1 (digits? (based b cs).1 (((based b cs).2.2.reverse.dropWhile blank).reverse)) = _
  rw [hbase]
  show judge 0 false b false (digits? b ((cs.reverse.dropWhile blank).reverse)) = _
  rw [dropB' hb hr, List.reverse_reverse, digits_b hb h hne2]
  have z : (#[] : Array Nat).foldl (fun acc d => acc * b + d) 0 = 0 := by first | rfl | simp
  have e := push_b (b := b) cs #[]
  rw [z] at e
  unfold TM.bnum
  rw [← e]
  rcases (show b = 2 ∨ b = 3 by omega) with rfl | rfl
  · rfl
  · rfl
theorem seen_b (hb : b ≤ 3) {x : Str} (h : ∀ c ∈ x.cps.toList, IsB b c) : numTextOf x = x.cps.toList ∧ numSeenOf x = x.cps.toList := by
  have e1 : numTextOf x = x.cps.toList := by
    refine if_pos ?_
    rw [← Array.all_toList, List.all_eq_true]
    intro c hc
    have := h c hc
    unfold IsB at this
    exact decide_eq_true (by omega)
  refine ⟨e1, ?_⟩
  show (numTextOf x).takeWhile _ = _
  rw [e1]
  refine takeWhile_all fun c hc => ?_
  have := h c hc
  unfold IsB at this
  exact bne_iff_ne.mpr (by omega)
end
set_option maxHeartbeats 8000000 in
theorem gives_3 {x : PySem.Str} {u t : Tok} (hl : x.length ≤ 640) (h : ∀ c ∈ x.cps.toList, IsB 3 c) (hne : x.cps.toList.head? = some 48) :
    Gives (Builtin.«int.__new__» ⟨[.type "int", .str x u, .int 3 t], []⟩) (.int ((TM.bnum 3 x.cps.toList : Nat) : Int)) :=
  .of_wp fun M A E s Q hQ => by
    obtain ⟨hp, g, d, tk, os⟩ := s
    have f1 := F.conv_sub_int
    have f2 := F.madeHere_int
    have f6 : typeOf (.str x u) = pure (.type "str") := rfl
    obtain ⟨e1, e2⟩ := seen_b (by omega) h
    have hs : (numSeenOf x).length ≤ 640 := by
      rw [e2, Array.length_toList]
      exact hl
    have hr : (int_private% "readNumeral") 0 3 (numSeenOf x) = (int_private% "Numeral.value") ((TM.bnum 3 x.cps.toList : Nat) : Int) := by
      rw [e2]
      exact read_b (by omega) (by omega) h hne
    have ha : ((numSeenOf x).length == (numTextOf x).length) = true := by
      rw [e1, e2]
      exact beq_self_eq_true _
    have hk := Hid.mk (And.intro hs (And.intro hr ha))
    clear hs hr ha e1 e2 hl hne h
    repeat (any_goals (first
      | assumption
      | ((with_reducible show wpAny _ _ ((int_private% "intFromText") _ _ _) _ _ _); refine wp_textB hk.out.1 hk.out.2.1 hk.out.2.2 ?_)
      | wp_step))
    all_goals first | exact ⟨_, rfl, hQ⟩ | skip
set_option maxHeartbeats 8000000 in
theorem gives_2 {x : PySem.Str} {u t : Tok} (hl : x.length ≤ 640) (h : ∀ c ∈ x.cps.toList, IsB 2 c) (hne : x.cps.toList.head? = some 48) :
    Gives (Builtin.«int.__new__» ⟨[.type "int", .str x u, .int 2 t], []⟩) (.int ((TM.bnum 2 x.cps.toList : Nat) : Int)) :=
  .of_wp fun M A E s Q hQ => by
    obtain ⟨hp, g, d, tk, os⟩ := s
    have f1 := F.conv_sub_int
    have f2 := F.madeHere_int
    have f6 : typeOf (.str x u) = pure (.type "str") := rfl
    obtain ⟨e1, e2⟩ := seen_b (by omega) h
    have hs : (numSeenOf x).length ≤ 640 := by
      rw [e2, Array.length_toList]
      exact hl
    have hr : (int_private% "readNumeral") 0 2 (numSeenOf x) = (int_private% "Numeral.value") ((TM.bnum 2 x.cps.toList : Nat) : Int) := by
      rw [e2]
      exact read_b (by omega) (by omega) h hne
    have ha : ((numSeenOf x).length == (numTextOf x).length) = true := by
      rw [e1, e2]
      exact beq_self_eq_true _
    have hk := Hid.mk (And.intro hs (And.intro hr ha))
    clear hs hr ha e1 e2 hl hne h
    repeat (any_goals (first
      | assumption
      | ((with_reducible show wpAny _ _ ((int_private% "intFromText") _ _ _) _ _ _); refine wp_textB hk.out.1 hk.out.2.1 hk.out.2.2 ?_)
      | wp_step))
    all_goals first | exact ⟨_, rfl, hQ⟩ | skip
end Dg
/-- int(t, b), b 2 or 3, t a text of digits below b -/
def rIntB : List V → Hp → VK → Prop := fun xs H Q => ∃ (l : List Nat) (b : Nat), xs = [.str (SX.S l), .int b] ∧ (b = 2 ∨ b = 3) ∧ l.head? = some 48 ∧ l.length ≤ 640 ∧ (∀ c ∈ l, Dg.IsB b c) ∧ Q (.int ((TM.bnum b l : Nat) : Int)) H
theorem call_int_b {X : Cx} : CallR X (.type "int") rIntB := by
  intro pins s σ H xs us Q I r h
  obtain ⟨l, b, rfl, hb, hne, hl, hx, q⟩ := h
  obtain ⟨u, w', rfl, r1, r2⟩ := vals2 r
  obtain ⟨t1, rfl⟩ := r1
  obtain ⟨t2, rfl⟩ := r2
  have fin : EP X pins σ Q (.int ((TM.bnum b l : Nat) : Int) s.toks) { s with toks := s.toks + 1 } := ⟨.int ((TM.bnum b l : Nat) : Int), H, I.tok _, ⟨_, rfl⟩, q⟩
  rcases hb with rfl | rfl
  · exact callType_new F.called_int F.newNe_int (Hx.typeCall_int_2 _ _) (Hx.newCall_int_2 _ _) (fun obj => F.initArgs_range_2 obj _ _) F.entry_int_new (Dg.gives_2 (x := SX.S l) (by rw [SX.S_len]; exact hl) hx hne).meets (show (Made.int ((TM.bnum 2 l : Nat) : Int)).post _ s from ⟨rfl, fin⟩)
  · exact callType_new F.called_int F.newNe_int (Hx.typeCall_int_2 _ _) (Hx.newCall_int_2 _ _) (fun obj => F.initArgs_range_2 obj _ _) F.entry_int_new (Dg.gives_3 (x := SX.S l) (by rw [SX.S_len]; exact hl) hx hne).meets (show (Made.int ((TM.bnum 3 l : Nat) : Int)).post _ s from ⟨rfl, fin⟩)
end L2

set_option maxHeartbeats 2000000
namespace L2
open PySem PySem.Spec PyProof.Rows PySem.Builtin
theorem bin_spec : ∃ f, Builtin.Float.parseFormatSpec [98] "int" 62 = .ok f ∧ f.type.getD (if (#[98].back? == some 0) = true then 0 else 100) = 98 ∧ f.precision = none ∧ f.noNeg0 = false ∧ f.alt = false ∧ f.width = none ∧ f.grouping = none ∧ f.sign = none ∧ f.fill = 32 ∧ f.align = 62 :=
  ⟨{ align := 62, type := some 98 }, rfl, rfl, rfl, rfl, rfl, rfl, rfl, rfl, rfl, rfl⟩
theorem bt_ne (n : Nat) : (TM.bt n).isEmpty = false := by
  unfold TM.bt
  split
  · rfl
  · rename_i h
    rw [TM.digs_pos (by omega) (by omega), TM.cs_cons]
    cases TM.cs (TM.digs 2 (n / 2)) <;> rfl
theorem bt_map (n : Nat) : ((Nat.toDigits 2 (n : Int).natAbs).map fun c => (if (98 : Nat) == 88 then c.toUpper else c).toNat) = TM.bt n := by
  rw [Int.natAbs_natCast, ← TM.bt_eq]
  rfl
theorem field_b {n k : Nat} {f : Builtin.Float.FormatSpec} (h4 : f.width = none) (h5 : f.grouping = none) (h6 : f.sign = none) (h7 : f.fill = 32) (h8 : f.align = 62) :
    PyProof.Rows.intField' f (decide ((n : Int) < 0)) [] (((Nat.toDigits 2 (n : Int).natAbs).map fun c => (if (98 : Nat) == 88 then c.toUpper else c).toNat)) [] k = ⟨(TM.bt n).toArray⟩ := by
  rw [bt_map, decide_eq_false (show ¬ (n : Int) < 0 by omega)]
  unfold PyProof.Rows.intField'
  simp [h4, h5, h6, h7, h8, bt_ne n]
theorem mk_eq {α : Type} {M : Model} {A : Around} {a b : Str} {k : Value → Sem α} {Q : α → Shared → Prop} {E : Value → Shared → Prop} {s : Shared} (e : a = b) (h : wpAny M A (mkStr b >>= k) Q E s) : wpAny M A (mkStr a >>= k) Q E s := e ▸ h
section
variable {prog : Program} {w : World} {A : Around} {E : Value → Shared → Prop} {s : Shared}
theorem field_bin {n : Nat} {t : Tok} {Q : Value → Shared → Prop} (hl : (TM.bt n).length ≤ sizeLine) (h : ∀ k z, Q (.str (⟨(TM.bt n).toArray⟩ : Str) z) { s with toks := k }) :
    wpAny (model prog w) A (formatField (.int (n : Int) t) (⟨#[98]⟩ : Str)) Q E s := by
  obtain ⟨f, hp, hty, h1, h2, h3, h4, h5, h6, h7, h8⟩ := bin_spec
  have hne : ((⟨#[98]⟩ : Str).length == 0) = false := rfl
  show wpAny _ _ (holding [.int (n : Int) t] (pyFormat (.int (n : Int) t) (⟨#[98]⟩ : Str))) Q E s
  refine wpAny_holding ?_; unfold pyFormat
  refine wpAny_bind (wpAny_mkStr ?_ (by show 1 ≤ sizeLine; decide))
  refine wpAny_bind (m := callSpecial? (.int (n : Int) t) (Str.ofString "__format__") [.str (⟨#[98]⟩ : Str) s.toks]) (wpAny_callSpecial?_slot (name := Str.ofString "__format__") (typeIs_int _ (n : Int) t) slot_int_format ?_)
  refine wpAny_call (codeAny_call_builtin slot_int_format.plain entry_int_format (slot_int_format.check _ _ _ _ _ _ _ _ (typeIs_int _ (n : Int) t) (args_int_format _ _) ?_)); unfold Builtin.«int.__format__»
  simp only [selfAndOne, noKeywords, Int.intOfSelf, asInt?, asStr?, List.isEmpty_nil, if_true, pure_bind, bind_pure, bind_assoc, hne, Bool.false_eq_true, if_false, show (Value.str (⟨#[98]⟩ : Str) s.toks == Value.none) = false from rfl]
  refine wpAny_bind (wpAny_typeNameOf (T := "str") (typeIs_str _ _ _) (by decide) fun _ => ?_)
  refine wpAny_ite_false (by decide) ?_
  first | refine wpAny_bind (wpAny_typeNameOfCut_int ?_) | refine wpAny_bind (wpAny_typeNameOf_int ?_)
  simp only [hp, hty]
  rw [if_pos (by decide)]
  show wpAny _ _ (if _ then _ else _) _ _ _
  rw [if_neg (by simp [h1])]
  show wpAny _ _ (if _ then _ else _) _ _ _
  rw [if_neg (by simp [h2])]
  show wpAny _ _ (if _ then _ else _) _ _ _
  rw [if_neg (by decide)]
  simp only [show ((98 : Nat) == 98) = true from rfl, if_true]
  show wpAny _ _ (if _ then _ else _) _ _ _
  rw [if_neg (by decide)]
  show wpAny _ _ (if _ then _ else _) _ _ _
  rw [if_neg (by simp [h4])]
  show wpAny _ _ (retStr _) _ _ _
  rw [h3, if_neg Bool.false_ne_true]
  unfold retStr
  refine mk_eq (b := ⟨(TM.bt n).toArray⟩) ?_ ?_
  · rw [bt_map, decide_eq_false (show ¬ (n : Int) < 0 by omega)]
    conv => lhs; whnf
    simp [h4, h5, h6, h7, h8, bt_ne n]
    generalize instDecidableEqBool (f.align == 60) true = dd
    cases dd <;> simp
  refine wpAny_bind (wpAny_mkStr (wpAny_pure ?_) (by rw [show (Str.length ⟨(TM.bt n).toArray⟩) = (TM.bt n).length from by simp [Str.length]]; exact hl))
  dsimp only
  refine wpAny_bind (wpAny_isInstance (typeIs_str _ _ _) isSubtype_str_str (wpAny_pure ?_))
  exact h _ _
end
/-- f"{e:b}", e a number -/
def tBin (te : TE) : TE := fun σ H Q => te σ H fun x H1 => ∃ n : Nat, x = .int (n : Int) ∧ (TM.bt n).length ≤ 16777216 ∧ Q (.str (SX.S (TM.bt n))) H1
section
variable {X : Cx}
theorem pe_bin {e : Expr} {te : TE} {p1 p2 p3 pos : Pos} {j : Nat} (he : PE X e te) : PE X (.JoinedStr [.FormattedValue e (-1) (some (.JoinedStr [.Constant (.str "b") j p1] p2)) p3] pos) (tBin te) := by
  refine pe_joined1 ⟨fun pins s σ H Q I h => ?_⟩
  refine wpAny_FormattedValue_spec (thn (he.run pins s σ H _ I h) fun v s1 hv => ?_)
  obtain ⟨x, H1, I1, r1, n, rfl, hl, q⟩ := hv
  obtain ⟨t, rfl⟩ := r1
  refine wpAny_JoinedStr_one ?_
  refine thn ((pe_str (X := X) (x := "b")).run pins s1 σ H1 (fun v H2 => v = .str "b" ∧ H2 = H1) I1 ⟨rfl, rfl⟩) fun v s2 hv => ?_
  obtain ⟨y, H2, I2, r2, ey, eh⟩ := hv
  subst ey
  subst eh
  obtain ⟨t2, rfl⟩ := r2
  exact ⟨_, _, rfl, field_bin hl fun k z => ⟨.str (SX.S (TM.bt n)), H2, I2.tok _, ⟨_, rfl⟩, q⟩⟩
end
end L2

namespace RT
open PySem PySem.Spec PyProof.Rows L2
section
variable {prog : Program} {w : World} {A : Around} {E : Value → Shared → Prop} {s : Shared}
/-- x.join(reversed(l)) -/
theorem join_rev {it l : Addr} {items : Array Value} {x : Str} {t : Tok} {ys : List Str} {Q : Value → Shared → Prop} (hh : A.handled = none) (hit : s.heap.IsRevIter it l ((items.size : Int) - 1)) (hl : s.heap.IsList l items) (hne : l ≠ it) (hn : items.size ≤ sizeLine)
    (hP : ∀ acc : Array Value, ItemsOf (fun i v => items[items.size - 1 - i]? = some v) acc items.size → StrsAre acc.toList ys) (hok : (ys.map (·.length)).sum + ys.length * x.length ≤ 16777216)
    (hq : ∀ (h' : Heap) (k t' : Tok), (∀ b o, b ≠ it → s.heap.get? b = some o → h'.get? b = some o) → Q (.str (Txt.join x ys) t') { s with heap := h', toks := k }) :
    wpAny (model prog w) A (call (.builtin "str.join") [.str x t, .ref it]) Q E s := by
  refine wpAny_call (codeAny_call_builtin F.slot_str_join.plain F.entry_str_join (F.slot_str_join.check _ _ _ _ _ _ _ _ (typeIs_str _ _ _) (F.args_str_join_2 _ _) ?_))
  rw [join_tree_other]
  refine wpAny_bind (wpAny_typeOf hit.typeIs ?_)
  show wpAny _ A.in1 ((pyIter (.ref it)).tryCatch _ >>= fun it' => collect it' >>= fun got => joinTail x got) _ _ s
  refine wpAny_bind (wpAny_tryCatch (wpAny_pyIter_revIter hit ?_))
  refine wpAny_bind (collect_rev (A := A.in1) hh hit hl hne hn fun h' tk acc hk hacc => ?_)
  obtain ⟨vs, hv, ht⟩ := strsAre_values (hP acc hacc)
  subst ht
  rw [hv]
  have hk2 := joinOk_of hok
  unfold JoinOk at hk2
  rw [Bool.not_eq_true'] at hk2
  have g : Gives (joinTail x (strValues vs)) (joinMade x vs) := by
    have g0 := gives_joinTail x vs hk2
    rcases vs with _ | ⟨p, _ | ⟨q, r⟩⟩ <;> exact g0
  exact g prog w A (wants Q E) _ (post_join vs ⟨joinFit_length hk2, fun t' k => hq h' k t' hk⟩)
end
/-- a.join(reversed(x)), x a list of texts -/
def tJoinRev (K : PySem.W.Frag) (to te : TE) : TE := fun σ H Q => to σ H fun v H1 => (∃ a : Str, v = .str a) ∧ te σ H1 fun u H2 => ∃ (a : Str) (q : Addr) (ys : List Str), v = .str a ∧ u = .ref q ∧ SqL K H2 q (ys.map V.str) ∧ (ys.map (·.length)).sum + ys.length * a.length ≤ 16777216 ∧ Q (.str (Txt.join a ys.reverse)) H2
theorem strs_vals : ∀ {ys : List Str} {vs : List Value}, Vals (ys.map V.str) vs → StrsAre vs ys
  | [], _, r => by cases r; exact .nil
  | y :: ys, _, r => by
    cases r with
    | cons r1 r2 =>
      obtain ⟨t, rfl⟩ := r1
      exact .cons y t (strs_vals r2)
section
variable {X : Cx}
theorem pe_joinRev {o e : Expr} {to te : TE} {apos p2 pos pos2 : Pos} (hc : X.calm = true) (ho : PE X o to) (hg2 : Gl X "reversed") (hm2 : X.mg "reversed" = none) (he : PE X e te)
    (hs : starEach [e] X.env = (false, eval e X.env) :: starEach [] X.env := by rfl)
    (hs1 : starEach [.Call (.Name "reversed" p2) [e] [] pos2] X.env = [(false, eval (.Call (.Name "reversed" p2) [e] [] pos2) X.env)] := by rfl)
    (hbase : attributeBase o "join" X.env (eval o X.env) = eval o X.env := by rfl) (hline : (apos.endLine == pos.line) = true := by rfl) :
    PE X (.Call (.Attribute o "join" apos) [.Call (.Name "reversed" p2) [e] [] pos2] [] pos) (tJoinRev X.K to te) := by
  refine ⟨fun pins s σ H Q I h => ?_⟩
  refine PySem.Call_method1 hbase hs1 hline (thn (ho.run pins s σ H _ I h) fun v s1 ⟨x, H1, I1, r1, q1⟩ => ?_)
  obtain ⟨⟨a, rfl⟩, q1⟩ := q1
  obtain ⟨t, rfl⟩ := _root_.id r1
  refine ⟨"str", _, F.plainAttrs_str, F.slot_str_join, F.type_str_join, typeIs_str _ _ _, (fun _ e => nomatch e), Calls.callWith_builtin rfl (Calls.evalArgs_plain (Calls.spliced_cons ?_))⟩
  refine Call_ (ld_blt I1 hg2 hm2 PyProof.Rows.boot_reversed (PyProof.Rows.callWith_type1 (args_cons (thn (he.run pins s1 σ H1 _ I1 q1) fun u s2 ⟨v, H2, I2, r2, q2⟩ => args_nil ?_) hs) hs rfl))
  obtain ⟨a', q, ys, ea, ev, hq, hz, q2⟩ := q2
  cases ea
  subst ev
  obtain rfl : u = Value.ref q := r2
  obtain ⟨its, rv, p', hsz⟩ := I2.list hq
  refine call_reversed_list p'.isList ?_
  have k0 : ∀ b o, s2.heap.get? b = some o → (s2.heap.push (revObj q ((its.toArray.size : Int) - 1))).get? b = some o := fun b o e => Heap.get?_push_of_some _ e
  have I3 : Inv X pins σ H2 { s2 with heap := s2.heap.push (revObj q ((its.toArray.size : Int) - 1)) } := I2.kept (t' := s2.toks) k0
  obtain ⟨f0, f1, f2, f3, f4, f5⟩ := I2.fpOk (H' := H2) (b := s2.heap.objs.size) (Nat.le_refl _) (I2.hok.fresh (Nat.le_refl _))
  have hl := p'.isList
  obtain ⟨ol, hol, _⟩ := id hl
  have hne : q ≠ s2.heap.objs.size := Nat.ne_of_lt (Heap.lt_size hol)
  have hn : its.toArray.size ≤ sizeLine := by rw [List.size_toArray, ← rv.length]; exact hsz
  have hz2 : (ys.reverse.map (·.length)).sum + ys.reverse.length * a.length ≤ 16777216 := by
    rw [List.map_reverse, List.sum_reverse, List.length_reverse]; exact hz
  refine Calls.spliced_nil (join_rev (ys := ys.reverse) (s := { s2 with heap := s2.heap.push (revObj q ((its.toArray.size : Int) - 1)) }) (I2.ok.hd hc) ⟨_, Heap.get?_push_size _ rfl, rfl, rfl⟩ (hl.push _) hne hn (fun acc hi => strs_vals (by rw [List.map_reverse]; exact vals_rev rv hi)) hz2 fun h' k t' hk => ?_)
  exact ⟨.str (Txt.join a ys.reverse), H2, I3.turned (t' := k) (fun b o hb e => hk b o hb e) f0 f1 f3 f4 f5, ⟨_, rfl⟩, q2⟩
end
end RT

/-! texts: lstrip, partition, join without a separator, a written tuple of texts -/
namespace SX
open PySem PySem.Builtin PySem.Builtin.Str
theorem drop_tw (g : Nat → Bool) : ∀ l : List Nat, l.drop (l.takeWhile g).length = l.dropWhile g
  | [] => rfl
  | a :: l => by
    by_cases h : g a = true
    · rw [List.takeWhile_cons_of_pos h, List.dropWhile_cons_of_pos h]
      exact drop_tw g l
    · rw [List.takeWhile_cons_of_neg h, List.dropWhile_cons_of_neg h]
      rfl
theorem lstrip_S (l : List Nat) : Txt.lstripChars (S l) "0" = S (l.dropWhile (· == 48)) := by
  have hg : (("0" : Str).cps.contains) = (fun c : Nat => c == 48) := by
    funext c
    show (#[48] : Array Nat).contains c = (c == 48)
    by_cases h : c = 48
    · subst h
      simp
    · rw [beq_eq_false_iff_ne.mpr h]
      simp [h]
  have hs : stripped (fun c : Nat => c == 48) true false (S l) = S (l.dropWhile (· == 48)) := by
    show strSub (S l) (l.takeWhile (fun c : Nat => c == 48)).length (S l).length = _
    refine PySem.Str.ext' ?_
    apply Array.toList_inj.mp
    rw [StrLaws.strSub_toList]
    show (l.drop (l.takeWhile (fun c : Nat => c == 48)).length).take ((S l).length - (l.takeWhile (fun c : Nat => c == 48)).length) = l.dropWhile (· == 48)
    rw [drop_tw, List.take_of_length_le]
    rw [S_len, ← drop_tw, List.length_drop]
    exact Nat.le_refl _
  unfold Txt.lstripChars Txt.stripBy
  rw [hg]
  split
  · rename_i h
    have hl := (Bool.and_eq_true_iff.mp h).1
    have : stripLo (fun c : Nat => c == 48) true (S l) = 0 := eq_of_beq hl
    rw [← hs]
    unfold stripped
    rw [this]
    exact (StrLaws.sub_whole (S l)).symm
  · exact hs
theorem part_none {l : List Nat} {c : Nat} (h : c ∉ l) : Txt.partition (S l) (S [c]) = (S l, Str.empty, Str.empty) := by
  unfold Txt.partition
  have e := StrLaws.found_one (S l) c
  have hn : decide (c ∈ (S l).cps.toList) = false := decide_eq_false h
  rw [hn] at e
  have e2 : (occurrences (S l) (S [c]) 0 (S l).length 1).isEmpty = true := by
    cases z : (occurrences (S l) (S [c]) 0 (S l).length 1).isEmpty with
    | true => rfl
    | false =>
      have e3 : (!(occurrences (S l) (S [c]) 0 (S l).length 1).isEmpty) = false := e
      rw [z] at e3
      cases e3
  rw [List.isEmpty_iff.mp e2]
theorem join_E : ∀ ls : List (List Nat), Txt.join Str.empty (ls.map S) = S ls.flatten := by
  intro ls
  unfold Txt.join
  rw [StrLaws.glued_eq_join]
  have go : ∀ ls : List (List Nat), PySem.Str.join Str.empty (ls.map S) = S ls.flatten := by
    intro ls
    induction ls with
    | nil => rfl
    | cons a r ih =>
      cases r with
      | nil =>
        show S a = S (a ++ [])
        rw [List.append_nil]
      | cons b r =>
        show S a ++ Str.empty ++ PySem.Str.join Str.empty ((b :: r).map S) = _
        rw [ih, PySem.Str.append_empty, S_cat]
        rfl
  exact go ls
end SX
namespace L2
open PySem PySem.Spec PyProof.Rows
/-- a tuple of texts that the program wrote -/
theorem tup_written {K : PySem.W.Frag} {a : Addr} {od : Option Addr} {its : Array Value} {n : Nat} {sl : Array (Option Value)} {ys : List Str} (h : K.lookup a = some ⟨.type "tuple", od, .seq its n, sl⟩) (hy : PyProof.Rows.KTD.strsLook its.toList ys = true) (hn : ys.length ≤ 1000) (H : Hp) :
    SqT K H a (ys.map V.str) := by
  have hs := PyProof.Rows.KTD.strs_of_look hy
  have hl : its.size = ys.length := by
    have := (vals_of_strs hs).length
    rw [List.length_map] at this
    simpa using this.symm
  refine .inr ⟨_, its, n, h, rfl, rfl, Nat.le_trans (Nat.le_trans (Nat.le_of_eq hl) hn) (by decide), vals_of_strs hs⟩
/-- the four digits of each number below 81 -/
def fours : List Str := (List.range 81).map fun i => SX.S (TM.cs (TM.pad 4 i))
theorem fours_get {i : Nat} (h : i < 81) : (fours.map V.str)[i]? = some (V.str (SX.S (TM.cs (TM.pad 4 i)))) := by
  unfold fours
  rw [List.getElem?_map, List.getElem?_map, List.getElem?_range h] <;> rfl
end L2

namespace L2
open PySem PySem.Spec PyProof.Rows
section
variable {X : Cx} {k : Nat} {f : Addr} {sp : Sp} {E : XK} {x : Str} {p pos : Pos}
/-- f() by a positional promise -/
theorem pe_callR0 (F : FnR X.prog X.w X.K X.mg X.base CX0 k f sp) (hr : Room k X.A) (hk : PySem.W.keepIn X.K (.ref f) = true) (hg : Gl X x) (hm : X.mg x = some (.ref f)) (hx : Passes CX0 X E)
    (hd : (x == ("__debug__" : Str)) = false := by decide) : PE X (.Call (.Name x p) [] [] pos) (fun σ H Q => sp [] H Q E) := by
  constructor
  intro pins s σ H Q I h
  refine wpAny_Call_Name_kw (ld_glob I hg hm ?_ hd)
  exact PySem.W.callWith_K0 I.kIn hk (wpAny_call (run_fnR F hr hx I .nil h))
end
/-- chunks of digits, as their texts, one behind the other from the last one on -/
theorem chunks_text : ∀ L : List (List Nat), Txt.join Str.empty ((L.map fun l => SX.S (TM.cs l)).reverse) = SX.S (TM.cs L.flatten) := by
  intro L
  have e : (L.map fun l => SX.S (TM.cs l)).reverse = ((L.map TM.cs).reverse).map SX.S := by
    rw [← List.map_reverse, ← List.map_reverse, List.map_map]
    rfl
  rw [e, SX.join_E]
  congr 1
  clear e
  induction L with
  | nil => rfl
  | cons l L ih =>
    show _ = TM.cs (l ++ L.flatten)
    rw [List.map_cons, List.reverse_cons, List.flatten_append, ih, TM.cs_append]
    simp
theorem chunks_len : ∀ (L : List (List Nat)), ((L.map fun l => SX.S (TM.cs l)).map (·.length)).sum = L.flatten.length
  | [] => rfl
  | l :: L => by
    rw [List.map_cons, List.map_cons, List.sum_cons, chunks_len L, List.flatten_cons, List.length_append, SX.S_len, TM.cs_len]
theorem cat_cs (a b : List Nat) : SX.S (TM.cs b) ++ SX.S (TM.cs a) = SX.S (TM.cs (a ++ b)) := by rw [SX.S_cat, TM.cs_append]
theorem lt_of_pow {len n b : Nat} (h : 3 ^ len ≤ n) (hn : n < 2 ^ b) : len < b := by
  rcases Nat.lt_or_ge len b with z | z
  · exact z
  · have h1 : 2 ^ b ≤ 2 ^ len := Nat.pow_le_pow_right (by decide) z
    have h2 : 2 ^ len ≤ 3 ^ len := Nat.pow_le_pow_left (by decide) len
    omega
end L2
namespace L2
open PySem PySem.Spec PyProof.Rows
theorem cr_minKx {X : Cx} (K : PySem.W.Frag) (hc : X.calm = true) (h : X.K = K := by rfl) : CallR X (.builtin "min") (rMin K) := by
  subst h
  exact cr_min hc
def rLenK (K : PySem.W.Frag) : List V → Hp → VK → Prop := fun xs H Q => ∃ p ys, xs = [V.ref p] ∧ (SqL K H p ys ∨ SqT K H p ys) ∧ Q (.int ys.length) H
theorem call_lenK {X : Cx} (K : PySem.W.Frag) (h : X.K = K := by rfl) : CallR X (.builtin "len") (rLenK K) := by
  subst h
  exact call_len_seq
end L2

namespace L2
open PySem PySem.Spec PyProof.Rows CwR
theorem PSsT.nox {X : Cx} {st : List Stmt} {t : TS} (h : PSsT X.nox st t) : PSsT X st t := fun pins s σ H D h0 I hw =>
  wpAny_mono (h pins s σ H D h0 (I.wish _) hw) (fun _ _ q => q.unwish) fun _ _ z => False.elim z
/-- a def whose body begins when a token is out -/
theorem Fun.okT {P : Program} {w : World} {K : PySem.W.Frag} {mg : Str → Option Value} {base : Heap} {x qual : Str} {st : Stmt} {f : Addr} {fd : FuncData} {N ps : List Str} {k : Nat} {sp : Sp} (F : Fun K x qual st f fd) (S : FnScope N ps (defScope st))
    (hnc : ∀ y ∈ (defScope st).names, y.2 ≠ .cell) (hps : 1 ≤ ps.length) (len : ∀ vs H Q E, sp vs H Q E → vs.length = ps.length)
    (hbody : ∀ (cdv : Value) (A : Around) (outer : List Env) (s : Shared) (H : Hp) (vs : List V) (Q : VK) (E : XK), Room k (A.deeper (envOfC qual (defScope st) s.heap.objs.size f cdv)) → sp vs H Q E →
      ∃ t, PSsT (cxOf CX0 P w K mg base N qual (defScope st) f cdv A outer s H E).nox (defBody st) t ∧ t { nx := fun _ H' => Q .non H', rt := Q } (start N vs) H) : FnOk P w K mg base CX0 (k + 1) f fd ps sp := by
  obtain ⟨oc, od, kV, doc, pm, an, cdv, ct, osl, rfl, lk, hcd⟩ := F.ex
  refine fn_ofT lk hcd S hnc hps len fun A outer s H vs Q E hr hsp => ?_
  obtain ⟨t, h, q⟩ := hbody cdv A outer s H vs Q E hr hsp
  exact ⟨t, h.nox, q⟩
section
variable {X : Cx} {CX : CXT} {k : Nat} {f : Addr} {fd : FuncData} {ps : List Str} {ds : List Value} {dvs : List V} {sp : Sp} {E : XK} {x : Str} {e : Expr} {es : List Expr} {t : TA} {te : TE} {p pos pos' : Pos}
theorem pet_call (F : FnOk X.prog X.w X.K X.mg X.base CX k f fd ps sp) (hr : Room k X.A) (hg : Gl X x) (hm : X.mg x = some (.ref f)) (hk : PySem.W.keepIn X.K (.ref f) = true) (hb : Binds X.K fd ps ds) (hd : Vals dvs ds) (hx : Passes CX X E)
    (ha : PAT X (e :: es) t) (hdb : (x == ("__debug__" : Str)) = false := by decide) (he : starEach (e :: es) X.env = (false, eval e X.env) :: starEach es X.env := by rfl) (hpl : (backTo pos (starEach es X.env)).any (·.1) = false := by rfl) :
    PET X (.Call (.Name x p) (e :: es) [] pos) (tCall sp dvs E t) := by
  intro pins s σ H Q h0 I h
  refine wpAny_Call_Name_kw (ld_glob I hg hm ?_ hdb)
  refine PySem.W.callWith_K (h₀ := X.base) I.ok.mod.kin hk (thn (ha pos pins s σ H _ h0 I h) fun us s1 ⟨vs, H1, I1, r, q⟩ => ⟨I1.kIn, ?_⟩) he hpl
  exact run_fn F hr hb hd hx I1 r q
theorem pet_tup {x1} (h : PAT X es t) : PET X (.Tuple es x1 pos) (tTup t) := by
  intro pins s σ H Q h0 I hq
  refine wpAny_Tuple_spliced (thn (h pos pins s σ H _ h0 I hq) fun us s1 ⟨xs, H1, I1, r, z, q⟩ => ⟨by rw [← r.length]; exact z, ?_⟩)
  have hf : H1 s1.heap.objs.size = none := I1.hok.fresh (Nat.le_refl _)
  refine ⟨.ref s1.heap.objs.size, upd H1 s1.heap.objs.size (.tup xs), I1.laid (t' := s1.toks) (fun b u e => Heap.get?_push_of_some _ e) (Nat.le_refl _) ?_, rfl, q _ hf⟩
  exact ⟨z, us, r, ⟨_, Heap.get?_push_size _ rfl, rfl, _, rfl⟩⟩
theorem pst_set {i : Nat} {x : Str} (hN : X.N.Nodup) (hi : X.N[i]? = some x) (hx : Loc X.env.scope x) (he : PET X e te) (hs : swapsWith e (some (.Name x pos')) pos.line X.env = pure false := by rfl)
    (hf : X.fn x = true ∨ X.env.scope.names.lookup x = some .local := by first | exact .inl rfl | exact .inr rfl | assumption) : PST X (.Assign [.Name x pos'] e pos) (tAsg te (gName i)) := by
  intro pins s σ H D h0 I h
  refine wpAny_Assign_Name (thn (he pins s σ H _ h0 I h) fun v s1 ⟨y, H1, I1, r1, q1⟩ => ?_) hs
  exact store_ok I1 hN hi hx r1 (fun s2 I2 => ⟨_, H1, I2, q1⟩) hf
/-- text * number -/
theorem op_mul_str : OpR X (binaryOp .Mult) (fun x y H Q => ∃ (c n : Nat), x = .str (SX.S [c]) ∧ y = .int (n : Int) ∧ n ≤ 1000000 ∧ Q (.str (SX.S (List.replicate n c))) H) := by
  intro pins s σ H x y v u Q I rx ry h
  obtain ⟨c, n, rfl, rfl, hn, q⟩ := h
  obtain ⟨t, rfl⟩ := rx
  obtain ⟨t2, rfl⟩ := ry
  refine PySem.SB.mul (mulOk_of 1 1000000 (Nat.le_refl _) (by omega) (by omega) (by decide) (by decide)) fun t' k => ⟨.str (SX.S (List.replicate n c)), H, I.tok _, ⟨t', ?_⟩, q⟩
  have e : Txt.mul (SX.S [c]) (n : Int) = SX.S (List.replicate n c) := by
    refine PySem.Str.ext' (Array.toList_inj.mp ?_)
    rw [show SX.S [c] = (⟨#[c]⟩ : Str) from rfl, mul_one_list]
    rfl
  rw [e]
end
end L2
namespace SX
open PySem PySem.Builtin PySem.Builtin.Str
theorem repl_one (c d : Nat) : ∀ l : List Nat, PySem.StrLaws.replL [c] [d] l = l.map fun x => if x = c then d else x
  | [] => PySem.StrLaws.replL_nil
  | x :: l => by
    by_cases h : x = c
    · rw [PySem.StrLaws.replL_hit (by simp) (by simp [h])]
      show d :: PySem.StrLaws.replL [c] [d] l = _
      rw [repl_one c d l, List.map_cons, if_pos h]
    · rw [PySem.StrLaws.replL_miss (by simp [h]), repl_one c d l, List.map_cons, if_neg h]
theorem repl_S (c d : Nat) (l : List Nat) : Txt.replace (S l) (S [c]) (S [d]) = S (l.map fun x => if x = c then d else x) := by
  refine PySem.Str.ext' (Array.toList_inj.mp ?_)
  rw [PySem.StrLaws.replace_list (by simp [S_len])]
  exact repl_one c d l
theorem pad_small {n : Nat} (h : n ≤ 100000) : PadOk (n : Int) = true := by
  unfold PadOk fitsSsize tooLong
  rw [Int.toNat_natCast, Bool.and_eq_true]
  refine ⟨?_, ?_⟩
  · rw [Bool.not_eq_true', Bool.or_eq_false_iff]
    exact ⟨decide_eq_false (by omega), decide_eq_false (by omega)⟩
  · rw [Bool.not_eq_true']
    refine decide_eq_false ?_
    have : (100000 : Nat) ≤ sizeLine := by decide
    omega
theorem zfill_S {l : List Nat} {n : Nat} (h : ∀ c ∈ l, 48 ≤ c) : Txt.zfill (S l) (n : Int) = S (List.replicate (n - l.length) 48 ++ l) := by
  unfold Txt.zfill
  split
  · rename_i z
    rw [S_len] at z
    rw [show n - l.length = 0 by omega]
    rfl
  · rename_i z
    rw [Int.toNat_natCast, S_len]
    have e : zfilled (S l) (n - l.length) = padded (S l) (n - l.length) 0 48 := by
      unfold zfilled
      split
      · rename_i y
        have hm : 43 ∈ l := List.mem_of_getElem? (by simpa using y)
        have := h _ hm
        omega
      · rename_i y
        have hm : 45 ∈ l := List.mem_of_getElem? (by simpa using y)
        have := h _ hm
        omega
      · rfl
    rw [e]
    refine PySem.Str.ext' (Array.toList_inj.mp ?_)
    unfold padded
    simp
end SX

/-! G5: generator defs of the text, their calls -/
namespace TF
open PySem PySem.Spec PyProof.Rows L2 GenW TM
section
variable {P : Program} {w : World} {K : PySem.W.Frag} {mg : Str → Option Value} {base : Heap} {x qual : Str} {params : Arguments} {body : List Stmt} {scope : Scope} {dvs : List V} {kws : List (Str × V)} {f : Addr} {fd : FuncData}
theorem gdef_ok {N ps : List Str} {k : Nat} {sp : SpJ} (F : FunD K x qual params body scope dvs kws f fd) (S : GScope N ps scope) (plain : ∀ y ∈ scope.names, y.2 ≠ .cell ∧ y.2 ≠ .free) (len : ∀ vs H J, sp vs H J → vs.length = ps.length)
    (hbody : ∀ (cdv : Value) (A : Around) (outer : List Env) (L : Addr) (H : Hp) (vs : List V) (J : GJ), Room k (A.deeper (envOfC qual scope L f cdv)) → sp vs H J →
      ∃ t, QSs (gxOf P w K mg base N qual scope f cdv A outer L) J body t ∧ ∀ B, (J.go 0 B ∨ J.stop 0 B) → t (qEnd J) 0 B (start N vs) B) : GDef P w K mg base (k + 1) f fd ps sp := by
  obtain ⟨oc, od, dV, kV, doc, pm, an, cdv, ct, osl, rfl, lk, hcd, _, _⟩ := F.ex
  exact gdef_of lk hcd S plain len fun A outer L H vs J hr hsp => hbody cdv A outer L H vs J hr hsp
end
section
variable {X : Cx} {k : Nat} {f : Addr} {fd : FuncData} {ps ks : List Str} {sp : SpJ} {ds : List Value} {dvs : List V} {x : Str} {p pos : Pos} {e : Expr} {es : List Expr} {t : TA}
def tCallJ (sp : SpJ) (dvs : List V) (t : TA) : TJ := fun σ H R => t σ H fun vs H1 => ∃ J, sp (vs ++ dvs) H1 J ∧ R J H1
theorem gen_run {pins : List (Addr × Obj)} {σ : L2.St} {H : Hp} {s : Shared} {vs : List V} {us : List Value} {args : Args} {J : GJ} {R : GJ → Hp → Prop} {E : Value → Shared → Prop} (F : GDef X.prog X.w X.K X.mg X.base k f fd ps sp) (hr : Room k X.A) (I : Inv X pins σ H s)
    (hb : BindsTo s fd args (ps.zip us)) (r : Vals vs us) (h : sp vs H J) (q : R J H) :
    codeAny (model X.prog X.w) X.A (.call (.ref f) args) (fun r s' => match r with
      | .ok (.ret u) => ∃ H1 sc J, Inv X pins σ H1 sc ∧ GFresh X.prog X.w X.K X.mg X.base k X.stack sc J u s' ∧ R J H1
      | .ok _ => False | .error e => E e s') s := by
  refine codeAny_mono (F.run X.A X.stack s H args us vs J hr I.env0 hb r h) fun r s' hq => ?_
  cases r with
  | error e => exact hq.elim
  | ok fl =>
    cases fl with
    | ret u => exact ⟨H, s, J, I, hq, q⟩
    | next => exact hq.elim
    | brk => exact hq.elim
    | cont => exact hq.elim
/-- f(e, ..) -/
theorem pj_call (F : GDef X.prog X.w X.K X.mg X.base k f fd ps sp) (hr : Room k X.A) (hg : Gl X x) (hm : X.mg x = some (.ref f)) (hk : PySem.W.keepIn X.K (.ref f) = true) (hb : Binds X.K fd ps ds) (hd : Vals dvs ds) (ha : PA X (e :: es) t)
    (hdb : (x == ("__debug__" : Str)) = false := by decide) (he : starEach (e :: es) X.env = (false, eval e X.env) :: starEach es X.env := by rfl) (hpl : (backTo pos (starEach es X.env)).any (·.1) = false := by rfl) :
    PJ X k (.Call (.Name x p) (e :: es) [] pos) (tCallJ sp dvs t) := by
  constructor
  intro pins s σ H R I h
  refine wpAny_Call_Name_kw (ld_glob I hg hm ?_ hdb)
  refine PySem.W.callWith_K (h₀ := X.base) I.ok.mod.kin hk (thn (ha.run pos pins s σ H _ I h) fun us s1 hh => ?_) he hpl
  obtain ⟨vs, H1, I1, r, J, q, hR⟩ := hh
  refine ⟨I1.kIn, wpAny_call (codeAny_mono (gen_run (R := R) (E := X.xe) F hr I1 (hb s1 us I1.kIn ?_) (r.append hd) q hR) fun r s' hq => ?_)⟩
  · rw [← F.len _ _ _ q, (r.append hd).length]
  · cases r with
    | error e => exact hq
    | ok fl => cases fl <;> first | exact hq | exact hq.elim
/-- f() -/
theorem pj_call0 (F : GDef X.prog X.w X.K X.mg X.base k f fd ps sp) (hr : Room k X.A) (hg : Gl X x) (hm : X.mg x = some (.ref f)) (hk : PySem.W.keepIn X.K (.ref f) = true) (hb : Binds X.K fd ps ds) (hd : Vals dvs ds)
    (hdb : (x == ("__debug__" : Str)) = false := by decide) :
    PJ X k (.Call (.Name x p) [] [] pos) (tCallJ sp dvs tNil) := by
  constructor
  intro pins s σ H R I h
  obtain ⟨J, q, hR⟩ := h
  refine wpAny_Call_Name_kw (ld_glob I hg hm ?_ hdb)
  refine PySem.W.callWith_K0 I.kIn hk (wpAny_call (codeAny_mono (gen_run (vs := [] ++ dvs) (us := [] ++ ds) (args := ⟨[], []⟩) (R := R) (E := X.xe) F hr I (hb s [] I.kIn ?_) (show Vals ([] ++ dvs) ([] ++ ds) from hd) q hR) fun r s' hq => ?_))
  · rw [← F.len _ _ _ q]
    exact (hd.length).symm
  · cases r with
    | error e => exact hq
    | ok fl => cases fl <;> first | exact hq | exact hq.elim
/-- f(k = e, ..) -/
def tCallJW (sp : SpJ) (n : Nat) (g : {α : Type} → List α → List α) (tk : TA) : TJ := fun σ H R => tk σ H fun zs H1 => zs.length = n ∧ ∃ J, sp (g zs) H1 J ∧ R J H1
theorem pj_callK0 {g : {α : Type} → List α → List α} {kws : List Keyword} {tk : TA} (F : GDef X.prog X.w X.K X.mg X.base k f fd ps sp) (hr : Room k X.A) (hg : Gl X x) (hm : X.mg x = some (.ref f)) (hk : PySem.W.keepIn X.K (.ref f) = true) (hb : KB0 X.K fd ps ks g) (hkw : PK X kws tk)
    (hall : (backToKw pos (keywordEach kws X.env)).all (·.1.isSome) = true := by rfl) (hks : (backToKw pos (keywordEach kws X.env)).filterMap (·.1) = ks := by rfl)
    (hdb : (x == ("__debug__" : Str)) = false := by decide)
    (hpl : ((backTo pos (starEach [] X.env)).any (·.1) || (backToKw pos (keywordEach kws X.env)).any (·.1.isNone)) = false := by rfl) :
    PJ X k (.Call (.Name x p) [] kws pos) (tCallJW sp ks.length g tk) := by
  constructor
  intro pins s σ H R I h
  refine wpAny_Call_Name_kw (ld_glob I hg hm ?_ hdb)
  refine PySem.W.callWith_KW0 (h₀ := X.base) I.ok.mod.kin hk hall ?_ hpl
  refine thn (hkw.run pos pins s σ H _ I h) fun ws s2 hh => ?_
  obtain ⟨zs, H2, I2, rz, l0, J, q, hR⟩ := hh
  refine ⟨I2.kIn, ?_⟩
  rw [hks]
  have hl : ws.length = ks.length := by rw [← rz.length, l0]
  refine wpAny_call (codeAny_mono (gen_run (R := R) (E := X.xe) F hr I2 (hb.to s2 ws I2.kIn hl) (hb.rel rz) q hR) fun r s' hq => ?_)
  cases r with
  | error e => exact hq
  | ok fl => cases fl <;> first | exact hq | exact hq.elim
end
theorem binds_none {K : PySem.W.Frag} {fd : FuncData} {ps : List Str} (h : ∃ ds, Vals [] ds ∧ Binds K fd ps ds) : Binds K fd ps [] := by
  obtain ⟨ds, r, b⟩ := h
  cases r
  exact b
end TF

set_option maxHeartbeats 1000000
/-! G7: for in a generator's body -/
namespace TF
open PySem PySem.Spec PyProof.Rows L2 GenW
section
variable {M : Model} {A : Around} {R : GenEnd} {Yp : Protocol} {n : Nat} {s₀ : Shared} {c : Code} {fs : List Frame} {s : Shared} {env : Env}
  {K : Flow → Sem PySem.Fin} {Jx : Value → Sem PySem.Fin} {gd : Bool → Bool} {lv : List Value → List Value}
theorem seg_For {tg iter : Expr} {body : List Stmt} {pos : Pos}
    (h : wpAny M (A.over c fs) (eval iter env) (fun x s₁ => wpAny M (A.over c fs) (pyIter x) (fun it s₂ => ∀ p, Seg M A R Yp n s₀ (.forLoop tg it body [] env) (M.den (.forLoop tg it body [] env))
      (.ret (fun r => ((match r with | .ok f => (.pure f : Sem Flow) | .error e => .raise e).onRaise (cameBack env)).wrap K Jx gd lv) none (gd false) (lv []) c p [] :: fs) s₂) (fun _ _ => False) s₁) (fun _ _ => False) s)
    (hs : ∀ x, foldedSetIterable iter env x = pure x := by intro _; rfl) :
    Seg M A R Yp n s₀ c ((exec (.For tg iter body [] pos) env).wrap K Jx gd lv) fs s := by
  have e : exec (.For tg iter body [] pos) env = (standAt pos >>= fun _ => eval iter env) >>= fun x => (standAt iter.pos >>= fun _ => holding [x] (pyIter x)) >>= fun it => runOwn (.forLoop tg it body [] env) env := by
    rw [exec_For]
    simp only [hs]
    simp [bind_assoc]
  rw [e, Sem.bind_eq_wrap', Sem.wrap_wrap]
  refine seg_wrap (wpAny_bind (wpAny_standAt (wpAny_mono h (fun x s₁ h₁ => ?_) fun _ _ z => z.elim)))
  rw [Sem.bind_eq_wrap', Sem.wrap_wrap]
  refine seg_wrap (wpAny_bind (wpAny_standAt (wpAny_holding (wpAny_mono h₁ (fun it s₂ h₂ => ?_) fun _ _ z => z.elim))))
  exact seg_call h₂
end
section
variable {prog : Program} {w : World} {A : Around} {R : GenEnd} {Yp : Protocol} {n : Nat} {s₀ : Shared} {fs : List Frame} {s : Shared} {env : Env}
theorem seg_forLoop {tg : Expr} {it : Value} {body : List Stmt}
    (h : wpAny (model prog w) (A.over (.forLoop tg it body [] env) fs) (pyNext it) (fun r s₁ => match r with
      | none => Seg (model prog w) A R Yp n s₀ (.block [] env) ((model prog w).den (.block [] env)) fs s₁
      | some v => wpAny (model prog w) (A.over (.forLoop tg it body [] env) fs) (letOwnedTupleGo tg it v) (fun _ s₂ =>
          wpAny (model prog w) (A.over (.forLoop tg it body [] env) fs) (assign tg env v) (fun _ s₃ => Seg (model prog w) A R Yp n s₀ (.forLoop tg it body [] env) ((execs body env).wrap (fun f => match f with
            | .next | .cont => .pure (.again (.forLoop tg it body [] env))
            | .brk => .pure (.done .next)
            | .ret v => .pure (.done (.ret v))) (fun e => (do noteFrame e env; theTreesLotGoes e : Sem Unit).wrap (fun _ => .raise e) .raise id id) id id) fs s₃) (fun _ _ => False) s₂) (fun _ _ => False) s₁) (fun _ _ => False) s) :
    Seg (model prog w) A R Yp n s₀ (.forLoop tg it body [] env) ((model prog w).den (.forLoop tg it body [] env)) fs s := by
  show Seg _ A R Yp n s₀ _ ((forTurn tg it body [] env).onRaise (fun x => do noteFrame x env; theTreesLotGoes x)) fs s
  unfold forTurn
  rw [Sem.onRaise_eq_wrap, Sem.bind_eq_wrap', Sem.wrap_wrap]
  refine seg_wrap (wpAny_standAt ?_)
  rw [Sem.bind_eq_wrap', Sem.wrap_wrap]
  refine seg_wrap (wpAny_onRaise (wpAny_mono h (fun r s₁ h₁ => ?_) fun _ _ z => z.elim))
  cases r with
  | none => exact seg_again rfl h₁
  | some v =>
    simp only
    rw [Sem.bind_eq_wrap', Sem.wrap_wrap]
    refine seg_wrap (wpAny_mono h₁ (fun _ s₂ h₂ => ?_) fun _ _ z => z.elim)
    rw [Sem.bind_eq_wrap', Sem.wrap_wrap]
    refine seg_wrap (wpAny_mono h₂ (fun _ s₃ h₃ => ?_) fun _ _ z => z.elim)
    rw [Sem.bind_eq_wrap', Sem.wrap_wrap]
    rw [Sem.wrap_congr (execs body env) _ _ (K' := fun f => match f with
            | .next | .cont => .pure (.again (.forLoop tg it body [] env))
            | .brk => .pure (.done .next)
            | .ret v => .pure (.done (.ret v))) (H' := (fun e => (do noteFrame e env; theTreesLotGoes e : Sem Unit).wrap (fun _ => .raise e) .raise id id))
        (fun f => by cases f <;> rfl)
        (fun e => by first | exact Sem.bind_eq_wrap _ _ | (show (do noteFrame e env; theTreesLotGoes e : Sem Unit).bind (fun _ => .raise e) = _; rw [Sem.bind_eq_wrap]))]
    exact h₃
end
/-! ### an iterator above the frame -/
def PIEF (X : Cx) (pins : List (Addr × Obj)) (σ : L2.St) (tg : Expr) (R : It → Hp → Prop) (itv : Value) (s2 : Shared) : Prop :=
  ∃ (it : Addr) (fp : List Addr) (tn : Nat → Heap → Prop) (J : It) (H' : Hp), itv = .ref it ∧ Inv X pins σ H' s2 ∧ Turn X.prog X.w X.K tg J fp it tn ∧ tn 0 s2.heap ∧ (∀ b ∈ fp, FpOk X pins H' b ∧ X.env.locals < b) ∧ R J H'
structure PIF (X : Cx) (tg iter : Expr) (wi : TI) : Prop where
  run : ∀ (pins : List (Addr × Obj)) (s : Shared) (σ : L2.St) (H : Hp) (R : It → Hp → Prop), Inv X pins σ H s → wi σ H R →
    wpAny (model X.prog X.w) X.A (eval iter X.env) (fun v s1 => wpAny (model X.prog X.w) X.A (pyIter v) (PIEF X pins σ tg R) X.xe s1) X.xe s
section
variable {X : Cx} {tg : Expr}
theorem pif_list {l : Expr} {tl : TE} (hl : PE X l tl) : PIF X tg l (iList X.K tl) := by
  refine ⟨fun pins s σ H R I h => ?_⟩
  refine thn (hl.run pins s σ H _ I h) fun v s1 ⟨x, H1, I1, r1, q1⟩ => ?_
  obtain ⟨a, e, ⟨xs, hq⟩, q⟩ := q1
  subst e
  cases r1
  obtain ⟨its, rv, p, hz⟩ := I1.list hq
  refine wpAny_pyIter_list p.isList ?_
  refine ⟨s1.heap.objs.size, [s1.heap.objs.size], _, _, H1, rfl, I1.kept (t' := s1.toks) fun b o e => Heap.get?_push_of_some _ e, turn_list a _, ⟨_, Heap.get?_push_size _ rfl, rfl, rfl⟩, fun b hb => ?_, q⟩
  have e : b = s1.heap.objs.size := by simpa using hb
  subst e
  exact ⟨I1.fpOk (Nat.le_refl _) (I1.hok.fresh (Nat.le_refl _)), I1.lt⟩
theorem pif_tup {l : Expr} {tl : TE} (hl : PE X l tl) : PIF X tg l (iTup X.K tl) := by
  refine ⟨fun pins s σ H R I h => ?_⟩
  refine thn (hl.run pins s σ H _ I h) fun v s1 ⟨x, H1, I1, r1, q1⟩ => ?_
  obtain ⟨a, e, ⟨xs, hq⟩, q⟩ := q1
  subst e
  cases r1
  obtain ⟨its, rv, p, hz⟩ := I1.tuple hq
  refine wpAny_pyIter_tuple (show s1.heap.IsTuple a its.toArray from p) ?_
  refine ⟨s1.heap.objs.size, [s1.heap.objs.size], _, _, H1, rfl, I1.kept (t' := s1.toks) fun b o e => Heap.get?_push_of_some _ e, turn_tuple a _, ⟨_, Heap.get?_push_size _ rfl, rfl, rfl⟩, fun b hb => ?_, q⟩
  have e : b = s1.heap.objs.size := by simpa using hb
  subst e
  exact ⟨I1.fpOk (Nat.le_refl _) (I1.hok.fresh (Nat.le_refl _)), I1.lt⟩
/-- a range object just made, walked -/
theorem range_itF {pins : List (Addr × Obj)} {σ : L2.St} {H : Hp} {s : Shared} {R : It → Hp → Prop} {E : Value → Shared → Prop} {lo hi : Int} {t u v : Tok} {tk : Nat} (I : Inv X pins σ H s) (h1 : -(2 ^ 62) ≤ lo) (h2 : lo < 2 ^ 62) (h3 : -(2 ^ 62) ≤ hi) (h4 : hi < 2 ^ 62)
    (q : R (Itr lo (hi - lo).toNat) H) : wpAny (model X.prog X.w) X.A (pyIter (.ref s.heap.objs.size)) (PIEF X pins σ tg R) E { s with heap := s.heap.push { cls := .type "range", data := .fields #[.int lo t, .int hi u, .int 1 v] }, toks := tk } := by
  refine wpAny_pyIter_range (IsRange.new ..) (small_one h1 h2 h3 h4) ?_
  have I1 : Inv X pins σ H { s with heap := s.heap.push { cls := .type "range", data := .fields #[.int lo t, .int hi u, .int 1 v] }, toks := tk } := I.kept fun b o e => Heap.get?_push_of_some _ e
  refine ⟨(s.heap.push { cls := .type "range", data := .fields #[.int lo t, .int hi u, .int 1 v] }).objs.size, [(s.heap.push { cls := .type "range", data := .fields #[.int lo t, .int hi u, .int 1 v] }).objs.size], _, _, H, rfl,
    I1.kept (t' := tk) fun b o e => Heap.get?_push_of_some _ e, turn_range _ lo (hi - lo).toNat, ?_, fun b hb => ?_, q⟩
  · have e1 : lo + ((0 : Nat) : Int) * 1 = lo := by simp
    have e2 : (((hi - lo).toNat : Nat) : Int) - ((0 : Nat) : Int) = Builtin.Range.rangeSize lo hi 1 := by rw [rangeSize_one]; split <;> omega
    show IsRangeIter _ _ (lo + ((0 : Nat) : Int) * 1) ((((hi - lo).toNat : Nat) : Int) - ((0 : Nat) : Int)) 1
    rw [e1, e2]
    exact Heap.get?_push_size _ rfl
  · have e : b = (s.heap.push { cls := .type "range", data := .fields #[.int lo t, .int hi u, .int 1 v] }).objs.size := by simpa using hb
    subst e
    exact ⟨I1.fpOk (Nat.le_refl _) (I1.hok.fresh (Nat.le_refl _)), I1.lt⟩
theorem pif_range1 {a : Expr} {ta : TA} {p pos : Pos} (hg : Gl X "range") (hm : X.mg "range" = none) (ha : PA X [a] ta) (hs : starEach [a] X.env = [(false, eval a X.env)] := by rfl) : PIF X tg (.Call (.Name "range" p) [a] [] pos) (iRng1 ta) := by
  refine ⟨fun pins s σ H R I h => ?_⟩
  refine Call_ (ld_blt I hg hm boot_range (PyProof.Rows.callWith_type1 (thn (ha.run pos pins s σ H _ I h) fun us s1 ⟨vs, H1, I1, r1, q1⟩ => ?_) hs rfl))
  obtain ⟨j, e, q1, q2, q⟩ := q1
  subst e
  cases r1 with
  | cons r rr =>
    cases rr
    obtain ⟨t, rfl⟩ := r
    exact call_range_1 (range_itF I1 (by omega) (by omega) q1 q2 (by simpa using q))
theorem pif_range2 {a b : Expr} {ta : TA} {p pos : Pos} (hg : Gl X "range") (hm : X.mg "range" = none) (ha : PA X [a, b] ta) (hs : starEach [a, b] X.env = [(false, eval a X.env), (false, eval b X.env)] := by rfl) (hs2 : starEach [b] X.env = [(false, eval b X.env)] := by rfl) :
    PIF X tg (.Call (.Name "range" p) [a, b] [] pos) (iRng2 ta) := by
  refine ⟨fun pins s σ H R I h => ?_⟩
  refine Call_ (ld_blt I hg hm boot_range (PyProof.Rows.callWith_type1 (thn (ha.run pos pins s σ H _ I h) fun us s1 ⟨vs, H1, I1, r1, q1⟩ => ?_) (by rw [hs, hs2]) (by rw [hs2]; rfl)))
  obtain ⟨i, j, e, ⟨q1, q2, q3, q4⟩, q⟩ := q1
  subst e
  cases r1 with
  | cons r rr =>
    cases rr with
    | cons r' rr =>
      cases rr
      obtain ⟨t, rfl⟩ := r
      obtain ⟨t', rfl⟩ := r'
      exact call_range_2 (range_itF I1 q1 q2 q3 q4 q)
end
section
variable {Y : Gx} {J : GJ}
/-- W: the iterator's turn, a measure, the generator's turn -/
def tQFor (wi : Shared → Hp → TI) (g : Shared → Hp → TG) (tb : TQ) : TQ := fun D i B σ H => ∀ s₀, wi s₀ B σ H fun Ji H1 => ∃ W : Nat → Nat → Nat → Hp → L2.St → Hp → Prop, (∃ m, W 0 m i B σ H1) ∧ ∀ j m i B σ H, W j m i B σ H →
  (Ji.stop j H ∧ D.nx i B σ H) ∨ (Ji.go j H ∧ ∃ N : Nat → Hp → L2.St → Hp → Prop, (∀ i' B' σ' H', N i' B' σ' H' → ∃ m', (i < i' ∨ (i = i' ∧ m' < m)) ∧ W (j + 1) m' i' B' σ' H') ∧ ∀ x H', Ji.yld j H x H' → ∀ s₀, g s₀ B x σ H' fun σ2 H2 => tb { D with nx := N, ct := N, bk := D.nx } i B σ2 H2)
theorem qs_for {tg iter : Expr} {body : List Stmt} {pos : Pos} {wi : Shared → Hp → TI} {g : Shared → Hp → TG} {tb : TQ} (hi : ∀ s₀ B, PIF (Y.cx s₀ B) tg iter (wi s₀ B)) (hg : ∀ s₀ B, PG (Y.cx s₀ B) tg (g s₀ B)) (hb : QSs Y J body tb)
    (hs : ∀ x, foldedSetIterable iter Y.env x = pure x := by intro _; rfl) : QS Y J (.For tg iter body [] pos) (tQFor wi g tb) := by
  constructor
  intro C a go T A ps n i B s₀ c fs K Jx gd lv s σ H D q am k hI ht
  refine seg_For ?_ hs
  rw [q.over]
  refine wpAny_mono ((hi s₀ B).run ps s σ H _ hI (ht s₀)) (fun v s1 h1 => wpAny_mono h1 (fun itv s2 h2 => ?_) fun _ _ z => z.elim) fun _ _ z => z.elim
  obtain ⟨it, fp, tn, Ji, H2, e, I2, TT, st2, f2, W, ⟨m0, w0⟩, turn⟩ := h2
  subst e
  intro p
  have stat : ∀ {H' : Hp} (s' : Shared) (B' : Hp), (∀ b ∈ fp, H' b = none) → ∀ b ∈ fp, FpOk (Y.cx s' B') ps H' b := fun {H'} s' B' hn b hb' =>
    ⟨hn b hb', (f2 b hb').1.2.1, (f2 b hb').1.2.2.1, .inr (Nat.le_trans under0_size (Nat.le_of_lt (f2 b hb').2)), fun x c e => absurd e (q.fast.cells x c), (f2 b hb').1.2.2.2.2.2⟩
  have loop : ∀ (n m j i : Nat) (B : Hp) (s₀ s : Shared) (σ : L2.St) (H : Hp), Amid Y J C T n i B s₀ → W j m i B σ H → Inv (Y.cx s₀ B) ps σ H s → tn j s.heap → (∀ b ∈ fp, H b = none) →
      Seg (model Y.P Y.w) A (GRp Y J C a go) (GYp Y J C a go) n s₀ (.forLoop tg (.ref it) body [] Y.env) ((model Y.P Y.w).den (.forLoop tg (.ref it) body [] Y.env))
        (.ret (fun r => ((match r with | .ok f => (.pure f : Sem Flow) | .error e => .raise e).onRaise (cameBack Y.env)).wrap K Jx gd lv) none (gd false) (lv []) c p [] :: fs) s := by
    intro n
    induction n using Nat.strongRecOn with
    | ind n ihn =>
      intro m
      induction m using Nat.strongRecOn with
      | ind m ihm =>
        intro j i B s₀ s σ H am w hI st fr
        have gl := QC.loop (k := fun r => ((match r with | .ok f => (.pure f : Sem Flow) | .error e => .raise e).onRaise (cameBack Y.env)).wrap K Jx gd lv) (c' := .forLoop tg (.ref it) body [] Y.env) (l := lv []) (kp := []) (p := p) q rfl rfl
        apply seg_forLoop
        rw [gl.over]
        rcases turn j m i B σ H w with ⟨stop, qn⟩ | ⟨go', N, hN, step⟩
        · refine wpAny_mono (TT.done (Y.cx s₀ B) rfl rfl rfl rfl j ps s σ H (fun _ _ => False) hI (stat s₀ B fr) st stop) (fun r s4 h4 => ?_) fun _ _ z => z.elim
          obtain ⟨hr, I4⟩ := h4
          subst hr
          exact seg_leaf (.ok .next) (k.ok n i B s₀ s4 .next am ⟨σ, H, I4, qn⟩)
        · refine wpAny_mono (TT.item (Y.cx s₀ B) rfl rfl rfl rfl j ps s σ H (fun _ _ => False) hI (stat s₀ B fr) st go') (fun r s4 h4 => ?_) fun _ _ z => z.elim
          obtain ⟨u, hr, h4⟩ := h4
          subst hr
          refine wpAny_mono h4 (fun _ s5 h5 => ?_) fun _ _ z => z.elim
          obtain ⟨x, H5, I5, r5, y5, st5, fr5⟩ := h5
          have I5' := I5.pinned (stat s₀ B fr5) (TT.obj _ _ st5)
          refine wpAny_mono ((hg s₀ B).run _ s5 σ H5 x u _ I5' r5 (step x H5 y5 s₀)) (fun _ s6 h6 => ?_) fun _ _ z => z.elim
          obtain ⟨σ6, H6, I6, q6⟩ := h6
          have gl2 : QC Y a go (ps ++ pinsAt fp s5.heap) A (.forLoop tg (.ref it) body [] Y.env) _ id := ⟨gl.fast, List.mem_append_left _ gl.mine, fun x hx => (List.mem_append.mp hx).elim (gl.own x) fun z => by
            obtain ⟨z1, z2⟩ := of_pinsAt z
            obtain ⟨o, e', d⟩ := TT.obj _ _ st5 x.1 z1
            rw [z2] at e'
            cases e'
            exact ⟨(f2 x.1 z1).2, d⟩, gl.over, gl.split, gl.guard, gl.gd⟩
          refine hb.run C a go T A (ps ++ pinsAt fp s5.heap) n i B s₀ _ _ _ _ id id s6 σ6 H6 { D with nx := N, ct := N, bk := D.nx } gl2 am ⟨fun n' i' B' s₀' s7 f am' h7 => ?_⟩ I6 q6
          have more : ∀ {σ7 : L2.St} {H7 : Hp}, Inv (Y.cx s₀' B') (ps ++ pinsAt fp s5.heap) σ7 H7 s7 → N i' B' σ7 H7 → Seg (model Y.P Y.w) A (GRp Y J C a go) (GYp Y J C a go) n' s₀' (.forLoop tg (.ref it) body [] Y.env) (.pure (.again (.forLoop tg (.ref it) body [] Y.env)))
              (.ret (fun r => ((match r with | .ok f => (.pure f : Sem Flow) | .error e => .raise e).onRaise (cameBack Y.env)).wrap K Jx gd lv) none (gd false) (lv []) c p [] :: fs) s7 := fun {σ7 H7} I7 n7 => by
            obtain ⟨m', hm, w7⟩ := hN i' B' σ7 H7 n7
            have h1 := am.sum
            have h2 := am'.sum
            have st7 : tn (j + 1) s7.heap := TT.keep _ _ _ st5 fun b hb o e => (I7.pin (b, o) (List.mem_append_right _ (List.mem_append_right _ (mem_pinsAt hb e)))).1
            have fr7 : ∀ b ∈ fp, H7 b = none := fun b hb => by
              obtain ⟨o, e, d⟩ := TT.obj _ _ st5 b hb
              exact (I7.pin (b, o) (List.mem_append_right _ (List.mem_append_right _ (mem_pinsAt hb e)))).2.1
            refine seg_again rfl ?_
            rcases hm with hm | ⟨hi, hm⟩
            · exact ihn n' (by omega) m' (j + 1) i' B' s₀' s7 σ7 H7 am' w7 I7.unpinned st7 fr7
            · have en : n' = n := by omega
              subst en
              exact ihm m' hm (j + 1) i' B' s₀' s7 σ7 H7 am' w7 I7.unpinned st7 fr7
          cases f with
          | next => obtain ⟨σ7, H7, I7, n7⟩ := h7; exact more I7 n7
          | cont => obtain ⟨σ7, H7, I7, n7⟩ := h7; exact more I7 n7
          | brk =>
            obtain ⟨σ7, H7, I7, q7⟩ := h7
            exact seg_leaf (.ok .next) (k.ok n' i' B' s₀' s7 .next am' ⟨σ7, H7, I7.unpinned, q7⟩)
          | ret v =>
            obtain ⟨x7, σ7, H7, I7, r7, q7⟩ := h7
            exact seg_leaf (.ok (.ret v)) (k.ok n' i' B' s₀' s7 (.ret v) am' ⟨x7, σ7, H7, I7.unpinned, r7, q7⟩)
  exact loop n m0 0 i B s₀ s2 σ H2 am w0 I2 st2 fun b hb => (f2 b hb).1.1
end
end TF

/-! G8: for in the body of a generator def by the library's own protocol (what it hands out fills a list) -/
namespace TF
open PySem PySem.Spec PyProof.Rows L2 GenW
section
variable {M : Model} {A : Around} {R : GenEnd} {Yp : Protocol} {n : Nat} {s₀ : Shared} {c : Code} {fs : List Frame} {s : Shared} {env : Env}
  {K : Flow → Sem PySem.Fin} {Jx : Value → Sem PySem.Fin} {gd : Bool → Bool} {lv : List Value → List Value}
theorem seg_ForX {tg iter : Expr} {body : List Stmt} {pos : Pos}
    (h : wpAny M (A.over c fs) (eval iter env) (fun x s₁ => wpAny M (A.over c fs) (pyIter x) (fun it s₂ => ∀ p, Seg M A R Yp n s₀ (.forLoop tg it body [] env) (M.den (.forLoop tg it body [] env))
      (.ret (fun r => ((match r with | .ok f => (.pure f : Sem Flow) | .error e => .raise e).onRaise (cameBack env)).wrap K Jx gd lv) none (gd false) (lv []) c p [] :: fs) s₂) (fun e s' => Seg M A R Yp n s₀ c (Jx e) fs s') s₁) (fun e s' => Seg M A R Yp n s₀ c (Jx e) fs s') s)
    (hs : ∀ x, foldedSetIterable iter env x = pure x := by intro _; rfl) :
    Seg M A R Yp n s₀ c ((exec (.For tg iter body [] pos) env).wrap K Jx gd lv) fs s := by
  have e : exec (.For tg iter body [] pos) env = (standAt pos >>= fun _ => eval iter env) >>= fun x => (standAt iter.pos >>= fun _ => holding [x] (pyIter x)) >>= fun it => runOwn (.forLoop tg it body [] env) env := by
    rw [exec_For]
    simp only [hs]
    simp [bind_assoc]
  rw [e, Sem.bind_eq_wrap', Sem.wrap_wrap]
  refine seg_wrap (wpAny_bind (wpAny_standAt (wpAny_mono h (fun x s₁ h₁ => ?_) fun _ _ z => z)))
  rw [Sem.bind_eq_wrap', Sem.wrap_wrap]
  refine seg_wrap (wpAny_bind (wpAny_standAt (wpAny_holding (wpAny_mono h₁ (fun it s₂ h₂ => ?_) fun _ _ z => z))))
  exact seg_call h₂
end
section
variable {prog : Program} {w : World} {A : Around} {R : GenEnd} {Yp : Protocol} {n : Nat} {s₀ : Shared} {fs : List Frame} {s : Shared} {env : Env}
/-- what a loop's code does with an exception -/
abbrev LoopEx (env : Env) (e : Value) : Sem PySem.Fin := (do noteFrame e env; theTreesLotGoes e : Sem Unit).wrap (fun _ => .raise e) .raise id id
theorem seg_forLoopX {tg : Expr} {it : Value} {body : List Stmt}
    (h : wpAny (model prog w) (A.over (.forLoop tg it body [] env) fs) (pyNext it) (fun r s₁ => match r with
      | none => Seg (model prog w) A R Yp n s₀ (.block [] env) ((model prog w).den (.block [] env)) fs s₁
      | some v => wpAny (model prog w) (A.over (.forLoop tg it body [] env) fs) (letOwnedTupleGo tg it v) (fun _ s₂ =>
          wpAny (model prog w) (A.over (.forLoop tg it body [] env) fs) (assign tg env v) (fun _ s₃ => Seg (model prog w) A R Yp n s₀ (.forLoop tg it body [] env) ((execs body env).wrap (fun f => match f with
            | .next | .cont => .pure (.again (.forLoop tg it body [] env))
            | .brk => .pure (.done .next)
            | .ret v => .pure (.done (.ret v))) (LoopEx env) id id) fs s₃) (fun e s' => Seg (model prog w) A R Yp n s₀ (.forLoop tg it body [] env) (LoopEx env e) fs s') s₂) (fun e s' => Seg (model prog w) A R Yp n s₀ (.forLoop tg it body [] env) (LoopEx env e) fs s') s₁)
        (fun e s' => Seg (model prog w) A R Yp n s₀ (.forLoop tg it body [] env) (LoopEx env e) fs s') s) :
    Seg (model prog w) A R Yp n s₀ (.forLoop tg it body [] env) ((model prog w).den (.forLoop tg it body [] env)) fs s := by
  have lx : ∀ e, (fun e => (do noteFrame e env; theTreesLotGoes e : Sem Unit).bind (fun _ => (.raise e : Sem PySem.Fin))) e = LoopEx env e := fun e => Sem.bind_eq_wrap _ _
  show Seg _ A R Yp n s₀ _ ((forTurn tg it body [] env).onRaise (fun x => do noteFrame x env; theTreesLotGoes x)) fs s
  unfold forTurn
  rw [Sem.onRaise_eq_wrap, Sem.bind_eq_wrap', Sem.wrap_wrap]
  refine seg_wrap (wpAny_standAt ?_)
  rw [Sem.bind_eq_wrap', Sem.wrap_wrap]
  refine seg_wrap (wpAny_onRaise (wpAny_mono h (fun r s₁ h₁ => ?_) fun e s' z => wpAny_standAt ?_))
  · cases r with
    | none => exact seg_again rfl h₁
    | some v =>
      simp only
      rw [Sem.bind_eq_wrap', Sem.wrap_wrap]
      refine seg_wrap (wpAny_mono h₁ (fun _ s₂ h₂ => ?_) fun e s' z => ?_)
      · rw [Sem.bind_eq_wrap', Sem.wrap_wrap]
        refine seg_wrap (wpAny_mono h₂ (fun _ s₃ h₃ => ?_) fun e s' z => ?_)
        · rw [Sem.bind_eq_wrap', Sem.wrap_wrap]
          rw [Sem.wrap_congr (execs body env) _ _ (K' := fun f => match f with
            | .next | .cont => .pure (.again (.forLoop tg it body [] env))
            | .brk => .pure (.done .next)
            | .ret v => .pure (.done (.ret v))) (H' := LoopEx env)
            (fun f => by cases f <;> rfl)
            (fun e => by first | exact Sem.bind_eq_wrap _ _ | (show (do noteFrame e env; theTreesLotGoes e : Sem Unit).bind (fun _ => .raise e) = _; rw [Sem.bind_eq_wrap]))]
          exact h₃
        · rw [← lx e] at z; exact z
      · rw [← lx e] at z; exact z
  · rw [← lx e] at z; exact z
end
section
variable {X : Cx}
/-- W: the iterator's turn, a measure -/
def tGFor (wi : TI) (g : TG) (tb : TGn) : TGn := fun D ys σ H => wi σ H fun Ji H1 => ∃ W : Nat → Nat → List V → L2.St → Hp → Prop, (∃ m, W 0 m ys σ H1) ∧ ∀ j m ys σ H, W j m ys σ H →
  (Ji.stop j H ∧ D.nx ys σ H) ∨ (Ji.go j H ∧ ∃ N : List V → L2.St → Hp → Prop, (∀ ys' σ' H', N ys' σ' H' → ∃ m', m' < m ∧ W (j + 1) m' ys' σ' H') ∧ ∀ x H', Ji.yld j H x H' → g x σ H' fun σ2 H2 => tb { D with nx := N, ct := N, bk := D.nx } ys σ2 H2)
theorem gs_for {tg iter : Expr} {body : List Stmt} {pos : Pos} {wi : TI} {g : TG} {tb : TGn} (hp : PassesOwn (model X.prog X.w) X.A X.env X.xe) (hc : X.calm = true) (hi : PI X tg iter wi) (hg : PG X tg g) (hb : GSs X body tb)
    (hs : ∀ x, foldedSetIterable iter X.env x = pure x := by intro _; rfl) : GS X (.For tg iter body [] pos) (tGFor wi g tb) := by
  refine ⟨fun A S ip R n ys s₀ c fs K J gd lv s σ H D gc hn k hI ht => ?_⟩
  obtain ⟨acc, cc, r, I⟩ := hI
  refine seg_ForX ?_ hs
  rw [gc.over]
  refine wpAny_mono (hi.run _ s σ H _ I ht) (fun v s1 h1 => wpAny_mono h1 (fun itv s2 h2 => ?_) fun x s' hx => k.exc n s₀ x s' hx) fun x s' hx => k.exc n s₀ x s' hx
  obtain ⟨it, fp, tn, Ji, H2, e, I2, TT, st2, f2, W, ⟨m0, w0⟩, turn⟩ := h2
  subst e
  intro p
  have apS : ∀ b ∈ fp, b ≠ S := fun b hb z => (f2 b hb).2.2.2.2.2 (S, lstObj acc cc) (List.mem_append_right _ List.mem_cons_self) z.symm
  have gl := gc_loop (k := fun r => ((match r with | .ok f => (.pure f : Sem Flow) | .error e => .raise e).onRaise (cameBack X.env)).wrap K J gd lv) (c' := .forLoop tg (.ref it) body [] X.env) (l := lv []) (kp := []) (p := p) gc rfl rfl
  have stat : ∀ {H' : Hp} {acc' : Array Value} {cc' : Nat}, (∀ b ∈ fp, H' b = none) → ∀ b ∈ fp, FpOk X ((S, lstObj acc' cc') :: ip) H' b := fun {H' acc' cc'} hn b hb => by
    obtain ⟨_, q1, q2, q3, q4, q5⟩ := f2 b hb
    refine ⟨hn b hb, q1, q2, q3, q4, fun p hp => ?_⟩
    rcases List.mem_append.mp hp with z | z
    · exact q5 p (List.mem_append_left _ z)
    · rcases List.mem_cons.mp z with z | z
      · rw [z]; exact fun y => apS b hb y.symm
      · exact q5 p (List.mem_append_right _ (List.mem_cons_of_mem _ z))
  have loop : ∀ (m n j : Nat) (ys : List V) (s₀ s : Shared) (σ : L2.St) (H : Hp), n + ys.length = sizeLine → W j m ys σ H → GI X S ip ys σ H s → tn j s.heap → (∀ b ∈ fp, H b = none) →
      Seg (model X.prog X.w) A R (GY X S) n s₀ (.forLoop tg (.ref it) body [] X.env) ((model X.prog X.w).den (.forLoop tg (.ref it) body [] X.env))
        (.ret (fun r => ((match r with | .ok f => (.pure f : Sem Flow) | .error e => .raise e).onRaise (cameBack X.env)).wrap K J gd lv) none (gd false) (lv []) c p [] :: fs) s := by
    intro m
    induction m using Nat.strongRecOn with
    | ind m ih =>
      intro n j ys s₀ s σ H hn w hI st fr
      have ee : ∀ (n : Nat) (s₀ : Shared) (x : Value) (s' : Shared), X.xe x s' → Seg (model X.prog X.w) A R (GY X S) n s₀ (.forLoop tg (.ref it) body [] X.env) (LoopEx X.env x)
          (.ret (fun r => ((match r with | .ok f => (.pure f : Sem Flow) | .error e => .raise e).onRaise (cameBack X.env)).wrap K J gd lv) none (gd false) (lv []) c p [] :: fs) s' := fun n s₀ x s' hx => by
        refine seg_wrap ?_
        rw [gl.over]
        refine wpAny_bind (wpAny_mono (hp x s' hx) (fun _ s'' hcb => wpAny_theTreesLotGoes ?_) fun y s'' hcb => ?_)
        · exact seg_leaf (.error x) (seg_cameBack gc k hcb)
        · exact seg_leaf (.error y) (seg_cameBack gc k hcb)
      obtain ⟨acc, cc, r, I⟩ := hI
      apply seg_forLoopX
      rw [gl.over]
      rcases turn j m ys σ H w with ⟨stop, qn⟩ | ⟨go', N, hN, step⟩
      · refine wpAny_mono (TT.done X rfl rfl rfl hc j _ s σ H X.xe I (stat fr) st stop) (fun r4 s4 h4 => ?_) fun x s' hx => ee n s₀ x s' hx
        obtain ⟨hr, I4⟩ := h4
        subst hr
        exact seg_leaf (.ok .next) (k.ok n ys s₀ s4 .next hn ⟨σ, H, ⟨acc, cc, r, I4⟩, qn⟩)
      · refine wpAny_mono (TT.item X rfl rfl rfl hc j _ s σ H X.xe I (stat fr) st go') (fun r4 s4 h4 => ?_) fun x s' hx => ee n s₀ x s' hx
        obtain ⟨u, hr, h4⟩ := h4
        subst hr
        refine wpAny_mono h4 (fun _ s5 h5 => ?_) fun x s' hx => ee n s₀ x s' hx
        obtain ⟨x, H5, I5, r5, y5, st5, fr5⟩ := h5
        have I5' := I5.pinned (stat fr5) (TT.obj _ _ st5)
        refine wpAny_mono (hg.run _ s5 σ H5 x u _ I5' r5 (step x H5 y5)) (fun _ s6 h6 => ?_) fun x s' hx => ee n s₀ x s' hx
        obtain ⟨σ6, H6, I6, q6⟩ := h6
        have gl2 : GC X S (ip ++ pinsAt fp s5.heap) A (.forLoop tg (.ref it) body [] X.env) _ id := ⟨gl.pn, fun p hp => (List.mem_append.mp hp).elim (gl.ip p) fun z => apS p.1 (of_pinsAt z).1, gl.apart, gl.over, gl.split, gl.guard, gl.gd⟩
        refine hb.run A S (ip ++ pinsAt fp s5.heap) R n ys s₀ _ _ _ _ id id s6 σ6 H6 { D with nx := N, ct := N, bk := D.nx } gl2 hn ⟨fun n' ys' s₀' s7 f hn' hs => ?_, fun n' s₀' x s7 hx => ee n' s₀' x s7 hx⟩ ⟨acc, cc, r, I6⟩ q6
        have more : ∀ {σ7 : L2.St} {H7 : Hp}, GI X S (ip ++ pinsAt fp s5.heap) ys' σ7 H7 s7 → N ys' σ7 H7 → Seg (model X.prog X.w) A R (GY X S) n' s₀' (.forLoop tg (.ref it) body [] X.env) (.pure (.again (.forLoop tg (.ref it) body [] X.env)))
            (.ret (fun r => ((match r with | .ok f => (.pure f : Sem Flow) | .error e => .raise e).onRaise (cameBack X.env)).wrap K J gd lv) none (gd false) (lv []) c p [] :: fs) s7 := fun {σ7 H7} I7 n7 => by
          obtain ⟨acc7, cc7, r7, I7⟩ := I7
          obtain ⟨m', hm, w7⟩ := hN ys' σ7 H7 n7
          have st7 : tn (j + 1) s7.heap := TT.keep _ _ _ st5 fun b hb o e => (I7.pin (b, o) (List.mem_append_right _ (List.mem_cons_of_mem _ (List.mem_append_right _ (mem_pinsAt hb e))))).1
          have fr7 : ∀ b ∈ fp, H7 b = none := fun b hb => by
            obtain ⟨o, e, d⟩ := TT.obj _ _ st5 b hb
            exact (I7.pin (b, o) (List.mem_append_right _ (List.mem_cons_of_mem _ (List.mem_append_right _ (mem_pinsAt hb e))))).2.1
          have I7' : Inv X (((S, lstObj acc7 cc7) :: ip) ++ pinsAt fp s5.heap) σ7 H7 s7 := I7
          exact seg_again rfl (ih m' hm n' (j + 1) ys' s₀' s7 σ7 H7 hn' w7 ⟨acc7, cc7, r7, I7'.unpinned⟩ st7 fr7)
        have drop : ∀ {σ7 : L2.St} {H7 : Hp}, GI X S (ip ++ pinsAt fp s5.heap) ys' σ7 H7 s7 → GI X S ip ys' σ7 H7 s7 := fun {σ7 H7} ⟨acc7, cc7, r7, I7⟩ => by
          have I7' : Inv X (((S, lstObj acc7 cc7) :: ip) ++ pinsAt fp s5.heap) σ7 H7 s7 := I7
          exact ⟨acc7, cc7, r7, I7'.unpinned⟩
        cases f with
        | next => obtain ⟨σ7, H7, I7, n7⟩ := hs; exact more I7 n7
        | cont => obtain ⟨σ7, H7, I7, n7⟩ := hs; exact more I7 n7
        | brk =>
          obtain ⟨σ7, H7, I7, q7⟩ := hs
          exact seg_leaf (.ok .next) (k.ok n' ys' s₀' s7 .next hn' ⟨σ7, H7, drop I7, q7⟩)
        | ret v =>
          obtain ⟨x7, σ7, H7, I7, r7, q7⟩ := hs
          exact seg_leaf (.ok (.ret v)) (k.ok n' ys' s₀' s7 (.ret v) hn' ⟨x7, σ7, H7, drop I7, r7, q7⟩)
  exact loop m0 n 0 ys s₀ s2 σ H2 hn w0 ⟨acc, cc, r, I2⟩ st2 fun b hb => (f2 b hb).1
end
section
variable {P : Program} {w : World} {K : PySem.W.Frag} {mg : Str → Option Value} {base : Heap} {x qual : Str} {params : Arguments} {body : List Stmt} {scope : Scope} {dvs : List V} {kws : List (Str × V)} {f : Addr} {fd : FuncData}
/-- a generator def by the library's protocol -/
theorem gfn_ok {N ps : List Str} {k : Nat} {sp : SpG} (F : FunD K x qual params body scope dvs kws f fd) (S : GScope N ps scope) (len : ∀ vs H Q E, sp vs H Q E → vs.length = ps.length)
    (hbody : ∀ (cdv : Value) (A : Around) (outer : List Env) (s : Shared) (H : Hp) (vs : List V) (Q : List V → Hp → Prop) (E : XK) (pn : List (Addr × Obj)), Room k (A.deeper (envOfC qual scope s.heap.objs.size f cdv)) → sp vs H Q E →
      ∃ t, GSs (gcxOf P w K mg base N qual scope f cdv A outer s H E pn) body t ∧ t { nx := fun ys _ H' => Q ys H', rt := fun ys v H' => v = .non ∧ Q ys H' } [] (start N vs) H) : GFn P w K mg base (k + 1) f fd ps sp := by
  obtain ⟨oc, od, dV, kV, doc, pm, an, cdv, ct, osl, rfl, lk, hcd, _, _⟩ := F.ex
  exact gfn_of lk hcd S len fun A outer s H vs Q E pn hr hsp => hbody cdv A outer s H vs Q E pn hr hsp
end
end TF

/-! columns of digits: joins and meets place by place; core Lean alone -/
namespace TM
def bit (n j : Nat) : Nat := n / 2 ^ j % 2
theorem bit_lt (n j : Nat) : bit n j < 2 := Nat.mod_lt _ (by decide)
theorem digs2_get : ∀ (j n : Nat), (digs 2 n)[j]?.getD 0 = bit n j
  | j, 0 => by
    rw [digs_zero]
    unfold bit
    rw [Nat.zero_div]
    rfl
  | 0, n + 1 => by
    rw [digs_pos (by omega) (by omega)]
    show (n + 1) % 2 = (n + 1) / 2 ^ 0 % 2
    rw [Nat.pow_zero, Nat.div_one]
  | j + 1, n + 1 => by
    rw [digs_pos (by omega) (by omega)]
    show (digs 2 ((n + 1) / 2))[j]?.getD 0 = _
    rw [digs2_get j ((n + 1) / 2)]
    unfold bit
    rw [Nat.div_div_eq_div_mul, Nat.pow_succ, Nat.mul_comm 2]
theorem lt_len (n : Nat) : n < 2 ^ (digs 2 n).length := by
  have go : ∀ l : List Nat, (∀ d ∈ l, d < 2) → rd 2 l < 2 ^ l.length := by
    intro l
    induction l with
    | nil => intro _; show 0 < 1; omega
    | cons d l ih =>
      intro h
      have h1 := h d List.mem_cons_self
      have h2 := ih fun x hx => h x (List.mem_cons_of_mem _ hx)
      show d + 2 * rd 2 l < 2 ^ (l.length + 1)
      rw [Nat.pow_succ]
      omega
  have h := go _ (bits_lt n)
  rwa [rd_digs (by omega) n n (Nat.le_refl _)] at h
theorem rd_range (f : Nat → Nat) : ∀ L, rd 3 ((List.range L).map f) = sm L fun j => 3 ^ j * f j
  | 0 => rfl
  | L + 1 => by
    rw [List.range_succ, List.map_append, rd_append, rd_range f L, List.length_map, List.length_range]
    show _ + 3 ^ L * (f L + 3 * 0) = sm L _ + 3 ^ L * f L
    rw [Nat.mul_zero, Nat.add_zero]
theorem bit_test (n j : Nat) : bit n j = (n.testBit j).toNat := by
  unfold bit
  rw [Nat.testBit_eq_decide_div_mod_eq]
  have := Nat.mod_lt (n / 2 ^ j) (by decide : 0 < 2)
  by_cases h : n / 2 ^ j % 2 = 1
  · rw [decide_eq_true h, h]; rfl
  · rw [decide_eq_false h]
    show n / 2 ^ j % 2 = 0
    omega
theorem bit_or (a b j : Nat) : bit (a ||| b) j = max (bit a j) (bit b j) := by
  rw [bit_test, bit_test, bit_test, Nat.testBit_or]
  cases a.testBit j <;> cases b.testBit j <;> rfl
theorem bit_and (a b j : Nat) : bit (a &&& b) j = min (bit a j) (bit b j) := by
  rw [bit_test, bit_test, bit_test, Nat.testBit_and]
  cases a.testBit j <;> cases b.testBit j <;> rfl
theorem fold_or (j : Nat) : ∀ (ns : List Nat) (a : Nat), bit (ns.foldl (fun a b => a ||| b) a) j = (ns.map fun n => bit n j).foldl max (bit a j)
  | [], _ => rfl
  | n :: ns, a => by
    show bit (ns.foldl (fun a b => a ||| b) (a ||| n)) j = (ns.map fun n => bit n j).foldl max (max (bit a j) (bit n j))
    rw [fold_or j ns, bit_or]
theorem fold_and (j : Nat) : ∀ (ns : List Nat) (a : Nat), bit (ns.foldl (fun a b => a &&& b) a) j = (ns.map fun n => bit n j).foldl min (bit a j)
  | [], _ => rfl
  | n :: ns, a => by
    show bit (ns.foldl (fun a b => a &&& b) (a &&& n)) j = (ns.map fun n => bit n j).foldl min (min (bit a j) (bit n j))
    rw [fold_and j ns, bit_and]
theorem max_is : ∀ (l : List Nat) (a m : Nat), (m ∈ l ∨ m = a) → a ≤ m → (∀ x ∈ l, x ≤ m) → l.foldl max a = m
  | [], a, m, h, _, _ => by
    rcases h with h | h
    · cases h
    · exact h.symm
  | x :: l, a, m, h, ha, hl => by
    have hx := hl x List.mem_cons_self
    refine max_is l (max a x) m ?_ (by omega) fun y hy => hl y (List.mem_cons_of_mem _ hy)
    rcases h with h | h
    · rcases List.mem_cons.mp h with e | e
      · exact .inr (by omega)
      · exact .inl e
    · exact .inr (by omega)
theorem min_is : ∀ (l : List Nat) (a m : Nat), (m ∈ l ∨ m = a) → m ≤ a → (∀ x ∈ l, m ≤ x) → l.foldl min a = m
  | [], a, m, h, _, _ => by
    rcases h with h | h
    · cases h
    · exact h.symm
  | x :: l, a, m, h, ha, hl => by
    have hx := hl x List.mem_cons_self
    refine min_is l (min a x) m ?_ (by omega) fun y hy => hl y (List.mem_cons_of_mem _ hy)
    rcases h with h | h
    · rcases List.mem_cons.mp h with e | e
      · exact .inr (by omega)
      · exact .inl e
    · exact .inr (by omega)
/-- the join's and the meet's number -/
def orL (ns : List Nat) : Nat := ns.foldl (fun a b => a ||| b) 0
def andL (m : Nat) (ns : List Nat) : Nat := (m :: ns).foldl (fun a b => a &&& b) m
theorem bit_zero (j : Nat) : bit 0 j = 0 := by unfold bit; rw [Nat.zero_div]
theorem col_max {ns : List Nat} {j m : Nat} (h : m ∈ ns.map fun n => bit n j) (hl : ∀ x ∈ ns.map fun n => bit n j, x ≤ m) : m = bit (orL ns) j := by
  unfold orL
  rw [fold_or, bit_zero]
  exact (max_is _ 0 m (.inl h) (Nat.zero_le _) hl).symm
theorem col_min {k : Nat} {ns : List Nat} {j m : Nat} (h : m ∈ (k :: ns).map fun n => bit n j) (hl : ∀ x ∈ (k :: ns).map fun n => bit n j, m ≤ x) : m = bit (andL k ns) j := by
  unfold andL
  rw [fold_and]
  exact (min_is _ _ m (.inl h) (hl _ List.mem_cons_self) hl).symm
theorem read_col {n L : Nat} (h : n < 2 ^ L) : rd 3 ((List.range L).map fun j => bit n j) = B n := by
  rw [rd_range]
  exact sm_bits L n h
theorem orL_lt {ns : List Nat} {L : Nat} (h : ∀ n ∈ ns, n < 2 ^ L) : orL ns < 2 ^ L := by
  have go : ∀ (ns : List Nat) (a : Nat), a < 2 ^ L → (∀ n ∈ ns, n < 2 ^ L) → ns.foldl (fun a b => a ||| b) a < 2 ^ L := by
    intro ns
    induction ns with
    | nil => intro a h _; exact h
    | cons n ns ih => intro a h hn; exact ih (a ||| n) (Nat.or_lt_two_pow h (hn n List.mem_cons_self)) fun x hx => hn x (List.mem_cons_of_mem _ hx)
  exact go ns 0 (Nat.two_pow_pos _) h
theorem andL_le (m : Nat) (ns : List Nat) : andL m ns ≤ m := by
  have go : ∀ (ns : List Nat) (a : Nat), ns.foldl (fun a b => a &&& b) a ≤ a := by
    intro ns
    induction ns with
    | nil => intro a; exact Nat.le_refl _
    | cons n ns ih => intro a; exact Nat.le_trans (ih (a &&& n)) Nat.and_le_left
  exact go _ _
theorem rd_lt3 : ∀ l : List Nat, (∀ d ∈ l, d < 3) → rd 3 l < 3 ^ l.length
  | [], _ => by show 0 < 1; omega
  | d :: l, h => by
    have h1 := h d List.mem_cons_self
    have h2 := rd_lt3 l fun x hx => h x (List.mem_cons_of_mem _ hx)
    show d + 3 * rd 3 l < 3 ^ (l.length + 1)
    rw [Nat.pow_succ]
    omega
theorem rd_drop3 {l : List Nat} {i d : Nat} (h : l[i]? = some d) : rd 3 (l.drop i) = d + 3 * rd 3 (l.drop (i + 1)) := by
  obtain ⟨hi, rfl⟩ := List.getElem?_eq_some_iff.mp h
  rw [List.drop_eq_getElem_cons hi]
  rfl
end TM

/-! differences by digits: core Lean alone -/
namespace TM
/-- 1, 4, 13, ..: the number whose s digits are all 1 -/
def hs : Nat → Nat
  | 0 => 0
  | s + 1 => 1 + 3 * hs s
theorem hs_pow : ∀ s, 2 * hs s + 1 = 3 ^ s
  | 0 => rfl
  | s + 1 => by
    show 2 * (1 + 3 * hs s) + 1 = 3 ^ (s + 1)
    have := hs_pow s
    rw [Nat.pow_succ]
    omega
theorem rd_ones : ∀ s, rd 3 (List.replicate s 1) = hs s
  | 0 => rfl
  | s + 1 => by
    rw [List.replicate_succ]
    show 1 + 3 * rd 3 (List.replicate s 1) = 1 + 3 * hs s
    rw [rd_ones s]
def tw (d : Nat) : Nat := if d = 2 then 1 else 0
def tz (d : Nat) : Nat := if d = 0 then 1 else 0
theorem dx_all (d : Int) : dx d = (if d % 3 = 1 then 1 else 0) + 3 * dx ((d + 1) / 3) := by
  by_cases h : d = 0
  · subst h; rfl
  · exact dx_step h
theorem dy_all (d : Int) : dy d = (if d % 3 = 2 then 1 else 0) + 3 * dy ((d + 1) / 3) := by
  by_cases h : d = 0
  · subst h; rfl
  · exact dy_step h
theorem diff_digits : ∀ (s : Nat) (d : Int), d.natAbs ≤ hs s → rd 3 ((pad s (d + hs s).toNat).map tw) = dx d ∧ rd 3 ((pad s (d + hs s).toNat).map tz) = dy d
  | 0, d, h => by
    have e : d = 0 := by
      have : d.natAbs ≤ 0 := h
      omega
    subst e
    exact ⟨rfl, rfl⟩
  | s + 1, d, h => by
    have h' : d.natAbs ≤ 1 + 3 * hs s := h
    have e : ((hs (s + 1) : Nat) : Int) = 1 + 3 * (hs s : Int) := by
      show ((1 + 3 * hs s : Nat) : Int) = _
      omega
    have hq : ((d + 1) / 3).natAbs ≤ hs s := by omega
    obtain ⟨i1, i2⟩ := diff_digits s ((d + 1) / 3) hq
    have ev : (d + hs (s + 1)).toNat / 3 = ((d + 1) / 3 + hs s).toNat := by rw [e]; omega
    have em : (d + hs (s + 1)).toNat % 3 = ((d + 1) % 3).toNat := by rw [e]; omega
    show rd 3 (((d + hs (s + 1)).toNat % 3 :: pad s ((d + hs (s + 1)).toNat / 3)).map tw) = _ ∧ rd 3 (((d + hs (s + 1)).toNat % 3 :: pad s ((d + hs (s + 1)).toNat / 3)).map tz) = _
    rw [ev, em, List.map_cons, List.map_cons, dx_all, dy_all]
    show tw ((d + 1) % 3).toNat + 3 * rd 3 _ = _ ∧ tz ((d + 1) % 3).toNat + 3 * rd 3 _ = _
    rw [i1, i2]
    unfold tw tz
    constructor
    · congr 1
      by_cases h1 : d % 3 = 1
      · rw [if_pos (by omega), if_pos h1]
      · rw [if_neg (by omega), if_neg h1]
    · congr 1
      by_cases h1 : d % 3 = 2
      · rw [if_pos (by omega), if_pos h1]
      · rw [if_neg (by omega), if_neg h1]
theorem pad_digs : ∀ (s v : Nat), v < 3 ^ s → pad s v = digs 3 v ++ List.replicate (s - (digs 3 v).length) 0 ∧ (digs 3 v).length ≤ s
  | 0, v, h => by
    have e : v = 0 := by
      have : v < 1 := h
      omega
    subst e
    exact ⟨rfl, Nat.le_refl _⟩
  | s + 1, v, h => by
    by_cases h0 : v = 0
    · subst h0
      have z : ∀ s, pad s 0 = List.replicate s 0 := by
        intro s
        induction s with
        | zero => rfl
        | succ s ih => show 0 % 3 :: pad s (0 / 3) = _; rw [List.replicate_succ]; exact congrArg (0 :: ·) ih
      rw [z, digs_zero]
      exact ⟨rfl, Nat.zero_le _⟩
    · have hv : v / 3 < 3 ^ s := by
        rw [Nat.pow_succ] at h
        omega
      obtain ⟨i1, i2⟩ := pad_digs s (v / 3) hv
      rw [digs_pos (by omega) (by omega)]
      show v % 3 :: pad s (v / 3) = _ ∧ _
      rw [i1, List.length_cons]
      refine ⟨?_, by omega⟩
      rw [show s + 1 - ((digs 3 (v / 3)).length + 1) = s - (digs 3 (v / 3)).length by omega]
      rfl
theorem lt_len3 (n : Nat) : n < 3 ^ (digs 3 n).length := by
  have h := rd_lt3 _ (digs_lt3 n)
  rwa [rd_digs (by omega) n n (Nat.le_refl _)] at h
theorem cs_rep (k d : Nat) : cs (List.replicate k d) = List.replicate k (d + 48) := by
  unfold cs
  rw [List.reverse_replicate, List.map_replicate]
theorem cs_map (f g : Nat → Nat) (ds : List Nat) (h : ∀ d ∈ ds, g (d + 48) = f d + 48) : (cs ds).map g = cs (ds.map f) := by
  unfold cs
  rw [List.map_map, ← List.map_reverse, List.map_map]
  refine List.map_congr_left fun d hd => ?_
  exact h d (List.mem_reverse.mp hd)
theorem diff_size (d : Int) : d.natAbs ≤ hs ((digs 3 d.natAbs).length + 1) := by
  have h1 := lt_len3 d.natAbs
  have h2 := hs_pow (digs 3 d.natAbs).length
  show d.natAbs ≤ 1 + 3 * hs _
  omega
end TM

namespace TM
/-! the most significant digit 2 -/
theorem last_two : ∀ l : List Nat, 2 ∈ l → ∃ lo hi, l = lo ++ 2 :: hi ∧ 2 ∉ hi
  | [], h => by cases h
  | x :: l, h => by
    by_cases z : 2 ∈ l
    · obtain ⟨lo, hi, e, hn⟩ := last_two l z
      exact ⟨x :: lo, hi, by rw [e]; rfl, hn⟩
    · rcases List.mem_cons.mp h with e | e
      · subst e; exact ⟨[], l, rfl, z⟩
      · exact absurd e z
theorem rd_zeros (r : Nat) : ∀ k, rd r (List.replicate k 0) = 0
  | 0 => rfl
  | k + 1 => by
    show 0 + r * rd r (List.replicate k 0) = 0
    rw [rd_zeros r k]; omega
theorem rd_lt_pow : ∀ l : List Nat, (∀ d ∈ l, d < 3) → rd 3 l < 3 ^ l.length
  | [], _ => Nat.one_pos
  | d :: l, h => by
    have ih := rd_lt_pow l fun x hx => h x (List.mem_cons_of_mem _ hx)
    have hd := h d List.mem_cons_self
    rw [List.length_cons, Nat.pow_succ]
    show d + 3 * rd 3 l < _
    omega
/-- a number that is not plain: low digits, a 2, plain ones above -/
structure Two (n : Nat) (lo hi : List Nat) : Prop where
  digs : digs 3 n = lo ++ 2 :: hi
  lo3 : ∀ d ∈ lo, d < 3
  hi2 : ∀ d ∈ hi, d < 2
  val : n = rd 3 lo + 3 ^ lo.length * (2 + 3 * rd 3 hi)
  plain : plain (rd 3 hi)
  bits : rd 2 hi = R (rd 3 hi)
theorem two_of {n : Nat} (h : ¬ plain n) : ∃ lo hi, Two n lo hi := by
  have h2 : 2 ∈ TM.digs 3 n := Classical.byContradiction fun z => h z
  obtain ⟨lo, hi, e, hn⟩ := last_two _ h2
  have d3 := digs_lt3 n
  have hi2 : ∀ d ∈ hi, d < 2 := fun d hd => by
    have h3 := d3 d (by rw [e]; exact List.mem_append_right _ (List.mem_cons_of_mem _ hd))
    have : d ≠ 2 := fun z => hn (z ▸ hd)
    omega
  obtain ⟨k, hk⟩ := digs_rd (r := 3) (by decide) hi fun d hd => Nat.lt_of_lt_of_le (hi2 d hd) (by decide)
  have hp : TM.plain (rd 3 hi) := fun z => hn (by rw [hk]; exact List.mem_append_left _ z)
  refine ⟨lo, hi, e, fun d hd => d3 d (by rw [e]; exact List.mem_append_left _ hd), hi2, ?_, hp, ?_⟩
  · have v := rd_digs (r := 3) (by decide) n n (Nat.le_refl _)
    rw [e, rd_append] at v
    exact v.symm
  · have b := rd_bits _ hp
    have q := congrArg (rd 2) hk
    rw [rd_append, rd_zeros, b] at q
    omega
theorem Two.rank {n : Nat} {lo hi : List Nat} (t : Two n lo hi) : R n = (rd 2 hi + 1) * 2 ^ (lo.length + 1) := by
  have h := (R_two t.plain lo.length (rd 3 lo) (rd_lt_pow lo t.lo3)).1
  rw [← t.val] at h
  rw [h, t.bits]
theorem rd_rep1 : ∀ p, 2 * rd 3 (List.replicate p 1) + 1 = 3 ^ p
  | 0 => rfl
  | p + 1 => by
    have ih := rd_rep1 p
    rw [Nat.pow_succ]
    show 2 * (1 + 3 * rd 3 (List.replicate p 1)) + 1 = _
    omega
theorem B_shift (p : Nat) : ∀ m, B (m * 2 ^ p) = 3 ^ p * B m := by
  induction p with
  | zero => intro m; simp
  | succ p ih =>
    intro m
    rw [Nat.pow_succ, ← Nat.mul_assoc, Nat.mul_comm _ 2, B_even, ih, Nat.pow_succ]
    rw [← Nat.mul_assoc, Nat.mul_comm 3]
theorem B_low (p : Nat) : ∀ (m x : Nat), x < 2 ^ p → B (m * 2 ^ p + x) = 3 ^ p * B m + B x := by
  induction p with
  | zero => intro m x h; have : x = 0 := by omega
            subst this; simp [B_zero]
  | succ p ih =>
    intro m x h
    have hx : x = x % 2 + 2 * (x / 2) := by omega
    have h2 : x / 2 < 2 ^ p := by rw [Nat.pow_succ] at h; omega
    have e : m * 2 ^ (p + 1) + x = x % 2 + 2 * (m * 2 ^ p + x / 2) := by
      rw [Nat.pow_succ, ← Nat.mul_assoc]; omega
    rw [e, B_step (by omega), ih m (x / 2) h2]
    have hb : B x = x % 2 + 3 * B (x / 2) := by
      have := B_step (b := x % 2) (n := x / 2) (by omega)
      rw [← hx] at this; exact this
    rw [hb, Nat.pow_succ, Nat.mul_add, ← Nat.mul_assoc, Nat.mul_comm 3 (3 ^ p)]
    omega
/-- the member before -/
theorem Two.last {n : Nat} {lo hi : List Nat} (t : Two n lo hi) : rd 3 (List.replicate (lo.length + 1) 1 ++ hi) = B (R n - 1) := by
  rw [t.rank, rd_append, List.length_replicate, t.bits]
  have hp : 0 < 2 ^ (lo.length + 1) := Nat.two_pow_pos _
  rw [show (R (rd 3 hi) + 1) * 2 ^ (lo.length + 1) - 1 = R (rd 3 hi) * 2 ^ (lo.length + 1) + (2 ^ (lo.length + 1) - 1) by
    rw [Nat.add_mul]; omega]
  rw [B_low _ _ _ (by omega)]
  have h1 := rd_rep1 (lo.length + 1)
  have h2 := B_full (lo.length + 1)
  obtain ⟨r, hr⟩ := plain_B _ t.plain
  have h3 : B (R (rd 3 hi)) = rd 3 hi := by rw [← hr, R_B]
  rw [h3]
  omega
end TM

namespace TM
/-! ### cells and what they rule -/
/-- from lo on ascending, below N -/
def up (N : Nat) : Nat → List Nat → Bool
  | _, [] => true
  | lo, a :: r => decide (lo ≤ a) && (decide (a < N) && up N (a + 1) r)
theorem up_ge {N : Nat} : ∀ {l : List Nat} {lo : Nat}, up N lo l = true → ∀ a ∈ l, lo ≤ a ∧ a < N
  | [], _, _, _, h => nomatch h
  | b :: r, lo, hu, a, h => by
    simp only [up, Bool.and_eq_true, decide_eq_true_eq] at hu
    rcases List.mem_cons.mp h with e | e
    · rw [e]; exact ⟨hu.1, hu.2.1⟩
    · have := up_ge hu.2.2 a e
      omega
theorem up_get {N : Nat} : ∀ {l : List Nat} {lo : Nat}, up N lo l = true → ∀ i j, i < j → j < l.length → l.getD i 0 < l.getD j 0
  | [], _, _, _, _, _, h => by simp at h
  | b :: r, lo, hu, i, j, hij, hj => by
    simp only [up, Bool.and_eq_true, decide_eq_true_eq] at hu
    cases j with
    | zero => omega
    | succ j =>
      have hj2 : j < r.length := by simpa using hj
      cases i with
      | zero =>
        have hm : r.getD j 0 ∈ r := by
          rw [List.getD_eq_getElem?_getD, List.getElem?_eq_getElem hj2]
          exact List.getElem_mem hj2
        have := up_ge hu.2.2 _ hm
        show b < r.getD j 0
        omega
      | succ i => exact up_get hu.2.2 i j (by omega) hj2
theorem up_pw {N : Nat} : ∀ {l : List Nat} {lo : Nat}, up N lo l = true → l.Pairwise (· < ·)
  | [], _, _ => .nil
  | b :: r, lo, hu => by
    simp only [up, Bool.and_eq_true, decide_eq_true_eq] at hu
    refine .cons (fun a ha => ?_) (up_pw hu.2.2)
    have := up_ge hu.2.2 a ha
    omega
/-- the members of a cell below r -/
def cb (ms : List Nat) (r : Nat) : Nat := (ms.filter fun a => decide (a < r)).length
theorem cb_le (ms : List Nat) (r : Nat) : cb ms r ≤ ms.length := List.length_filter_le _ _
theorem cb_iff {N : Nat} : ∀ {l : List Nat} {lo : Nat}, up N lo l = true → ∀ r j, j < l.length → (j < cb l r ↔ l.getD j 0 < r)
  | [], _, _, _, _, h => by simp at h
  | b :: t, lo, hu, r, j, hj => by
    have hu' := hu
    simp only [up, Bool.and_eq_true, decide_eq_true_eq] at hu
    unfold cb
    by_cases hb : b < r
    · rw [List.filter_cons_of_pos (by simpa using hb), List.length_cons]
      cases j with
      | zero => exact ⟨fun _ => hb, fun _ => by omega⟩
      | succ j =>
        have := cb_iff hu.2.2 r j (by simpa using hj)
        unfold cb at this
        show j + 1 < _ + 1 ↔ t.getD j 0 < r
        omega
    · rw [List.filter_cons_of_neg (by simpa using hb)]
      have h0 : t.filter (fun a => decide (a < r)) = [] := by
        rw [List.filter_eq_nil_iff]
        intro a ha
        have := up_ge hu.2.2 a ha
        simp only [decide_eq_true_eq]
        omega
      rw [h0]
      refine ⟨fun h => by simp at h, fun h => ?_⟩
      have h1 : b ≤ (b :: t).getD j 0 := by
        cases j with
        | zero => exact Nat.le_refl _
        | succ j => exact Nat.le_of_lt (up_get hu' 0 (j + 1) (by omega) hj)
      omega
theorem cb_uniq {N lo : Nat} {l : List Nat} (hu : up N lo l = true) (r c : Nat) (hc : c ≤ l.length) (h1 : ∀ j, j < c → l.getD j 0 < r) (h2 : ∀ j, c ≤ j → j < l.length → r ≤ l.getD j 0) : c = cb l r := by
  have h3 := cb_le l r
  rcases Nat.lt_trichotomy c (cb l r) with h | h | h
  · have := (cb_iff hu r c (by omega)).mp h
    have := h2 c (Nat.le_refl _) (by omega)
    omega
  · exact h
  · have := (cb_iff hu r (cb l r) (by omega)).mpr (h1 _ h)
    omega
/-- member number n -/
def A (N : Nat) (ms : List Nat) (n : Nat) : Nat := ms.getD (n % ms.length) 0 + N * B (n / ms.length)
/-- the number of members below x -/
def RK (N : Nat) (ms : List Nat) (x : Nat) : Nat := ms.length * R (x / N) + (if plain (x / N) then cb ms (x % N) else 0)
/-- x is a member -/
def Mem (N : Nat) (ms : List Nat) (x : Nat) : Prop := x % N ∈ ms ∧ plain (x / N)
instance {N : Nat} {ms : List Nat} {x : Nat} : Decidable (Mem N ms x) := inferInstanceAs (Decidable (_ ∧ _))
structure CellM (N : Nat) (ms : List Nat) : Prop where
  up : up N 0 ms = true
  ne : ms ≠ []
section
variable {N : Nat} {ms : List Nat}
theorem CellM.pos (c : CellM N ms) : 0 < ms.length := List.length_pos_iff.mpr c.ne
theorem CellM.get (c : CellM N ms) {j : Nat} (hj : j < ms.length) : ms.getD j 0 ∈ ms := by
  rw [List.getD_eq_getElem?_getD, List.getElem?_eq_getElem hj]
  exact List.getElem_mem hj
theorem CellM.lt (c : CellM N ms) {j : Nat} (hj : j < ms.length) : ms.getD j 0 < N := (up_ge c.up _ (c.get hj)).2
theorem CellM.npos (c : CellM N ms) : 0 < N := by
  have := c.lt c.pos
  omega
theorem CellM.split (c : CellM N ms) {j m : Nat} (hj : j < ms.length) : A N ms (ms.length * m + j) = ms.getD j 0 + N * B m := by
  unfold A
  rw [show (ms.length * m + j) % ms.length = j by rw [Nat.mul_add_mod]; exact Nat.mod_eq_of_lt hj,
    show (ms.length * m + j) / ms.length = m by rw [Nat.mul_add_div c.pos, Nat.div_eq_of_lt hj]; omega]
theorem CellM.nat (c : CellM N ms) (n : Nat) : ∃ m j, j < ms.length ∧ n = ms.length * m + j :=
  ⟨n / ms.length, n % ms.length, Nat.mod_lt _ c.pos, (Nat.div_add_mod n ms.length).symm⟩
theorem CellM.RK_iff (c : CellM N ms) (n x : Nat) : A N ms n < x ↔ n < RK N ms x := by
  obtain ⟨m, j, hj, rfl⟩ := c.nat n
  rw [c.split hj]
  have hN := c.npos
  have ha := c.lt hj
  unfold RK
  have hx := Nat.div_add_mod x N
  have hr := Nat.mod_lt x hN
  generalize x / N = q at *
  generalize x % N = r at *
  have hi := R_iff q m
  rcases Nat.lt_trichotomy (B m) q with h | h | h
  · have h1 := hi.mp h
    have h2 : ms.length * (m + 1) ≤ ms.length * R q := Nat.mul_le_mul_left _ h1
    have h3 : N * (B m + 1) ≤ N * q := Nat.mul_le_mul_left _ h
    rw [Nat.mul_add] at h2 h3
    constructor
    · intro _; omega
    · intro _; omega
  · have hp : plain q := h ▸ B_plain m
    rw [if_pos hp, ← h, R_B]
    have := cb_iff c.up r j hj
    rw [← h] at hx
    constructor
    · intro h1
      have := this.mpr (by omega)
      omega
    · intro h1
      have := this.mp (by omega)
      omega
  · have h3 : N * (q + 1) ≤ N * B m := Nat.mul_le_mul_left _ h
    rw [Nat.mul_add] at h3
    have h4 : ¬ m < R q := fun z => by have := hi.mpr z; omega
    constructor
    · intro h1; omega
    · intro h1
      exfalso
      by_cases hp : plain q
      · rw [if_pos hp] at h1
        obtain ⟨t, rfl⟩ := plain_B q hp
        rw [R_B] at h1 h4
        have h5 : t < m := by
          rcases Nat.lt_or_ge t m with z | z
          · exact z
          · have := B_mono z
            omega
        have h6 : ms.length * (t + 1) ≤ ms.length * m := Nat.mul_le_mul_left _ h5
        have := cb_le ms r
        rw [Nat.mul_add] at h6
        omega
      · rw [if_neg hp] at h1
        have h6 : ms.length * R q ≤ ms.length * m := Nat.mul_le_mul_left _ (by omega)
        omega
theorem lt_ext {a b : Nat} (h : ∀ m, m < a ↔ m < b) : a = b := by
  rcases Nat.lt_trichotomy a b with z | z | z
  · have := (h a).mpr z; omega
  · exact z
  · have := (h b).mp z; omega
theorem CellM.A_lt (c : CellM N ms) {n m : Nat} (h : n < m) : A N ms n < A N ms m := by
  obtain ⟨p, i, hi, rfl⟩ := c.nat n
  obtain ⟨q, j, hj, rfl⟩ := c.nat m
  rw [c.split hi, c.split hj]
  have h1 := c.lt hi
  rcases Nat.lt_trichotomy p q with z | z | z
  · have h3 : N * (B p + 1) ≤ N * B q := Nat.mul_le_mul_left _ (B_lt z)
    rw [Nat.mul_add] at h3
    omega
  · subst z
    have := up_get c.up i j (by omega) hj
    omega
  · have h3 : ms.length * (q + 1) ≤ ms.length * p := Nat.mul_le_mul_left _ z
    rw [Nat.mul_add] at h3
    omega
theorem CellM.A_iff (c : CellM N ms) {n m : Nat} : A N ms n < A N ms m ↔ n < m := by
  refine ⟨fun h => ?_, c.A_lt⟩
  rcases Nat.lt_trichotomy n m with z | z | z
  · exact z
  · subst z; omega
  · have := c.A_lt z; omega
theorem CellM.RK_A (c : CellM N ms) (n : Nat) : RK N ms (A N ms n) = n := lt_ext fun m => by rw [← c.RK_iff, c.A_iff]
theorem CellM.RK_A1 (c : CellM N ms) (n : Nat) : RK N ms (A N ms n + 1) = n + 1 := lt_ext fun m => by
  rw [← c.RK_iff]
  have := c.A_iff (n := n) (m := m)
  omega
theorem CellM.mem_iff (c : CellM N ms) (x : Nat) : Mem N ms x ↔ ∃ n, A N ms n = x := by
  have hN := c.npos
  constructor
  · rintro ⟨h1, h2⟩
    obtain ⟨m, hm⟩ := plain_B _ h2
    obtain ⟨j, hj, e⟩ := List.getElem_of_mem h1
    refine ⟨ms.length * m + j, ?_⟩
    rw [c.split hj, hm, List.getD_eq_getElem?_getD, List.getElem?_eq_getElem hj, Option.getD_some, e]
    have := Nat.div_add_mod x N
    omega
  · rintro ⟨n, rfl⟩
    obtain ⟨m, j, hj, rfl⟩ := c.nat n
    rw [c.split hj]
    have h1 := c.lt hj
    refine ⟨?_, ?_⟩
    · rw [Nat.add_mul_mod_self_left, Nat.mod_eq_of_lt h1]
      exact c.get hj
    · rw [Nat.add_mul_div_left _ _ hN, Nat.div_eq_of_lt h1, Nat.zero_add]
      exact B_plain m
theorem CellM.RK_one (c : CellM N ms) (x : Nat) : RK N ms (x + 1) = RK N ms x + (if Mem N ms x then 1 else 0) := by
  by_cases h : Mem N ms x
  · rw [if_pos h]
    obtain ⟨n, rfl⟩ := (c.mem_iff x).mp h
    rw [c.RK_A1, c.RK_A]
  · rw [if_neg h]
    refine lt_ext fun m => ?_
    refine (c.RK_iff m (x + 1)).symm.trans (Iff.trans ?_ (c.RK_iff m x))
    have : A N ms m ≠ x := fun z => h ((c.mem_iff x).mpr ⟨m, z⟩)
    omega
theorem CellM.next (c : CellM N ms) (x : Nat) : x < A N ms (RK N ms (x + 1)) := by
  have h : ¬ A N ms (RK N ms (x + 1)) < x + 1 := fun z => by
    have := (c.RK_iff _ _).mp z
    omega
  omega
theorem CellM.last (c : CellM N ms) {x : Nat} (h : 0 < RK N ms (x + 1)) : A N ms (RK N ms (x + 1) - 1) ≤ x := by
  have := (c.RK_iff (RK N ms (x + 1) - 1) (x + 1)).mpr (by omega)
  omega
theorem CellM.last_eq (c : CellM N ms) {x : Nat} (h : 0 < RK N ms (x + 1)) : A N ms (RK N ms (x + 1) - 1) = x ↔ Mem N ms x := by
  constructor
  · intro e
    exact (c.mem_iff x).mpr ⟨_, e⟩
  · intro hm
    obtain ⟨n, rfl⟩ := (c.mem_iff x).mp hm
    rw [c.RK_A1]
    rfl
theorem CellM.mem_pos (c : CellM N ms) {x : Nat} (h : Mem N ms x) : 0 < RK N ms (x + 1) := by
  rw [c.RK_one, if_pos h]
  omega
/-! blocks -/
theorem pow_plain (e : Nat) : B (2 ^ e) = 3 ^ e := by
  have := B_high e 0 (Nat.pow_pos (by decide))
  rw [Nat.add_zero, B_zero, Nat.add_zero] at this
  exact this
theorem cb_zero (ms : List Nat) : cb ms 0 = 0 := by
  unfold cb
  rw [List.length_eq_zero_iff, List.filter_eq_nil_iff]
  intro a _
  simp
theorem CellM.block (c : CellM N ms) (e : Nat) {n : Nat} (h : n < ms.length * 2 ^ e) : A N ms (n + ms.length * 2 ^ e) = A N ms n + N * 3 ^ e := by
  obtain ⟨m, j, hj, rfl⟩ := c.nat n
  have hm : m < 2 ^ e := by
    rcases Nat.lt_or_ge m (2 ^ e) with z | z
    · exact z
    · have : ms.length * 2 ^ e ≤ ms.length * m := Nat.mul_le_mul_left _ z
      omega
  rw [show ms.length * m + j + ms.length * 2 ^ e = ms.length * (2 ^ e + m) + j by rw [Nat.mul_add]; omega, c.split hj, c.split hj, B_high e m hm, Nat.mul_add]
  omega
theorem CellM.RK_pow (c : CellM N ms) (e : Nat) : RK N ms (N * 3 ^ e) = ms.length * 2 ^ e := by
  have hN := c.npos
  unfold RK
  rw [Nat.mul_div_cancel_left _ hN, Nat.mul_mod_right, cb_zero, ← pow_plain, R_B]
  simp
theorem CellM.RK_pow2 (c : CellM N ms) (e : Nat) : RK N ms (2 * (N * 3 ^ e)) = 2 * (ms.length * 2 ^ e) := by
  have hN := c.npos
  have h := R_two plain_zero e 0 (Nat.pow_pos (by decide))
  rw [Nat.zero_add, R_zero, Nat.mul_zero, Nat.add_zero] at h
  unfold RK
  rw [show 2 * (N * 3 ^ e) = N * (3 ^ e * 2) by rw [Nat.mul_left_comm, Nat.mul_comm 2 (3 ^ e)], Nat.mul_div_cancel_left _ hN, Nat.mul_mod_right, h.1, if_neg h.2, Nat.pow_succ]
  rw [Nat.zero_add, Nat.one_mul, Nat.add_zero, Nat.mul_comm (2 ^ e) 2, Nat.mul_left_comm]
theorem CellM.RK_pow3 (c : CellM N ms) (e : Nat) : RK N ms (3 * (N * 3 ^ e)) = 2 * (ms.length * 2 ^ e) := by
  have h := c.RK_pow (e + 1)
  rw [show 3 * (N * 3 ^ e) = N * 3 ^ (e + 1) by rw [Nat.pow_succ, Nat.mul_left_comm, Nat.mul_comm 3], h, Nat.pow_succ, ← Nat.mul_assoc, Nat.mul_comm 2]
theorem CellM.RK_le (c : CellM N ms) (x : Nat) : RK N ms x ≤ ms.length * (x + 1) := by
  unfold RK
  have h1 := R_le (x / N)
  have h2 : x / N ≤ x := Nat.div_le_self _ _
  have h3 := cb_le ms (x % N)
  have h4 : ms.length * R (x / N) ≤ ms.length * x := Nat.mul_le_mul_left _ (by omega)
  rw [Nat.mul_add]
  split <;> omega
end
end TM

namespace TM
/-! ### the cells that are drawn -/
def small : List (Nat × List Nat) := [(3, [0, 1]), (3, [1, 2]), (3, [0, 2]), (10, [0, 1, 7, 8]), (9, [0, 3, 4, 7]), (1, [0])]
/-- the product -/
def jn (f o : Nat × List Nat) : Nat × List Nat := (f.1 * o.1, o.2.flatMap fun h => f.2.map fun l => l + f.1 * h)
def bitsN (b : Nat) : List Nat → Nat
  | [] => b
  | a :: r => bitsN (b ||| 2 ^ a) r
/-- moved by 2 z - g places -/
def mvN (w z g : Nat) : Nat := if 2 * z < g then w / 2 ^ (g - 2 * z) else w * 2 ^ (2 * z - g)
def covN (g c w : Nat) : List Nat → Nat
  | [] => c
  | z :: r => covN g (c ||| mvN w z g) (w ||| 2 ^ (g - z)) r
def sumsN (N d : Nat) : Nat := (d ||| d * 2 ^ N) ||| d / 2 ^ N
def servedN (N b c : Nat) : Nat := (2 ^ N - 1) ^^^ ((2 ^ N - 1) &&& ((b ||| c) ||| c / 2 ^ N))
/-- what the making of a cell asks -/
structure Good (N : Nat) (ms : List Nat) : Prop where
  up : up N 0 ms = true
  pos : 0 < ms.length
  len : ms.length ≤ 256
  le : N ≤ 1000
  free : ∀ y ∈ ms, ¬ (N % 2 = 0 ∧ (y + N / 2) % N ∈ ms) ∧ (bitsN 0 ms * 2 ^ y) &&& sumsN N (bitsN 0 (ms.map fun a => 2 * a)) = 2 ^ (2 * y)
  served : servedN N (bitsN 0 ms) (covN (ms.getD (ms.length - 1) 0) 0 0 ms) = 0
/-! the same, for the kernel -/
def kUp (N : Nat) : Nat → List Nat → Bool
  | _, [] => true
  | lo, a :: r => (Nat.ble lo a).and ((Nat.ble (Nat.succ a) N).and (kUp N (Nat.succ a) r))
def kMem (x : Nat) : List Nat → Bool
  | [] => false
  | a :: r => (Nat.beq x a).or (kMem x r)
def kBits (b : Nat) : List Nat → Nat
  | [] => b
  | a :: r => kBits (Nat.lor b (Nat.shiftLeft 1 a)) r
def kDbl (b : Nat) : List Nat → Nat
  | [] => b
  | a :: r => kDbl (Nat.lor b (Nat.shiftLeft 1 (Nat.mul 2 a))) r
def kMv (w z g : Nat) : Nat := cond (Nat.ble g (Nat.mul 2 z)) (Nat.shiftLeft w (Nat.sub (Nat.mul 2 z) g)) (Nat.shiftRight w (Nat.sub g (Nat.mul 2 z)))
def kCov (g c w : Nat) : List Nat → Nat
  | [] => c
  | z :: r => kCov g (Nat.lor c (kMv w z g)) (Nat.lor w (Nat.shiftLeft 1 (Nat.sub g z))) r
def kFree1 (b s : Nat) : List Nat → Bool
  | [] => true
  | y :: r => (Nat.beq (Nat.land (Nat.shiftLeft b y) s) (Nat.shiftLeft 1 (Nat.mul 2 y))).and (kFree1 b s r)
def kFree2 (N h : Nat) (ms : List Nat) : List Nat → Bool
  | [] => true
  | y :: r => (kMem (Nat.mod (Nat.add y h) N) ms).not.and (kFree2 N h ms r)
def kLast : List Nat → Nat
  | [] => 0
  | [a] => a
  | _ :: r => kLast r
def kSums (N d : Nat) : Nat := Nat.lor (Nat.lor d (Nat.shiftLeft d N)) (Nat.shiftRight d N)
def kServed (n b c cs : Nat) : Nat := Nat.xor n (Nat.land n (Nat.lor (Nat.lor b c) cs))
def kGood1 (N : Nat) (ms : List Nat) (b c : Nat) : Bool :=
  (kUp N 0 ms).and ((Nat.ble (List.length ms) 256).and ((kFree1 b (kSums N (kDbl 0 ms)) ms).and (((Nat.beq (Nat.mod N 2) 0).not.or (kFree2 N (Nat.div N 2) ms ms)).and (Nat.beq (kServed (Nat.pred (Nat.shiftLeft 1 N)) b c (Nat.shiftRight c N)) 0))))
def kGood (N : Nat) (ms : List Nat) : Bool := match ms with
  | [] => false
  | a :: r => kGood1 N (a :: r) (kBits 0 (a :: r)) (kCov (kLast (a :: r)) 0 0 (a :: r))
def kRow (N h : Nat) : List Nat → List Nat → List Nat
  | [], k => k
  | l :: r, k => Nat.add l (Nat.mul N h) :: kRow N h r k
def kJn (N : Nat) (ms : List Nat) : List Nat → List Nat
  | [] => []
  | h :: r => kRow N h ms (kJn N ms r)
/-- f good, and what is made of it by at most k more products -/
def kAll : Nat → Nat → List Nat → Bool
  | 0, N, ms => kGood N ms
  | k + 1, N, ms => (kGood N ms).and ((cond (Nat.ble (Nat.mul N 3) 900) (kAll k (Nat.mul N 3) (kJn N ms [0, 1])) true).and ((cond (Nat.ble (Nat.mul N 3) 900) (kAll k (Nat.mul N 3) (kJn N ms [1, 2])) true).and ((cond (Nat.ble (Nat.mul N 3) 900) (kAll k (Nat.mul N 3) (kJn N ms [0, 2])) true).and ((cond (Nat.ble (Nat.mul N 10) 900) (kAll k (Nat.mul N 10) (kJn N ms [0, 1, 7, 8])) true).and ((cond (Nat.ble (Nat.mul N 9) 900) (kAll k (Nat.mul N 9) (kJn N ms [0, 3, 4, 7])) true))))))
theorem all_9 : kAll 3 9 [0, 3, 4, 7] = true := by decide +kernel
theorem all_10 : kAll 3 10 [0, 1, 7, 8] = true := by decide +kernel
theorem all_3a : kAll 3 3 [0, 1] = true := by decide +kernel
theorem all_3b : kAll 3 3 [1, 2] = true := by decide +kernel
theorem all_3c : kAll 3 3 [0, 2] = true := by decide +kernel
theorem all_1 : kAll 3 1 [0] = true := by decide +kernel
end TM

namespace TM
theorem kUp_up {N : Nat} : ∀ {l : List Nat} {lo : Nat}, kUp N lo l = true → up N lo l = true
  | [], _, _ => rfl
  | a :: r, lo, h => by
    simp only [kUp, Bool.and_eq_true, Nat.ble_eq] at h
    simp only [up, Bool.and_eq_true, decide_eq_true_eq]
    exact ⟨h.1, h.2.1, kUp_up h.2.2⟩
theorem kMem_mem {x : Nat} : ∀ {l : List Nat}, kMem x l = false → x ∉ l
  | [], _ => List.not_mem_nil
  | a :: r, h => by
    simp only [kMem, Bool.or_eq_false_iff] at h
    intro hm
    rcases List.mem_cons.mp hm with e | e
    · subst e
      have := h.1
      rw [Nat.beq_refl] at this
      cases this
    · exact kMem_mem h.2 e
theorem shl1 (a : Nat) : Nat.shiftLeft 1 a = 2 ^ a := by
  show 1 <<< a = _
  rw [Nat.shiftLeft_eq, Nat.one_mul]
theorem kBits_eq : ∀ (l : List Nat) (b : Nat), kBits b l = bitsN b l
  | [], _ => rfl
  | a :: r, b => by
    show kBits (Nat.lor b (Nat.shiftLeft 1 a)) r = bitsN (b ||| 2 ^ a) r
    rw [shl1]
    exact kBits_eq r _
theorem kDbl_eq : ∀ (l : List Nat) (b : Nat), kDbl b l = bitsN b (l.map fun a => 2 * a)
  | [], _ => rfl
  | a :: r, b => by
    show kDbl (Nat.lor b (Nat.shiftLeft 1 (Nat.mul 2 a))) r = bitsN (b ||| 2 ^ (2 * a)) (r.map fun a => 2 * a)
    rw [shl1]
    exact kDbl_eq r _
theorem kMv_eq (w z g : Nat) : kMv w z g = mvN w z g := by
  unfold kMv mvN
  by_cases h : 2 * z < g
  · rw [if_pos h, show Nat.ble g (Nat.mul 2 z) = false from Bool.eq_false_iff.mpr fun e => by have : g ≤ 2 * z := Nat.le_of_ble_eq_true e; omega]
    exact Nat.shiftRight_eq_div_pow w (g - 2 * z)
  · rw [if_neg h, show Nat.ble g (Nat.mul 2 z) = true from Nat.ble_eq.mpr (by show g ≤ 2 * z; omega)]
    exact Nat.shiftLeft_eq w (2 * z - g)
theorem kCov_eq (g : Nat) : ∀ (l : List Nat) (c w : Nat), kCov g c w l = covN g c w l
  | [], _, _ => rfl
  | z :: r, c, w => by
    show kCov g (Nat.lor c (kMv w z g)) (Nat.lor w (Nat.shiftLeft 1 (Nat.sub g z))) r = covN g (c ||| mvN w z g) (w ||| 2 ^ (g - z)) r
    rw [shl1, kMv_eq]
    exact kCov_eq g r _ _
theorem kFree1_of {b s : Nat} : ∀ {l : List Nat}, kFree1 b s l = true → ∀ y ∈ l, (b * 2 ^ y) &&& s = 2 ^ (2 * y)
  | [], _, _, h => nomatch h
  | a :: r, h, y, hy => by
    simp only [kFree1, Bool.and_eq_true, Nat.beq_eq] at h
    rcases List.mem_cons.mp hy with e | e
    · subst e
      have h1 := h.1
      rw [shl1] at h1
      have h2 : Nat.shiftLeft b y = b * 2 ^ y := Nat.shiftLeft_eq b y
      rw [h2] at h1
      exact h1
    · exact kFree1_of h.2 y e
theorem kFree2_of {N h : Nat} {ms : List Nat} : ∀ {l : List Nat}, kFree2 N h ms l = true → ∀ y ∈ l, (y + h) % N ∉ ms
  | [], _, _, z => nomatch z
  | a :: r, hk, y, hy => by
    simp only [kFree2, Bool.and_eq_true] at hk
    rcases List.mem_cons.mp hy with e | e
    · subst e
      have h1 := hk.1
      rw [Bool.not_eq_true'] at h1
      exact kMem_mem h1
    · exact kFree2_of hk.2 y e
theorem kLast_eq : ∀ l : List Nat, kLast l = l.getD (l.length - 1) 0
  | [] => rfl
  | [a] => rfl
  | a :: b :: r => by
    show kLast (b :: r) = (a :: b :: r).getD (r.length + 1) 0
    rw [kLast_eq (b :: r)]
    rfl
theorem kGood_of {N : Nat} {ms : List Nat} (h : kGood N ms = true) (h9 : N ≤ 1000) : Good N ms := by
  cases ms with
  | nil => cases h
  | cons a r =>
    have h : kGood1 N (a :: r) (kBits 0 (a :: r)) (kCov (kLast (a :: r)) 0 0 (a :: r)) = true := h
    unfold kGood1 at h
    simp only [Bool.and_eq_true, Nat.ble_eq] at h
    obtain ⟨h1, h2, h3, h4, h5⟩ := h
    rw [kBits_eq] at h3 h5
    rw [kDbl_eq] at h3
    rw [kCov_eq, kLast_eq] at h5
    have e1 : ∀ d, kSums N d = sumsN N d := fun d => by
      show (d ||| (d <<< N)) ||| (d >>> N) = _
      rw [Nat.shiftLeft_eq, Nat.shiftRight_eq_div_pow]
      rfl
    rw [e1] at h3
    refine ⟨kUp_up h1, by simp, h2, h9, fun y hy => ⟨?_, kFree1_of h3 y hy⟩, ?_⟩
    · rintro ⟨e, hm⟩
      rw [Bool.or_eq_true] at h4
      rcases h4 with h4 | h4
      · have : Nat.beq (Nat.mod N 2) 0 = true := Nat.beq_eq.mpr e
        rw [this] at h4
        cases h4
      · exact kFree2_of h4 y hy hm
    · have h6 := Nat.beq_eq.mp h5
      unfold kServed at h6
      rw [shl1] at h6
      have h7 : ∀ c : Nat, Nat.shiftRight c N = c / 2 ^ N := fun c => Nat.shiftRight_eq_div_pow c N
      rw [h7] at h6
      exact h6
theorem kRow_eq (N h : Nat) : ∀ (ms k : List Nat), kRow N h ms k = (ms.map fun l => l + N * h) ++ k
  | [], _ => rfl
  | l :: r, k => by
    show (l + N * h) :: kRow N h r k = _
    rw [kRow_eq N h r k]
    rfl
theorem kJn_eq (N : Nat) (ms : List Nat) : ∀ o : List Nat, kJn N ms o = o.flatMap fun h => ms.map fun l => l + N * h
  | [] => rfl
  | h :: r => by
    show kRow N h ms (kJn N ms r) = _
    rw [kRow_eq, kJn_eq N ms r]
    rfl
theorem kAll_good : ∀ {k N : Nat} {ms : List Nat}, kAll k N ms = true → kGood N ms = true
  | 0, _, _, h => h
  | k + 1, _, _, h => by
    simp only [kAll, Bool.and_eq_true] at h
    exact h.1
theorem cond_of {b c : Bool} (h : (cond b c true) = true) : b = true → c = true := fun e => by rw [e] at h; exact h
theorem kAll_less : ∀ {k N : Nat} {ms : List Nat}, kAll (k + 1) N ms = true → kAll k N ms = true
  | 0, _, _, h => kAll_good h
  | k + 1, N, ms, h => by
    have up : ∀ (M : Nat) (o : List Nat), (cond (Nat.ble (Nat.mul N M) 900) (kAll (k + 1) (Nat.mul N M) (kJn N ms o)) true) = true → (cond (Nat.ble (Nat.mul N M) 900) (kAll k (Nat.mul N M) (kJn N ms o)) true) = true := fun M o z => by
      cases e : Nat.ble (Nat.mul N M) 900 with
      | false => rfl
      | true => exact kAll_less (cond_of z e)
    unfold kAll at h ⊢
    simp only [Bool.and_eq_true] at h ⊢
    obtain ⟨h0, h1, h2, h3, h4, h5⟩ := h
    exact ⟨h0, up _ _ h1, up _ _ h2, up _ _ h3, up _ _ h4, up _ _ h5⟩
/-- what a draw of a cell may be -/
def Dr (k : Nat) (f : Nat × List Nat) : Prop := f.1 ≤ 900 ∧ kAll k f.1 f.2 = true
theorem Dr.less {k : Nat} {f : Nat × List Nat} (h : Dr (k + 1) f) : Dr k f := ⟨h.1, kAll_less h.2⟩
theorem Dr.good {k : Nat} {f : Nat × List Nat} (h : Dr k f) : Good f.1 f.2 := kGood_of (kAll_good h.2) (Nat.le_trans h.1 (by decide))
theorem dr_small : ∀ f ∈ small, Dr 3 f := by
  intro f hf
  simp only [small, List.mem_cons, List.not_mem_nil, or_false] at hf
  rcases hf with rfl | rfl | rfl | rfl | rfl | rfl
  · exact ⟨by decide, all_3a⟩
  · exact ⟨by decide, all_3b⟩
  · exact ⟨by decide, all_3c⟩
  · exact ⟨by decide, all_10⟩
  · exact ⟨by decide, all_9⟩
  · exact ⟨by decide, all_1⟩
theorem Dr.jn {k : Nat} {f o : Nat × List Nat} (h : Dr (k + 1) f) (ho : o ∈ small) (h9 : f.1 * o.1 ≤ 900) : Dr k (jn f o) := by
  have h2 := h.2
  unfold kAll at h2
  simp only [Bool.and_eq_true] at h2
  obtain ⟨h0, h1, h2, h3, h4, h5⟩ := h2
  have key : ∀ (M : Nat) (l : List Nat), o = (M, l) → (cond (Nat.ble (Nat.mul f.1 M) 900) (kAll k (Nat.mul f.1 M) (kJn f.1 f.2 l)) true) = true → Dr k (TM.jn f o) := fun M l e z => by
    subst e
    have := cond_of z (Nat.ble_eq.mpr h9)
    rw [kJn_eq] at this
    exact ⟨h9, this⟩
  simp only [small, List.mem_cons, List.not_mem_nil, or_false] at ho
  rcases ho with e | e | e | e | e | e
  · exact key _ _ e h1
  · exact key _ _ e h2
  · exact key _ _ e h3
  · exact key _ _ e h4
  · exact key _ _ e h5
  · have : TM.jn f o = f := by
      subst e
      unfold TM.jn
      simp
    rw [this]
    exact h.less
theorem Good.cell {N : Nat} {ms : List Nat} (g : Good N ms) : CellM N ms := ⟨g.up, List.length_pos_iff.mp g.pos⟩
end TM

namespace TM
/-! ### products of cells are ascending -/
theorem flat_snoc {α β : Type} (f : α → List β) (l : List α) (a : α) : (l ++ [a]).flatMap f = l.flatMap f ++ f a := by
  rw [List.flatMap_append, List.flatMap_cons, List.flatMap_nil, List.append_nil]
theorem ints_pw {l : List Nat} (h : l.Pairwise (· < ·)) : (l.map fun n : Nat => (n : Int)).Pairwise (· ≤ ·) := by
  rw [List.pairwise_map]
  exact h.imp fun {a b} h => by omega
theorem sorted_same {l : List Nat} {ns : List Int} (h : l.Pairwise (· < ·)) (p : ns.Perm (l.map fun n : Nat => (n : Int))) (s : ns.Pairwise (· ≤ ·)) : ns = l.map fun n : Nat => (n : Int) :=
  List.Perm.eq_of_pairwise (le := (· ≤ ·)) (fun a b _ _ h1 h2 => by omega) s (ints_pw h) p
theorem jn_len (f o : Nat × List Nat) : (jn f o).2.length = o.2.length * f.2.length := by
  show (o.2.flatMap fun h => f.2.map fun l => l + f.1 * h).length = _
  generalize f.1 = N
  induction o.2 with
  | nil => simp
  | cons a r ih => rw [List.flatMap_cons, List.length_append, ih, List.length_map, List.length_cons, Nat.add_mul, Nat.one_mul, Nat.add_comm]
end TM

namespace TM
/-! ### what the bits of a cell say -/
theorem bit_bitsN : ∀ (ms : List Nat) (b i : Nat), (bitsN b ms).testBit i = (b.testBit i || decide (i ∈ ms))
  | [], b, i => by simp [bitsN]
  | a :: r, b, i => by
    show (bitsN (b ||| 2 ^ a) r).testBit i = _
    rw [bit_bitsN r, Nat.testBit_or, Nat.testBit_two_pow, Bool.or_assoc]
    congr 1
    by_cases h : i = a
    · subst h; simp
    · simp [h, Ne.symm h]
theorem bit_ms (ms : List Nat) (i : Nat) : (bitsN 0 ms).testBit i = decide (i ∈ ms) := by rw [bit_bitsN, Nat.zero_testBit, Bool.false_or]
theorem bit_mv {g z w i : Nat} {prev : List Nat} (hw : ∀ k, w.testBit k = true ↔ ∃ y ∈ prev, g - y = k) (hp : ∀ y ∈ prev, y < z) (hz : z ≤ g) : (mvN w z g).testBit i = true ↔ ∃ y ∈ prev, 2 * z - y = i := by
  unfold mvN
  by_cases h : 2 * z < g
  · rw [if_pos h, Nat.testBit_div_two_pow, hw]
    constructor
    · rintro ⟨y, hy, e⟩
      have := hp y hy
      exact ⟨y, hy, by omega⟩
    · rintro ⟨y, hy, e⟩
      have := hp y hy
      exact ⟨y, hy, by omega⟩
  · rw [if_neg h, Nat.testBit_mul_two_pow, Bool.and_eq_true, decide_eq_true_eq, hw]
    constructor
    · rintro ⟨h1, y, hy, e⟩
      have := hp y hy
      exact ⟨y, hy, by omega⟩
    · rintro ⟨y, hy, e⟩
      have := hp y hy
      exact ⟨by omega, y, hy, by omega⟩
theorem bit_cov {g : Nat} : ∀ (l prev : List Nat) (c w i : Nat), (∀ k, w.testBit k = true ↔ ∃ y ∈ prev, g - y = k) → (prev ++ l).Pairwise (· < ·) → (∀ y ∈ prev ++ l, y ≤ g) →
    ((covN g c w l).testBit i = true ↔ c.testBit i = true ∨ ∃ y z, y ∈ prev ++ l ∧ z ∈ l ∧ y < z ∧ 2 * z - y = i)
  | [], prev, c, w, i, _, _, _ => by simp [covN]
  | z :: r, prev, c, w, i, hw, hp, hg => by
    show (covN g (c ||| mvN w z g) (w ||| 2 ^ (g - z)) r).testBit i = true ↔ _
    have hz : z ≤ g := hg z (List.mem_append_right _ List.mem_cons_self)
    have hpz : ∀ y ∈ prev, y < z := fun y hy => (List.pairwise_append.mp hp).2.2 y hy z List.mem_cons_self
    have hzr : ∀ y ∈ r, z < y := fun y hy => (List.pairwise_cons.mp (List.pairwise_append.mp hp).2.1).1 y hy
    have e : prev ++ z :: r = (prev ++ [z]) ++ r := by simp
    have hw' : ∀ k, (w ||| 2 ^ (g - z)).testBit k = true ↔ ∃ y ∈ prev ++ [z], g - y = k := fun k => by
      rw [Nat.testBit_or, Nat.testBit_two_pow, Bool.or_eq_true, decide_eq_true_eq, hw]
      constructor
      · rintro (⟨y, hy, h⟩ | h)
        · exact ⟨y, List.mem_append_left _ hy, h⟩
        · exact ⟨z, List.mem_append_right _ (List.mem_singleton.mpr rfl), h⟩
      · rintro ⟨y, hy, h⟩
        rcases List.mem_append.mp hy with hy | hy
        · exact .inl ⟨y, hy, h⟩
        · rw [List.mem_singleton.mp hy] at h
          exact .inr h
    rw [bit_cov r (prev ++ [z]) _ _ i hw' (by rw [← e]; exact hp) (by rw [← e]; exact hg), Nat.testBit_or, Bool.or_eq_true, bit_mv hw hpz hz, ← e]
    constructor
    · rintro ((h | ⟨y, hy, h⟩) | ⟨y, z', hy, hz', h⟩)
      · exact .inl h
      · exact .inr ⟨y, z, List.mem_append_left _ hy, List.mem_cons_self, hpz y hy, h⟩
      · exact .inr ⟨y, z', hy, List.mem_cons_of_mem _ hz', h⟩
    · rintro (h | ⟨y, z', hy, hz', hlt, h⟩)
      · exact .inl (.inl h)
      · rcases List.mem_cons.mp hz' with rfl | hz'
        · rcases List.mem_append.mp hy with hy | hy
          · exact .inl (.inr ⟨y, hy, h⟩)
          · exfalso
            rcases List.mem_cons.mp hy with rfl | hy
            · omega
            · have := hzr y hy
              omega
        · exact .inr ⟨y, z', hy, hz', hlt, h⟩
/-- the numbers that two members cover -/
theorem bit_covered {N : Nat} {ms : List Nat} (hu : up N 0 ms = true) (i : Nat) : (covN (ms.getD (ms.length - 1) 0) 0 0 ms).testBit i = true ↔ ∃ y z, y ∈ ms ∧ z ∈ ms ∧ y < z ∧ 2 * z - y = i := by
  have hle : ∀ y ∈ ms, y ≤ ms.getD (ms.length - 1) 0 := fun y hy => by
    obtain ⟨j, hj, rfl⟩ := List.getElem_of_mem hy
    have e : ms[j] = ms.getD j 0 := by rw [List.getD_eq_getElem?_getD, List.getElem?_eq_getElem hj, Option.getD_some]
    rw [e]
    rcases Nat.lt_or_ge j (ms.length - 1) with z | z
    · exact Nat.le_of_lt (up_get hu j _ z (by omega))
    · rw [show j = ms.length - 1 by omega]
      exact Nat.le_refl _
  have := bit_cov (g := ms.getD (ms.length - 1) 0) ms [] 0 0 i (fun k => by simp) (by simpa using up_pw hu) (by simpa using hle)
  rw [this]
  simp
/-! ### the two conditions, in numbers -/
structure Cond (N : Nat) (ms : List Nat) : Prop extends CellM N ms where
  free : ∀ x ∈ ms, ∀ y ∈ ms, ∀ z ∈ ms, (2 * z) % N = (x + y) % N → x = y ∧ y = z
  serve : ∀ r, r < N → r ∉ ms → ∃ y z, y ∈ ms ∧ z ∈ ms ∧ y < z ∧ (2 * z - y = r ∨ 2 * z - y = r + N)
theorem mod_near {N a b : Nat} (ha : a < 2 * N) (hb : b < 2 * N) (h : a % N = b % N) : a = b ∨ a = b + N ∨ b = a + N := by
  have ea := Nat.div_add_mod a N
  have eb := Nat.div_add_mod b N
  have h1 : a / N < 2 := Nat.div_lt_of_lt_mul (by rw [Nat.mul_comm]; exact ha)
  have h2 : b / N < 2 := Nat.div_lt_of_lt_mul (by rw [Nat.mul_comm]; exact hb)
  have two : ∀ p : Nat, p < 2 → p = 0 ∨ p = 1 := fun p hp => by omega
  rcases two _ h1 with e1 | e1 <;> rcases two _ h2 with e2 | e2 <;> rw [e1] at ea <;> rw [e2] at eb <;> simp only [Nat.mul_zero, Nat.mul_one] at ea eb <;> omega
theorem Good.cond {N : Nat} {ms : List Nat} (g : Good N ms) : Cond N ms := by
  have c : CellM N ms := ⟨g.up, List.length_pos_iff.mp g.pos⟩
  have hN := c.npos
  have hlt : ∀ a ∈ ms, a < N := fun a ha => (up_ge g.up a ha).2
  refine ⟨c, fun x hx y hy z hz h => ?_, fun r hr hn => ?_⟩
  · obtain ⟨f1, f2⟩ := g.free y hy
    have hx1 := hlt x hx
    have hy1 := hlt y hy
    have hz1 := hlt z hz
    have near := mod_near (a := 2 * z) (b := x + y) (by omega) (by omega) h
    have b1 : (bitsN 0 ms * 2 ^ y).testBit (x + y) = true := by
      rw [Nat.testBit_mul_two_pow, bit_ms, Nat.add_sub_cancel]
      simp [hx]
    have b2 : (sumsN N (bitsN 0 (ms.map fun a => 2 * a))).testBit (x + y) = true := by
      unfold sumsN
      rw [Nat.testBit_or, Nat.testBit_or, Nat.testBit_mul_two_pow, Nat.testBit_div_two_pow, bit_ms, bit_ms, bit_ms]
      have m : 2 * z ∈ ms.map fun a => 2 * a := List.mem_map.mpr ⟨z, hz, rfl⟩
      rcases near with e | e | e
      · rw [← e, decide_eq_true m]; rfl
      · rw [← e, decide_eq_true m, Bool.or_true]
      · rw [show x + y - N = 2 * z by omega, decide_eq_true m, decide_eq_true (show N ≤ x + y by omega)]
        simp
    have b3 : (2 ^ (2 * y)).testBit (x + y) = true := by
      rw [← f2, Nat.testBit_and, b1, b2]
      rfl
    rw [Nat.testBit_two_pow, decide_eq_true_eq] at b3
    have hxy : x = y := by omega
    refine ⟨hxy, ?_⟩
    subst hxy
    rcases near with e | e | e
    · omega
    · exfalso
      refine f1 ⟨by omega, ?_⟩
      rw [show x + N / 2 = z by omega, Nat.mod_eq_of_lt hz1]
      exact hz
    · exfalso
      refine f1 ⟨by omega, ?_⟩
      rw [show x + N / 2 = z + N by omega, Nat.add_mod_right, Nat.mod_eq_of_lt hz1]
      exact hz
  · have hs := g.served
    unfold servedN at hs
    have hb : ((2 ^ N - 1) ^^^ ((2 ^ N - 1) &&& ((bitsN 0 ms ||| covN (ms.getD (ms.length - 1) 0) 0 0 ms) ||| covN (ms.getD (ms.length - 1) 0) 0 0 ms / 2 ^ N))).testBit r = false := by
      rw [hs, Nat.zero_testBit]
    rw [Nat.testBit_xor, Nat.testBit_and, Nat.testBit_two_pow_sub_one, decide_eq_true hr, Nat.testBit_or, Nat.testBit_or, Nat.testBit_div_two_pow, bit_ms, decide_eq_false hn] at hb
    simp only [Bool.false_or, Bool.true_and, Bool.true_xor, Bool.not_eq_false', Bool.or_eq_true] at hb
    rcases hb with h | h
    · obtain ⟨y, z, hy, hz, hlt', e⟩ := (bit_covered g.up r).mp h
      exact ⟨y, z, hy, hz, hlt', .inl e⟩
    · obtain ⟨y, z, hy, hz, hlt', e⟩ := (bit_covered g.up (r + N)).mp h
      exact ⟨y, z, hy, hz, hlt', .inr e⟩
/-! ### the ruled sequence is greedy -/
section
variable {N : Nat} {ms : List Nat}
theorem mem_split (c : CellM N ms) {r q : Nat} (hr : r < N) : Mem N ms (r + N * q) ↔ r ∈ ms ∧ plain q := by
  unfold Mem
  rw [Nat.add_mul_mod_self_left, Nat.mod_eq_of_lt hr, Nat.add_mul_div_left _ _ c.npos, Nat.div_eq_of_lt hr, Nat.zero_add]
theorem Cond.no_three (c : Cond N ms) {x y z : Nat} (hx : Mem N ms x) (hy : Mem N ms y) (hz : Mem N ms z) (h : x + y = 2 * z) : x = y ∧ y = z := by
  have hN := c.npos
  have ex := Nat.div_add_mod x N
  have ey := Nat.div_add_mod y N
  have ez := Nat.div_add_mod z N
  obtain ⟨r1, r2⟩ := c.free _ hx.1 _ hy.1 _ hz.1 (by rw [Nat.mul_mod, Nat.mod_mod, ← Nat.mul_mod, ← h, ← Nat.add_mod])
  obtain ⟨a, ha⟩ := plain_B _ hx.2
  obtain ⟨b, hb⟩ := plain_B _ hz.2
  obtain ⟨d, hd⟩ := plain_B _ hy.2
  have hq : x / N + y / N = 2 * (z / N) := by
    rw [r1, r2] at ex
    rw [r2] at ey
    have : N * (x / N + y / N) = N * (2 * (z / N)) := by
      rw [Nat.mul_add, Nat.mul_left_comm]
      omega
    exact Nat.eq_of_mul_eq_mul_left hN this
  rw [← ha, ← hb, ← hd] at hq
  obtain ⟨e1, e2⟩ := no_triple b a d hq
  rw [← ha, e1, hb, r1, r2] at ex
  rw [← hd, e2, hb, r2] at ey
  omega
/-- the greatest member of the cell -/
def gr (ms : List Nat) : Nat := ms.getD (ms.length - 1) 0
theorem le_gr (c : CellM N ms) {y : Nat} (hy : y ∈ ms) : y ≤ gr ms := by
  obtain ⟨j, hj, rfl⟩ := List.getElem_of_mem hy
  have e : ms[j] = ms.getD j 0 := by rw [List.getD_eq_getElem?_getD, List.getElem?_eq_getElem hj, Option.getD_some]
  unfold gr
  rw [e]
  rcases Nat.lt_or_ge j (ms.length - 1) with z | z
  · exact Nat.le_of_lt (up_get c.up j _ z (by omega))
  · rw [show j = ms.length - 1 by omega]
    exact Nat.le_refl _
theorem gr_mem (c : CellM N ms) : gr ms ∈ ms := c.get (by have := c.pos; omega)
/-- what the serving pair y, z of the remainder and the plain pair of the quotient cover -/
theorem pair_cov (c : CellM N ms) {y z q : Nat} (hy : y ∈ ms) (hz : z ∈ ms) (hle : y ≤ z) (hne : y < z ∨ ¬ plain q) : Mem N ms (y + N * py q) ∧ Mem N ms (z + N * pz q) ∧ y + N * py q < z + N * pz q ∧ 2 * (z + N * pz q) = (2 * z - y + N * q) + (y + N * py q) := by
  have hN := c.npos
  have h1 := pair_plain q
  have h2 := pair_lt q
  have h3 := pair_eq q
  have ly := (up_ge c.up y hy).2
  have lz := (up_ge c.up z hz).2
  refine ⟨(mem_split c ly).mpr ⟨hy, h1.1⟩, (mem_split c lz).mpr ⟨hz, h1.2⟩, ?_, ?_⟩
  · have h4 : N * py q ≤ N * pz q := Nat.mul_le_mul_left _ h2.1
    rcases hne with h | h
    · omega
    · have h5 : py q < pz q := by
        rcases Nat.lt_or_ge (py q) (pz q) with z1 | z1
        · exact z1
        · exact absurd (h2.2.mp (by omega)) h
      have h6 : N * (py q + 1) ≤ N * pz q := Nat.mul_le_mul_left _ h5
      rw [Nat.mul_add] at h6
      omega
  · have h7 : N * (2 * pz q) = N * (q + py q) := by rw [h3]
    rw [Nat.mul_add, Nat.mul_left_comm] at h7
    rw [Nat.mul_add, h7]
    omega
theorem Cond.covered (c : Cond N ms) {x : Nat} (hg : gr ms < x) (hx : ¬ Mem N ms x) : ∃ y z, Mem N ms y ∧ Mem N ms z ∧ y < z ∧ 2 * z = x + y := by
  have hN := c.npos
  have ex := Nat.div_add_mod x N
  have hr := Nat.mod_lt x hN
  by_cases hm : x % N ∈ ms
  · have hp : ¬ plain (x / N) := fun p => hx ⟨hm, p⟩
    obtain ⟨a, b, d, e⟩ := pair_cov c.toCellM hm hm (Nat.le_refl _) (.inr hp)
    exact ⟨_, _, a, b, d, by omega⟩
  · obtain ⟨y, z, hy, hz, hlt, e | e⟩ := c.serve _ hr hm
    · obtain ⟨a, b, d, e2⟩ := pair_cov c.toCellM (q := x / N) hy hz (Nat.le_of_lt hlt) (.inl hlt)
      exact ⟨_, _, a, b, d, by omega⟩
    · have hq : 0 < x / N := by
        rcases Nat.eq_zero_or_pos (x / N) with z0 | z0
        · exfalso
          rw [z0, Nat.mul_zero] at ex
          have h1 := le_gr c.toCellM hz
          have h2 := (up_ge c.up z hz).2
          omega
        · exact z0
      obtain ⟨a, b, d, e2⟩ := pair_cov c.toCellM (q := x / N - 1) hy hz (Nat.le_of_lt hlt) (.inl hlt)
      refine ⟨_, _, a, b, d, ?_⟩
      have h3 : N * (x / N) = N * (x / N - 1) + N := by
        rw [← Nat.mul_succ]
        congr 1
        omega
      omega
/-- a member is not covered -/
theorem Cond.free_mem (c : Cond N ms) {x y z : Nat} (hx : Mem N ms x) (hy : Mem N ms y) (hz : Mem N ms z) (hlt : y < z) : 2 * z ≠ x + y := fun e => by
  obtain ⟨h1, h2⟩ := c.no_three hx hy hz e.symm
  omega
end
end TM

namespace TM
section
variable {N : Nat} {ms : List Nat}
/-- the members below x -/
def ml (N : Nat) (ms : List Nat) (x : Nat) : List Nat := (List.range x).filter fun y => decide (Mem N ms y)
theorem ml_succ (x : Nat) : ml N ms (x + 1) = ml N ms x ++ (if Mem N ms x then [x] else []) := by
  unfold ml
  rw [List.range_succ, List.filter_append]
  congr 1
  by_cases h : Mem N ms x <;> simp [h]
theorem ml_mem {x y : Nat} : y ∈ ml N ms x ↔ y < x ∧ Mem N ms y := by
  unfold ml
  rw [List.mem_filter, List.mem_range, decide_eq_true_eq]
theorem RK_zero (c : CellM N ms) : RK N ms 0 = 0 := by
  have h : ¬ 0 < RK N ms 0 := fun h => by
    have := (c.RK_iff 0 0).mpr h
    omega
  omega
theorem ml_A (c : CellM N ms) : ∀ x, ml N ms x = (List.range (RK N ms x)).map (A N ms)
  | 0 => by rw [RK_zero c]; rfl
  | x + 1 => by
    rw [ml_succ, c.RK_one, ml_A c x]
    by_cases h : Mem N ms x
    · rw [if_pos h, if_pos h, List.range_succ, List.map_append]
      obtain ⟨n, rfl⟩ := (c.mem_iff x).mp h
      rw [c.RK_A]
      rfl
    · rw [if_neg h, if_neg h, List.append_nil, Nat.add_zero]
theorem ml_len (c : CellM N ms) (x : Nat) : (ml N ms x).length = RK N ms x := by rw [ml_A c, List.length_map, List.length_range]
theorem A_small (c : CellM N ms) {n : Nat} (h : n < ms.length) : A N ms n = ms.getD n 0 := by
  have := c.split (m := 0) h
  rw [Nat.mul_zero, Nat.zero_add, B_zero, Nat.mul_zero, Nat.add_zero] at this
  exact this
theorem RK_gr (c : CellM N ms) : RK N ms (gr ms + 1) = ms.length := by
  have h := c.pos
  have e : gr ms = A N ms (ms.length - 1) := (A_small c (by omega)).symm
  rw [e, c.RK_A1]
  omega
theorem ml_start (c : CellM N ms) : ml N ms (gr ms + 1) = ms := by
  rw [ml_A c, RK_gr c]
  apply List.ext_getElem
  · simp
  · intro i h1 h2
    rw [List.getElem_map, List.getElem_range, A_small c h2, List.getD_eq_getElem?_getD, List.getElem?_eq_getElem h2]
    rfl
theorem range_split {r m : Nat} (h : r ≤ m) : List.range m = List.range r ++ (List.range (m - r)).map (r + ·) := by
  rw [← List.range_add, show r + (m - r) = m by omega]
theorem filt_lt (f : Nat → Nat) {r m : Nat} (h : r ≤ m) (p : Nat → Bool) (h1 : ∀ n, n < r → p (f n) = true) (h2 : ∀ n, r ≤ n → p (f n) = false) : ((List.range m).map f).filter p = (List.range r).map f := by
  rw [range_split h, List.map_append, List.filter_append]
  have e1 : ((List.range r).map f).filter p = (List.range r).map f := List.filter_eq_self.mpr fun a ha => by
    obtain ⟨n, hn, rfl⟩ := List.mem_map.mp ha
    exact h1 n (List.mem_range.mp hn)
  have e2 : (((List.range (m - r)).map (r + ·)).map f).filter p = [] := List.filter_eq_nil_iff.mpr fun a ha => by
    obtain ⟨n, hn, rfl⟩ := List.mem_map.mp ha
    obtain ⟨k, hk, rfl⟩ := List.mem_map.mp hn
    rw [h2 _ (by omega)]
    decide
  rw [e1, e2, List.append_nil]
theorem filt_ge (f : Nat → Nat) {r m : Nat} (h : r < m) (p : Nat → Bool) (h1 : ∀ n, n < r → p (f n) = false) (h2 : ∀ n, r ≤ n → p (f n) = true) : (((List.range m).map f).filter p)[0]? = some (f r) := by
  rw [range_split (Nat.le_of_lt h), List.map_append, List.filter_append]
  have e1 : ((List.range r).map f).filter p = [] := List.filter_eq_nil_iff.mpr fun a ha => by
    obtain ⟨n, hn, rfl⟩ := List.mem_map.mp ha
    rw [h1 n (List.mem_range.mp hn)]
    decide
  obtain ⟨k, hk⟩ : ∃ k, m - r = k + 1 := ⟨m - r - 1, by omega⟩
  rw [e1, List.nil_append, hk, List.range_succ_eq_map, List.map_cons, List.map_cons, List.filter_cons_of_pos (by rw [Nat.add_zero]; exact h2 r (Nat.le_refl _))]
  rfl
theorem ml_below (c : CellM N ms) {x M : Nat} (h : x ≤ M) : (ml N ms M).filter (fun y => decide (y < x)) = ml N ms x := by
  rw [ml_A c M, ml_A c x]
  have hle : RK N ms x ≤ RK N ms M := by
    rcases Nat.lt_or_ge (RK N ms M) (RK N ms x) with z | z
    · have := (c.RK_iff (RK N ms M) x).mpr z
      have := (c.RK_iff (RK N ms M) M).mp (by omega)
      omega
    · exact z
  exact filt_lt (A N ms) hle _ (fun n hn => decide_eq_true ((c.RK_iff n x).mpr hn)) (fun n hn => decide_eq_false fun z => by have := (c.RK_iff n x).mp z; omega)
theorem ml_upto (c : CellM N ms) {x M : Nat} (h : x < M) : (ml N ms M).filter (fun y => decide (y ≤ x)) = ml N ms (x + 1) := by
  rw [← ml_below c (show x + 1 ≤ M from h)]
  congr 1
  funext y
  exact decide_eq_decide.mpr ⟨fun h => Nat.lt_succ_of_le h, fun h => Nat.le_of_lt_succ h⟩
theorem ml_above (c : CellM N ms) {x M : Nat} (h : A N ms (RK N ms (x + 1)) < M) : ((ml N ms M).filter (fun y => decide (x < y)))[0]? = some (A N ms (RK N ms (x + 1))) := by
  rw [ml_A c M]
  refine filt_ge (A N ms) ((c.RK_iff _ M).mp h) _ (fun n hn => decide_eq_false fun z => ?_) (fun n hn => decide_eq_true ?_)
  · have := (c.RK_iff n (x + 1)).mpr hn
    omega
  · have := fun z => (c.RK_iff n (x + 1)).mp z
    rcases Nat.lt_or_ge (A N ms n) (x + 1) with z | z
    · have := this z; omega
    · omega
/-! ### how far the next member is -/
theorem B_next2 : ∀ n : Nat, B (n + 1) ≤ 2 * B n + 1 := by
  intro n
  induction n using Nat.strongRecOn with
  | ind n ih =>
    rcases Nat.mod_two_eq_zero_or_one n with h | h
    · have e : n = 2 * (n / 2) := by omega
      have e1 : B n = 3 * B (n / 2) := by rw [e, B_even]; congr 2; omega
      have e2 : B (n + 1) = 1 + 3 * B (n / 2) := by
        rw [show n + 1 = 1 + 2 * (n / 2) by omega, B_odd]
      omega
    · have e1 : B n = 1 + 3 * B (n / 2) := by
        have := B_odd (n / 2)
        rw [show 1 + 2 * (n / 2) = n by omega] at this
        exact this
      have e2 : B (n + 1) = 3 * B (n / 2 + 1) := by
        rw [show n + 1 = 2 * (n / 2 + 1) by omega, B_even]
      have := ih (n / 2) (by omega)
      omega
theorem A_next (c : CellM N ms) (n : Nat) : A N ms (n + 1) ≤ 2 * A N ms n + 2 * N := by
  obtain ⟨m, j, hj, rfl⟩ := c.nat n
  rw [c.split hj]
  have hN := c.npos
  rcases Nat.lt_or_ge (j + 1) ms.length with z | z
  · rw [show ms.length * m + j + 1 = ms.length * m + (j + 1) by omega, c.split z]
    have := c.lt z
    have : 0 ≤ N * B m := Nat.zero_le _
    omega
  · rw [show ms.length * m + j + 1 = ms.length * (m + 1) + 0 by rw [Nat.mul_add]; omega, c.split c.pos]
    have h1 := c.lt c.pos
    have h2 : N * B (m + 1) ≤ N * (2 * B m + 1) := Nat.mul_le_mul_left _ (B_next2 m)
    rw [Nat.mul_add, Nat.mul_left_comm] at h2
    omega
/-- the next member is not far -/
theorem next_near (c : CellM N ms) (x : Nat) : A N ms (RK N ms (x + 1)) ≤ 2 * x + 2 * N := by
  rcases Nat.eq_zero_or_pos (RK N ms (x + 1)) with h | h
  · rw [h, A_small c c.pos]
    have := c.lt c.pos
    omega
  · have h1 := c.last h
    have h2 := A_next c (RK N ms (x + 1) - 1)
    rw [show RK N ms (x + 1) - 1 + 1 = RK N ms (x + 1) by omega] at h2
    omega
/-! ### what is covered by the members below -/
def Cv (L : List Nat) (k : Nat) : Prop := ∃ y z, y ∈ L ∧ z ∈ L ∧ y < z ∧ 2 * z - y = k
theorem Cond.step (c : Cond N ms) {x : Nat} (hg : gr ms < x) : Cv (ml N ms x) x ↔ ¬ Mem N ms x := by
  constructor
  · rintro ⟨y, z, hy, hz, hlt, e⟩ hm
    exact c.free_mem hm (ml_mem.mp hy).2 (ml_mem.mp hz).2 hlt (by omega)
  · intro hm
    obtain ⟨y, z, hy, hz, hlt, e⟩ := c.covered hg hm
    exact ⟨y, z, ml_mem.mpr ⟨by omega, hy⟩, ml_mem.mpr ⟨by omega, hz⟩, hlt, by omega⟩
theorem cv_snoc {L : List Nat} {x k : Nat} (h : ∀ y ∈ L, y < x) : Cv (L ++ [x]) k ↔ Cv L k ∨ ∃ y ∈ L, 2 * x - y = k := by
  constructor
  · rintro ⟨y, z, hy, hz, hlt, e⟩
    rcases List.mem_append.mp hz with hz | hz
    · rcases List.mem_append.mp hy with hy | hy
      · exact .inl ⟨y, z, hy, hz, hlt, e⟩
      · have h1 := h z hz
        rw [List.mem_singleton.mp hy] at hlt
        omega
    · have hz' := List.mem_singleton.mp hz
      subst hz'
      rcases List.mem_append.mp hy with hy | hy
      · exact .inr ⟨y, hy, e⟩
      · rw [List.mem_singleton.mp hy] at hlt
        omega
  · rintro (⟨y, z, hy, hz, hlt, e⟩ | ⟨y, hy, e⟩)
    · exact ⟨y, z, List.mem_append_left _ hy, List.mem_append_left _ hz, hlt, e⟩
    · exact ⟨y, x, List.mem_append_left _ hy, List.mem_append_right _ (List.mem_singleton.mpr rfl), h y hy, e⟩
end
end TM

namespace TM
/-! ### the cells that the laws of the products draw: eight small cells, their products up to a modulus of 300 -/
def stk8 : List (Nat × List Nat) := [(1, [0]), (3, [0, 1]), (3, [0, 2]), (3, [1, 2]), (9, [0, 1, 3, 4]), (10, [0, 1, 7, 8]), (10, [1, 2, 8, 9]), (9, [1, 2, 4, 5])]
def kAllS : Nat → Nat → List Nat → Bool
  | 0, N, ms => kGood N ms
  | k + 1, N, ms => (kGood N ms).and (stk8.all fun o => cond (Nat.ble (Nat.mul N o.1) 300) (kAllS k (Nat.mul N o.1) (kJn N ms o.2)) true)
theorem allS : kAllS 3 1 [0] = true := by decide +kernel
theorem allS1 : (stk8.all fun o => kGood o.1 o.2) = true := by decide +kernel
/-- the product of some cells -/
def tmF (f : Nat × List Nat) (fs : List (Nat × List Nat)) : Nat × List Nat := fs.foldl jn f
def tm (fs : List (Nat × List Nat)) : Nat × List Nat := tmF (1, [0]) fs
theorem tmF_snoc (f : Nat × List Nat) (fs : List (Nat × List Nat)) (g : Nat × List Nat) : tmF f (fs ++ [g]) = jn (tmF f fs) g := by
  unfold tmF
  rw [List.foldl_append]
  rfl
theorem tm_snoc (fs : List (Nat × List Nat)) (g : Nat × List Nat) : tm (fs ++ [g]) = jn (tm fs) g := tmF_snoc _ _ _
theorem stk8_b : ∀ o ∈ stk8, 0 < o.1 ∧ o.1 ≤ 10 ∧ o.2.length ≤ 4 ∧ 0 < o.2.length ∧ ∀ a ∈ o.2, a < o.1 := by decide
theorem tmF_ge : ∀ (fs : List (Nat × List Nat)) (f : Nat × List Nat), (∀ o ∈ fs, o ∈ stk8) → f.1 ≤ (tmF f fs).1
  | [], _, _ => Nat.le_refl _
  | o :: fs, f, h => by
    have h1 := tmF_ge fs (jn f o) fun x hx => h x (List.mem_cons_of_mem _ hx)
    have h2 : f.1 ≤ (jn f o).1 := Nat.le_mul_of_pos_right _ (stk8_b o (h o List.mem_cons_self)).1
    exact Nat.le_trans h2 h1
theorem kAllS_good : ∀ {k : Nat} {f : Nat × List Nat}, kAllS k f.1 f.2 = true → kGood f.1 f.2 = true
  | 0, _, h => h
  | k + 1, _, h => by
    simp only [kAllS, Bool.and_eq_true] at h
    exact h.1
theorem kAllS_fold : ∀ (fs : List (Nat × List Nat)) (k : Nat) (f : Nat × List Nat), kAllS k f.1 f.2 = true → fs.length ≤ k → (∀ o ∈ fs, o ∈ stk8) → (tmF f fs).1 ≤ 300 → kGood (tmF f fs).1 (tmF f fs).2 = true
  | [], _, f, h, _, _, _ => kAllS_good h
  | o :: fs, 0, f, h, hl, _, _ => absurd hl (Nat.not_succ_le_zero _)
  | o :: fs, k + 1, f, h, hl, hs, hb => by
    simp only [kAllS, Bool.and_eq_true, List.all_eq_true] at h
    have h1 := h.2 o (hs o List.mem_cons_self)
    have ge := tmF_ge fs (jn f o) fun x hx => hs x (List.mem_cons_of_mem _ hx)
    have h2 : f.1 * o.1 ≤ 300 := Nat.le_trans ge hb
    have h3 := cond_of h1 (Nat.ble_eq.mpr h2)
    rw [kJn_eq] at h3
    exact kAllS_fold fs k (jn f o) h3 (Nat.le_of_succ_le_succ hl) (fun x hx => hs x (List.mem_cons_of_mem _ hx)) hb
/-- what the laws draw -/
def Dn (m b : Nat) (fs : List (Nat × List Nat)) : Prop := (∀ o ∈ fs, o ∈ stk8) ∧ fs.length ≤ m ∧ (tm fs).1 ≤ b
theorem Dn.good {fs : List (Nat × List Nat)} (h : Dn 3 300 fs) : Good (tm fs).1 (tm fs).2 :=
  kGood_of (kAllS_fold fs 3 (1, [0]) allS h.2.1 h.1 h.2.2) (Nat.le_trans h.2.2 (by decide))
theorem stk8_good {o : Nat × List Nat} (h : o ∈ stk8) : Good o.1 o.2 := by
  have := List.all_eq_true.mp allS1 o h
  exact kGood_of this (Nat.le_trans (stk8_b o h).2.1 (by decide))
theorem tmF_len : ∀ (fs : List (Nat × List Nat)) (f : Nat × List Nat), (∀ o ∈ fs, o ∈ stk8) → (tmF f fs).2.length ≤ f.2.length * 4 ^ fs.length
  | [], f, _ => by show f.2.length ≤ f.2.length * 1; omega
  | o :: fs, f, h => by
    have h1 := tmF_len fs (jn f o) fun x hx => h x (List.mem_cons_of_mem _ hx)
    have h2 := (stk8_b o (h o List.mem_cons_self)).2.2.1
    rw [jn_len] at h1
    have h3 : o.2.length * f.2.length ≤ 4 * f.2.length := Nat.mul_le_mul_right _ h2
    have h4 : o.2.length * f.2.length * 4 ^ fs.length ≤ 4 * f.2.length * 4 ^ fs.length := Nat.mul_le_mul_right _ h3
    rw [List.length_cons, Nat.pow_succ, Nat.mul_comm (4 ^ fs.length) 4, ← Nat.mul_assoc, Nat.mul_comm f.2.length 4]
    exact Nat.le_trans h1 h4
/-! mixed digits -/
theorem jn_get {f o : Nat × List Nat} (hf : 0 < f.2.length) {j : Nat} (hj : j < o.2.length * f.2.length) : (jn f o).2.getD j 0 = f.2.getD (j % f.2.length) 0 + f.1 * o.2.getD (j / f.2.length) 0 := by
  obtain ⟨N, ms⟩ := f
  obtain ⟨M, ns⟩ := o
  show (ns.flatMap fun h => ms.map fun l => l + N * h).getD j 0 = ms.getD (j % ms.length) 0 + N * ns.getD (j / ms.length) 0
  induction ns generalizing j with
  | nil => rw [List.length_nil, Nat.zero_mul] at hj; omega
  | cons h r ih =>
    rw [List.flatMap_cons]
    by_cases z : j < ms.length
    · rw [List.getD_eq_getElem?_getD, List.getElem?_append_left (by rw [List.length_map]; exact z), List.getElem?_map, Nat.mod_eq_of_lt z, Nat.div_eq_of_lt z, List.getElem?_eq_getElem z]
      show ms[j] + N * h = ms.getD j 0 + N * h
      rw [List.getD_eq_getElem?_getD, List.getElem?_eq_getElem z]
      rfl
    · have hj2 : j - ms.length < r.length * ms.length := by
        have : (h :: r).length * ms.length = r.length * ms.length + ms.length := Nat.succ_mul _ _
        have hj' : j < (h :: r).length * ms.length := hj
        omega
      have := ih hj2
      rw [List.getD_eq_getElem?_getD, List.getElem?_append_right (by rw [List.length_map]; omega), List.length_map, ← List.getD_eq_getElem?_getD, this]
      have e : j = (j - ms.length) + ms.length := by omega
      have e1 : j % ms.length = (j - ms.length) % ms.length := by rw [e, Nat.add_mod_right, Nat.add_sub_cancel]
      have hf' : 0 < ms.length := hf
      have e2 : j / ms.length = (j - ms.length) / ms.length + 1 := by rw [e, Nat.add_div_right _ hf', Nat.add_sub_cancel]
      rw [e1, e2]
      rfl
/-- one more row of mixed digits -/
theorem mix_step {f o : Nat × List Nat} (hf : 0 < f.2.length) (ho : 0 < o.2.length) (n : Nat) :
    f.2.getD (n % f.2.length) 0 + f.1 * o.2.getD (n / f.2.length % o.2.length) 0 = (jn f o).2.getD (n % (jn f o).2.length) 0 ∧ n / f.2.length / o.2.length = n / (jn f o).2.length := by
  have e : (jn f o).2.length = f.2.length * o.2.length := by rw [jn_len, Nat.mul_comm]
  have e3 : n % (f.2.length * o.2.length) = n % f.2.length + f.2.length * (n / f.2.length % o.2.length) := Nat.mod_mul
  have hlt : n % (f.2.length * o.2.length) < o.2.length * f.2.length := by
    rw [Nat.mul_comm o.2.length]
    exact Nat.mod_lt _ (Nat.mul_pos hf ho)
  refine ⟨?_, by rw [e, Nat.div_div_eq_div_mul]⟩
  rw [e, jn_get hf hlt, e3, Nat.add_mul_mod_self_left, Nat.mod_mod, Nat.add_mul_div_left _ _ hf, Nat.div_eq_of_lt (Nat.mod_lt n hf), Nat.zero_add]
theorem jn_mem {f o : Nat × List Nat} (hf : ∀ a ∈ f.2, a < f.1) {y : Nat} (h0 : 0 < f.1) : y ∈ (jn f o).2 ↔ y % f.1 ∈ f.2 ∧ y / f.1 ∈ o.2 := by
  show y ∈ (o.2.flatMap fun h => f.2.map fun l => l + f.1 * h) ↔ _
  rw [List.mem_flatMap]
  constructor
  · rintro ⟨h, hh, hy⟩
    obtain ⟨l, hl, rfl⟩ := List.mem_map.mp hy
    have := hf l hl
    rw [Nat.add_mul_mod_self_left, Nat.mod_eq_of_lt this, Nat.add_mul_div_left _ _ h0, Nat.div_eq_of_lt this, Nat.zero_add]
    exact ⟨hl, hh⟩
  · rintro ⟨h1, h2⟩
    exact ⟨_, h2, List.mem_map.mpr ⟨_, h1, Nat.mod_add_div y f.1⟩⟩
/-- one more row of remainders -/
theorem rem_step {f o : Nat × List Nat} (hf : ∀ a ∈ f.2, a < f.1) (h0 : 0 < f.1) (x : Nat) :
    ((x % f.1 ∈ f.2 ∧ x / f.1 % o.1 ∈ o.2) ↔ x % (jn f o).1 ∈ (jn f o).2) ∧ x / f.1 / o.1 = x / (jn f o).1 := by
  have e3 : x % (f.1 * o.1) = x % f.1 + f.1 * (x / f.1 % o.1) := Nat.mod_mul
  refine ⟨?_, Nat.div_div_eq_div_mul _ _ _⟩
  show _ ↔ x % (f.1 * o.1) ∈ (jn f o).2
  rw [jn_mem hf h0, e3, Nat.add_mul_mod_self_left, Nat.mod_mod, Nat.add_mul_div_left _ _ h0, Nat.div_eq_of_lt (Nat.mod_lt x h0), Nat.zero_add]
theorem jn_lt {f o : Nat × List Nat} (hf : ∀ a ∈ f.2, a < f.1) (ho : ∀ a ∈ o.2, a < o.1) : ∀ a ∈ (jn f o).2, a < (jn f o).1 := by
  intro a ha
  obtain ⟨h, hh, hy⟩ := List.mem_flatMap.mp ha
  obtain ⟨l, hl, rfl⟩ := List.mem_map.mp hy
  have h1 := hf l hl
  have h2 := Nat.mul_le_mul_left f.1 (ho h hh)
  show l + f.1 * h < f.1 * o.1
  rw [Nat.mul_succ] at h2
  omega
theorem tm_lt : ∀ (fs : List (Nat × List Nat)) (f : Nat × List Nat), (∀ a ∈ f.2, a < f.1) → (∀ o ∈ fs, o ∈ stk8) → ∀ a ∈ (tmF f fs).2, a < (tmF f fs).1
  | [], f, hf, _ => hf
  | o :: fs, f, hf, h => tm_lt fs (jn f o) (jn_lt hf (stk8_b o (h o List.mem_cons_self)).2.2.2.2) fun x hx => h x (List.mem_cons_of_mem _ hx)
theorem tm_pos : ∀ (fs : List (Nat × List Nat)) (f : Nat × List Nat), 0 < f.1 → 0 < f.2.length → (∀ o ∈ fs, o ∈ stk8) → 0 < (tmF f fs).1 ∧ 0 < (tmF f fs).2.length
  | [], f, h1, h2, _ => ⟨h1, h2⟩
  | o :: fs, f, h1, h2, h => by
    have b := stk8_b o (h o List.mem_cons_self)
    exact tm_pos fs (jn f o) (Nat.mul_pos h1 b.1) (by rw [jn_len]; exact Nat.mul_pos b.2.2.2.1 h2) fun x hx => h x (List.mem_cons_of_mem _ hx)
end TM

namespace TM
/-! ### products of up to eight stock cells, and their composed pairs -/
theorem tm_take {fs : List (Nat × List Nat)} {i : Nat} {f : Nat × List Nat} (h : fs[i]? = some f) : tm (fs.take (i + 1)) = jn (tm (fs.take i)) f := by
  rw [List.take_succ, h]
  exact tm_snoc _ _
theorem tm_pre {fs : List (Nat × List Nat)} (hs : ∀ o ∈ fs, o ∈ stk8) (i : Nat) : (tm (fs.take i)).1 ≤ (tm fs).1 := by
  have h1 := tmF_ge (fs.drop i) (tm (fs.take i)) fun o ho => hs o (List.mem_of_mem_drop ho)
  have h2 : tmF (tm (fs.take i)) (fs.drop i) = tm fs := by
    unfold tm tmF
    rw [← List.foldl_append, List.take_append_drop]
  rwa [h2] at h1
theorem tm_tlen {fs : List (Nat × List Nat)} (hs : ∀ o ∈ fs, o ∈ stk8) (i : Nat) : (tm (fs.take i)).2.length ≤ 4 ^ i := by
  have h1 := tmF_len (fs.take i) (1, [0]) fun o ho => hs o (List.mem_of_mem_take ho)
  have h2 : (4 : Nat) ^ (fs.take i).length ≤ 4 ^ i := Nat.pow_le_pow_right (by decide) (by rw [List.length_take]; omega)
  have h3 : ((1, [0]) : Nat × List Nat).2.length * 4 ^ (fs.take i).length = 4 ^ (fs.take i).length := Nat.one_mul _
  rw [h3] at h1
  exact Nat.le_trans h1 h2
theorem tm_tlt {fs : List (Nat × List Nat)} (hs : ∀ o ∈ fs, o ∈ stk8) (i : Nat) : ∀ a ∈ (tm (fs.take i)).2, a < (tm (fs.take i)).1 :=
  tm_lt (fs.take i) (1, [0]) (by decide) fun o ho => hs o (List.mem_of_mem_take ho)
theorem tm_ten : ∀ (fs : List (Nat × List Nat)) (f : Nat × List Nat), (∀ o ∈ fs, o ∈ stk8) → (tmF f fs).1 ≤ f.1 * 10 ^ fs.length
  | [], f, _ => by show f.1 ≤ f.1 * 1; omega
  | o :: fs, f, h => by
    have h1 := tm_ten fs (jn f o) fun x hx => h x (List.mem_cons_of_mem _ hx)
    have h2 := (stk8_b o (h o List.mem_cons_self)).2.1
    have h3 : (jn f o).1 ≤ f.1 * 10 := Nat.mul_le_mul_left _ h2
    have h4 : (jn f o).1 * 10 ^ fs.length ≤ f.1 * 10 * 10 ^ fs.length := Nat.mul_le_mul_right _ h3
    rw [List.length_cons, Nat.pow_succ, Nat.mul_comm (10 ^ fs.length) 10, ← Nat.mul_assoc]
    exact Nat.le_trans h1 h4
theorem tm_tpos {fs : List (Nat × List Nat)} (hs : ∀ o ∈ fs, o ∈ stk8) (i : Nat) : 0 < (tm (fs.take i)).1 ∧ 0 < (tm (fs.take i)).2.length :=
  tm_pos (fs.take i) (1, [0]) (by decide) (by decide) fun o ho => hs o (List.mem_of_mem_take ho)
theorem tm_tten {fs : List (Nat × List Nat)} (hst : ∀ o ∈ fs, o ∈ stk8) (hl : fs.length ≤ 8) (i : Nat) : (tm (fs.take i)).1 < 2 ^ 40 := by
  have hb := tm_ten (fs.take i) (1, [0]) fun o ho => hst o (List.mem_of_mem_take ho)
  have hb2 : (10 : Nat) ^ (fs.take i).length ≤ 10 ^ 8 := Nat.pow_le_pow_right (by decide) (by rw [List.length_take]; omega)
  have : ((1, [0]) : Nat × List Nat).1 * 10 ^ (fs.take i).length = 10 ^ (fs.take i).length := Nat.one_mul _
  rw [this] at hb
  exact Nat.lt_of_le_of_lt (Nat.le_trans hb hb2) (by decide)
theorem tm_split (fs : List (Nat × List Nat)) (i : Nat) : tmF (tm (fs.take i)) (fs.drop i) = tm fs := by
  unfold tm tmF
  rw [← List.foldl_append, List.take_append_drop]
/-- the member with a number, row by row -/
def memR : List (Nat × List Nat) → Nat → Nat
  | [], n => B n
  | f :: fs, n => f.2.getD (n % f.2.length) 0 + f.1 * memR fs (n / f.2.length)
/-- whether a number is a member, row by row -/
def HasR : List (Nat × List Nat) → Nat → Prop
  | [], x => plain x
  | f :: fs, x => x % f.1 ∈ f.2 ∧ HasR fs (x / f.1)
/-- the greatest start -/
def grs : List (Nat × List Nat) → Nat
  | [] => 0
  | f :: fs => f.2.getD (f.2.length - 1) 0 + f.1 * grs fs
theorem has_tmF : ∀ (fs : List (Nat × List Nat)) (f : Nat × List Nat), (∀ a ∈ f.2, a < f.1) → 0 < f.1 → (∀ o ∈ fs, o ∈ stk8) → ∀ x, (x % f.1 ∈ f.2 ∧ HasR fs (x / f.1)) ↔ Mem (tmF f fs).1 (tmF f fs).2 x
  | [], f, _, _, _, x => Iff.rfl
  | o :: fs, f, hf, h0, hs, x => by
    have ob := stk8_b o (hs o List.mem_cons_self)
    have h1 := has_tmF fs (jn f o) (jn_lt hf ob.2.2.2.2) (Nat.mul_pos h0 ob.1) (fun x hx => hs x (List.mem_cons_of_mem _ hx)) x
    obtain ⟨r1, r2⟩ := rem_step (o := o) hf h0 x
    show x % f.1 ∈ f.2 ∧ (x / f.1 % o.1 ∈ o.2 ∧ HasR fs (x / f.1 / o.1)) ↔ Mem (tmF (jn f o) fs).1 (tmF (jn f o) fs).2 x
    rw [← h1, ← r1, r2, and_assoc]
theorem has_tm {fs : List (Nat × List Nat)} (hs : ∀ o ∈ fs, o ∈ stk8) (x : Nat) : HasR fs x ↔ Mem (tm fs).1 (tm fs).2 x := by
  have h := has_tmF fs (1, [0]) (by decide) (by decide) hs x
  have e : x % ((1, [0]) : Nat × List Nat).1 = 0 := Nat.mod_one x
  have e2 : x / ((1, [0]) : Nat × List Nat).1 = x := Nat.div_one x
  rw [e, e2] at h
  exact ⟨fun z => h.mp ⟨List.mem_cons_self, z⟩, fun z => (h.mpr z).2⟩
theorem mem_tmF : ∀ (fs : List (Nat × List Nat)) (f : Nat × List Nat), 0 < f.2.length → (∀ o ∈ fs, o ∈ stk8) → ∀ n, f.2.getD (n % f.2.length) 0 + f.1 * memR fs (n / f.2.length) = A (tmF f fs).1 (tmF f fs).2 n
  | [], f, _, _, n => rfl
  | o :: fs, f, hf, hs, n => by
    have ob := stk8_b o (hs o List.mem_cons_self)
    have h1 := mem_tmF fs (jn f o) (by rw [jn_len]; exact Nat.mul_pos ob.2.2.2.1 hf) (fun x hx => hs x (List.mem_cons_of_mem _ hx)) n
    obtain ⟨r1, r2⟩ := mix_step (o := o) hf ob.2.2.2.1 n
    show f.2.getD (n % f.2.length) 0 + f.1 * (o.2.getD (n / f.2.length % o.2.length) 0 + o.1 * memR fs (n / f.2.length / o.2.length)) = A (tmF (jn f o) fs).1 (tmF (jn f o) fs).2 n
    rw [← h1, ← r1, r2, Nat.mul_add, ← Nat.add_assoc, ← Nat.mul_assoc]
    rfl
theorem mem_tm {fs : List (Nat × List Nat)} (hs : ∀ o ∈ fs, o ∈ stk8) (n : Nat) : memR fs n = A (tm fs).1 (tm fs).2 n := by
  have h := mem_tmF fs (1, [0]) (by decide) hs n
  have e : n % ((1, [0]) : Nat × List Nat).2.length = 0 := Nat.mod_one n
  have e2 : n / ((1, [0]) : Nat × List Nat).2.length = n := Nat.div_one n
  rw [e, e2] at h
  have e3 : ((1, [0]) : Nat × List Nat).2.getD 0 0 + ((1, [0]) : Nat × List Nat).1 * memR fs n = memR fs n := by
    show 0 + 1 * memR fs n = memR fs n
    omega
  rw [e3] at h
  exact h
/-! ### the serving pairs -/
def lt3 (p q : Nat × Nat × Nat) : Bool := decide (p.1 < q.1 ∨ p.1 = q.1 ∧ (p.2.1 < q.2.1 ∨ p.2.1 = q.2.1 ∧ p.2.2 < q.2.2))
def minT (t : Nat × Nat × Nat) (ts : List (Nat × Nat × Nat)) : Nat × Nat × Nat := ts.foldl (fun a y => if lt3 y a then y else a) t
def lastM (f : Nat × List Nat) : Nat := f.2.getD (f.2.length - 1) 0
/-- whether two members serve a remainder -/
def isSv (f : Nat × List Nat) (r l m : Nat) : Bool := decide (l < m ∧ (2 * m - l) % f.1 = r ∧ (2 * m - l < f.1 ∨ r < lastM f))
def fnd (f : Nat × List Nat) (r : Nat) : List (Nat × Nat × Nat) := f.2.flatMap fun l => f.2.flatMap fun m => if isSv f r l m then [((2 * m - l) / f.1, l, m)] else []
def lstT : List (Nat × Nat × Nat) → Nat × Nat × Nat
  | [] => (0, 0, 0)
  | t :: ts => minT t ts
def srv (f : Nat × List Nat) (r : Nat) : Nat × Nat × Nat := lstT (fnd f r)
/-- what a stock cell says of a remainder that is no member -/
structure Sv (f : Nat × List Nat) (r : Nat) (t : Nat × Nat × Nat) : Prop where
  ne : fnd f r ≠ []
  lt : t.2.1 < t.2.2
  ml : t.2.1 ∈ f.2
  mm : t.2.2 ∈ f.2
  eq : 2 * t.2.2 = r + f.1 * t.1 + t.2.1
  le : t.1 ≤ 1
  lst : t.1 = 1 → r < lastM f
  car : t.1 = if covN (lastM f) 0 0 f.2 / 2 ^ r % 2 = 1 then 0 else 1
  bit : (bitsN 0 f.2 &&& bitsN 0 (f.2.map fun a => 2 * a) / 2 ^ (r + f.1 * t.1)) % 2 ^ (t.2.1 + 1) = 2 ^ t.2.1
def kSv (f : Nat × List Nat) (r : Nat) (t : Nat × Nat × Nat) : Bool :=
  decide (fnd f r ≠ []) && decide (t.2.1 < t.2.2) && decide (t.2.1 ∈ f.2) && decide (t.2.2 ∈ f.2) && decide (2 * t.2.2 = r + f.1 * t.1 + t.2.1) && decide (t.1 ≤ 1) && decide (t.1 = 1 → r < lastM f) &&
    decide (t.1 = if covN (lastM f) 0 0 f.2 / 2 ^ r % 2 = 1 then 0 else 1) && decide ((bitsN 0 f.2 &&& bitsN 0 (f.2.map fun a => 2 * a) / 2 ^ (r + f.1 * t.1)) % 2 ^ (t.2.1 + 1) = 2 ^ t.2.1)
theorem kSv_all : (stk8.all fun f => (List.range f.1).all fun r => decide (r ∈ f.2) || kSv f r (srv f r)) = true := by decide +kernel
theorem srv_of {f : Nat × List Nat} (hf : f ∈ stk8) {r : Nat} (hr : r < f.1) (hn : r ∉ f.2) : Sv f r (srv f r) := by
  have h := List.all_eq_true.mp (List.all_eq_true.mp kSv_all f hf) r (List.mem_range.mpr hr)
  rw [decide_eq_false hn, Bool.false_or] at h
  simp only [kSv, Bool.and_eq_true, decide_eq_true_eq] at h
  obtain ⟨⟨⟨⟨⟨⟨⟨⟨h1, h2⟩, h3⟩, h4⟩, h5⟩, h6⟩, h7⟩, h8⟩, h9⟩ := h
  exact ⟨h1, h2, h3, h4, h5, h6, h7, h8, h9⟩
theorem ev_of : ∀ (l n : Nat), n % 2 ^ (l + 1) = 2 ^ l → 0 < n ∧ ev n = l
  | 0, n, h => by
    have h1 : n % 2 = 1 := h
    have e : n = 1 + 2 * (n / 2) := by omega
    refine ⟨by omega, ?_⟩
    rw [e]
    exact ev_odd _
  | l + 1, n, h => by
    have h0 : (2 : Nat) ^ (l + 1 + 1) = 2 * 2 ^ (l + 1) := by rw [Nat.pow_succ]; omega
    have h2 : (2 : Nat) ^ (l + 1) = 2 * 2 ^ l := by rw [Nat.pow_succ]; omega
    rw [h0, Nat.mod_mul, h2] at h
    have h3 : n % 2 = 0 := by omega
    have h4 : n / 2 % 2 ^ (l + 1) = 2 ^ l := by rw [h2]; omega
    obtain ⟨p, e⟩ := ev_of l (n / 2) h4
    refine ⟨by omega, ?_⟩
    rw [show n = 2 * (n / 2) by omega, ev_even p, e]
theorem stk8_bits : ∀ f ∈ stk8, bitsN 0 f.2 < 2 ^ 20 ∧ bitsN 0 (f.2.map fun a => 2 * a) < 2 ^ 20 ∧ covN (lastM f) 0 0 f.2 < 2 ^ 40 ∧ lastM f < f.1 ∧ lastM f ∈ f.2 := by decide +kernel
/-! ### the composed pair -/
/-- the carry and the pair of one remainder -/
def stp (f : Nat × List Nat) (r : Nat) : Nat × Nat × Nat := if r ∈ f.2 then (0, r, r) else srv f r
def cmp : List (Nat × List Nat) → Nat → Option (Nat × Nat)
  | [], x => some (py x, pz x)
  | f :: fs, x => if x / f.1 < (stp f (x % f.1)).1 then none else (cmp fs (x / f.1 - (stp f (x % f.1)).1)).map fun p => ((stp f (x % f.1)).2.1 + f.1 * p.1, (stp f (x % f.1)).2.2 + f.1 * p.2)
theorem stp_of {f : Nat × List Nat} (hf : f ∈ stk8) {r : Nat} (hr : r < f.1) : let t := stp f r
    t.2.1 ≤ t.2.2 ∧ t.2.1 ∈ f.2 ∧ t.2.2 ∈ f.2 ∧ 2 * t.2.2 = r + f.1 * t.1 + t.2.1 ∧ t.1 ≤ 1 ∧ (t.1 = 1 → r < lastM f) ∧ (t.2.1 = t.2.2 ↔ r ∈ f.2) ∧ (r ∈ f.2 → t = (0, r, r)) := by
  intro t
  by_cases h : r ∈ f.2
  · have e : t = (0, r, r) := if_pos h
    rw [e]
    refine ⟨Nat.le_refl _, h, h, ?_, Nat.zero_le 1, fun z => absurd z (show ¬ (0 : Nat) = 1 by decide), ⟨fun _ => h, fun _ => rfl⟩, fun _ => rfl⟩
    show 2 * r = r + f.1 * 0 + r
    omega
  · have e : t = srv f r := if_neg h
    have s := srv_of hf hr h
    rw [e]
    exact ⟨Nat.le_of_lt s.lt, s.ml, s.mm, s.eq, s.le, s.lst, ⟨fun z => absurd z (Nat.ne_of_lt s.lt), fun z => absurd z h⟩, fun z => absurd z h⟩
theorem comp_some : ∀ (fs : List (Nat × List Nat)), (∀ o ∈ fs, o ∈ stk8) → ∀ (x l m : Nat), cmp fs x = some (l, m) → 2 * m = x + l ∧ l ≤ m ∧ HasR fs l ∧ HasR fs m ∧ (l = m ↔ HasR fs x)
  | [], _, x, l, m, h => by
    have h2 := Option.some.inj h
    obtain ⟨rfl, rfl⟩ := Prod.mk.inj h2
    exact ⟨pair_eq x, (pair_lt x).1, (pair_plain x).1, (pair_plain x).2, (pair_lt x).2⟩
  | f :: fs, hs, x, l, m, h => by
    have hf := hs f List.mem_cons_self
    have fb := stk8_b f hf
    have hr : x % f.1 < f.1 := Nat.mod_lt _ fb.1
    have t := stp_of hf hr
    have e := Nat.mod_add_div x f.1
    unfold cmp at h
    generalize stp f (x % f.1) = s at t h
    obtain ⟨o, a, b⟩ := s
    obtain ⟨t1, t2, t3, t4, t5, t6, t7, t8⟩ := t
    simp only at t1 t2 t3 t4 t5 t6 t7 t8 h
    by_cases c : x / f.1 < o
    · rw [if_pos c] at h; cases h
    · rw [if_neg c] at h
      obtain ⟨⟨y, z⟩, hyz, he⟩ := Option.map_eq_some_iff.mp h
      obtain ⟨rfl, rfl⟩ := Prod.mk.inj he
      obtain ⟨i1, i2, i3, i4, i5⟩ := comp_some fs (fun o ho => hs o (List.mem_cons_of_mem _ ho)) _ _ _ hyz
      have ha := fb.2.2.2.2 a t2
      have hb := fb.2.2.2.2 b t3
      have md : ∀ u v : Nat, u < f.1 → (u + f.1 * v) % f.1 = u ∧ (u + f.1 * v) / f.1 = v := fun u v hu => by
        rw [Nat.add_mul_mod_self_left, Nat.mod_eq_of_lt hu, Nat.add_mul_div_left _ _ fb.1, Nat.div_eq_of_lt hu, Nat.zero_add]
        exact ⟨rfl, rfl⟩
      have q1 : x / f.1 = x / f.1 - o + o := by omega
      have q2 : f.1 * (x / f.1) = f.1 * (x / f.1 - o) + f.1 * o := by rw [← Nat.mul_add, ← q1]
      have q3 : f.1 * (2 * z) = f.1 * (x / f.1 - o) + f.1 * y := by rw [i1, Nat.mul_add]
      have q4 : f.1 * (2 * z) = 2 * (f.1 * z) := by rw [Nat.mul_left_comm]
      refine ⟨?_, ?_, ?_, ?_, ?_⟩
      · simp only
        omega
      · have := Nat.mul_le_mul_left f.1 i2
        simp only
        omega
      · obtain ⟨m1, m2⟩ := md a y ha
        exact ⟨by rw [m1]; exact t2, by rw [m2]; exact i3⟩
      · obtain ⟨m1, m2⟩ := md b z hb
        exact ⟨by rw [m1]; exact t3, by rw [m2]; exact i4⟩
      · obtain ⟨a1, a2⟩ := md a y ha
        obtain ⟨b1, b2⟩ := md b z hb
        constructor
        · intro hh
          have hh' : a + f.1 * y = b + f.1 * z := hh
          rw [hh'] at a1 a2
          have ab : a = b := by rw [← a1, b1]
          have yz : y = z := by rw [← a2, b2]
          have hm := t7.mp ab
          have t0 := t8 hm
          obtain ⟨rfl, _⟩ := Prod.mk.inj t0
          refine ⟨hm, ?_⟩
          have := i5.mp yz
          rwa [Nat.sub_zero] at this
        · rintro ⟨hm, hq⟩
          have t0 := t8 hm
          obtain ⟨rfl, t0'⟩ := Prod.mk.inj t0
          have ab := t7.mpr hm
          rw [Nat.sub_zero] at i5
          have yz := i5.mpr hq
          show a + f.1 * y = b + f.1 * z
          rw [ab, yz]
theorem comp_none : ∀ (fs : List (Nat × List Nat)), (∀ o ∈ fs, o ∈ stk8) → ∀ (x : Nat), cmp fs x = none → x < grs fs ∧ ¬ HasR fs x
  | [], _, x, h => by cases h
  | f :: fs, hs, x, h => by
    have hf := hs f List.mem_cons_self
    have fb := stk8_b f hf
    have hr : x % f.1 < f.1 := Nat.mod_lt _ fb.1
    have t := stp_of hf hr
    have e := Nat.mod_add_div x f.1
    unfold cmp at h
    generalize stp f (x % f.1) = s at t h
    obtain ⟨o, a, b⟩ := s
    obtain ⟨t1, t2, t3, t4, t5, t6, t7, t8⟩ := t
    simp only at t1 t2 t3 t4 t5 t6 t7 t8 h
    have hno : x % f.1 ∈ f.2 → o = 0 := fun hm => (Prod.mk.inj (t8 hm)).1
    show x < lastM f + f.1 * grs fs ∧ _
    by_cases c : x / f.1 < o
    · generalize x / f.1 = q at e c
      have h1 : o = 1 := by omega
      have h0 : q = 0 := by omega
      have hl := t6 h1
      rw [h0, Nat.mul_zero, Nat.add_zero] at e
      refine ⟨by omega, fun z => ?_⟩
      have := hno z.1
      omega
    · rw [if_neg c] at h
      obtain ⟨i1, i2⟩ := comp_none fs (fun o ho => hs o (List.mem_cons_of_mem _ ho)) _ (Option.map_eq_none_iff.mp h)
      refine ⟨?_, fun z => ?_⟩
      · have q1 : x / f.1 ≤ grs fs - 1 + o := by omega
        have q2 := Nat.mul_le_mul_left f.1 q1
        rcases (show o = 0 ∨ o = 1 by omega) with rfl | rfl
        · have q3 : f.1 * (grs fs - 1 + 0) + f.1 = f.1 * grs fs := by
            rw [Nat.add_zero, ← Nat.mul_succ]
            congr 1
            omega
          omega
        · have hl := t6 rfl
          have q3 : grs fs - 1 + 1 = grs fs := by omega
          rw [q3] at q2
          omega
      · have := hno z.1
        subst this
        rw [Nat.sub_zero] at i2
        exact i2 z.2
/-! steps of the loops -/
theorem drop_at {α : Type} {fs : List α} {i : Nat} {f : α} (h : fs[i]? = some f) : fs.drop i = f :: fs.drop (i + 1) := by
  obtain ⟨hi, rfl⟩ := List.getElem?_eq_some_iff.mp h
  exact List.drop_eq_getElem_cons hi
theorem grs_step {fs : List (Nat × List Nat)} {i : Nat} {f : Nat × List Nat} (h : fs[i]? = some f) (M : Nat) : M * grs (fs.drop i) = M * lastM f + M * f.1 * grs (fs.drop (i + 1)) := by
  rw [drop_at h]
  show M * (lastM f + f.1 * grs (fs.drop (i + 1))) = _
  rw [Nat.mul_add, Nat.mul_assoc]
theorem cmp_cons (f : Nat × List Nat) (fs : List (Nat × List Nat)) (x : Nat) : cmp (f :: fs) x = if x / f.1 < (stp f (x % f.1)).1 then none else (cmp fs (x / f.1 - (stp f (x % f.1)).1)).map fun p => ((stp f (x % f.1)).2.1 + f.1 * p.1, (stp f (x % f.1)).2.2 + f.1 * p.2) := rfl
theorem cmp_step {fs : List (Nat × List Nat)} {i : Nat} {f : Nat × List Nat} (h : fs[i]? = some f) (x M lo hi : Nat) :
    (cmp (fs.drop i) x).map (fun p => (lo + M * p.1, hi + M * p.2)) = if x / f.1 < (stp f (x % f.1)).1 then none else (cmp (fs.drop (i + 1)) (x / f.1 - (stp f (x % f.1)).1)).map fun p => (lo + M * (stp f (x % f.1)).2.1 + M * f.1 * p.1, hi + M * (stp f (x % f.1)).2.2 + M * f.1 * p.2) := by
  rw [drop_at h, cmp_cons]
  by_cases c : x / f.1 < (stp f (x % f.1)).1
  · rw [if_pos c, if_pos c]; rfl
  · rw [if_neg c, if_neg c, Option.map_map]
    congr 1
    funext p
    simp only [Function.comp]
    rw [Nat.mul_add, Nat.mul_add, Nat.mul_assoc, Nat.mul_assoc, Nat.add_assoc, Nat.add_assoc]
end TM

/-! the two conditions of a cell, decided for any set of remainders -/
namespace TM
theorem find_at {α : Type} {p : α → Bool} : ∀ {l : List α} {i : Nat} {a : α}, (∀ j b, j < i → l[j]? = some b → p b = false) → l[i]? = some a → p a = true → l.find? p = some a
  | [], i, a, _, h, _ => by simp at h
  | b :: l, 0, a, _, h, hp => by
    have e : b = a := by simpa using h
    subst e
    rw [List.find?_cons, hp]
  | b :: l, i + 1, a, hn, h, hp => by
    have h0 := hn 0 b (Nat.succ_pos i) rfl
    rw [List.find?_cons, h0]
    exact find_at (fun j c hj hc => hn (j + 1) c (Nat.succ_lt_succ hj) (by simpa using hc)) (by simpa using h) hp
theorem some_at {α β : Type} {f : α → Option β} {t : β} : ∀ {l : List α} {i : Nat} {a : α}, (∀ j b, j < i → l[j]? = some b → f b = none) → l[i]? = some a → f a = some t → l.findSome? f = some t
  | [], i, a, _, h, _ => by simp at h
  | b :: l, 0, a, _, h, hp => by
    have e : b = a := by simpa using h
    subst e
    rw [List.findSome?_cons, hp]
  | b :: l, i + 1, a, hn, h, hp => by
    have h0 := hn 0 b (Nat.succ_pos i) rfl
    rw [List.findSome?_cons, h0]
    exact some_at (fun j c hj hc => hn (j + 1) c (Nat.succ_lt_succ hj) (by simpa using hc)) (by simpa using h) hp
theorem some_none {α β : Type} {f : α → Option β} {l : List α} (h : ∀ j b, j < l.length → l[j]? = some b → f b = none) : l.findSome? f = none := by
  rw [List.findSome?_eq_none_iff]
  intro a ha
  obtain ⟨j, hj, rfl⟩ := List.getElem_of_mem ha
  exact h j _ hj (List.getElem?_eq_getElem hj)
theorem find_none {α : Type} {p : α → Bool} {l : List α} (h : ∀ j b, j < l.length → l[j]? = some b → p b = false) : l.find? p = none := by
  rw [List.find?_eq_none]
  intro a ha
  obtain ⟨j, hj, rfl⟩ := List.getElem_of_mem ha
  rw [h j _ hj (List.getElem?_eq_getElem hj)]
  decide
/-- what is found first stands somewhere, and nothing ahead of it -/
theorem some_split {α β : Type} {f : α → Option β} {t : β} : ∀ {l : List α}, l.findSome? f = some t → ∃ (i : Nat) (a : α), l[i]? = some a ∧ f a = some t ∧ ∀ (j : Nat) (b : α), j < i → l[j]? = some b → f b = none
  | [], h => by simp at h
  | b :: l, h => by
    rw [List.findSome?_cons] at h
    cases e : f b with
    | some u =>
      rw [e] at h
      exact ⟨0, b, rfl, by rw [e]; exact h, fun j c hj => absurd hj (Nat.not_lt_zero j)⟩
    | none =>
      rw [e] at h
      obtain ⟨i, a, h1, h2, h3⟩ := some_split h
      refine ⟨i + 1, a, by simpa using h1, h2, fun j c hj hc => ?_⟩
      cases j with
      | zero =>
        have e2 : b = c := by simpa using hc
        rw [← e2]
        exact e
      | succ j => exact h3 j c (Nat.lt_of_succ_lt_succ hj) (by simpa using hc)
theorem ev_bit {n l : Nat} (h : n.testBit l = true) (hl : ∀ j, j < l → n.testBit j = false) : 0 < n ∧ ev n = l := by
  refine ev_of l n (Nat.eq_of_testBit_eq fun j => ?_)
  rw [Nat.testBit_mod_two_pow, Nat.testBit_two_pow]
  rcases Nat.lt_trichotomy j l with hj | hj | hj
  · rw [hl j hj, Bool.and_false, decide_eq_false (by omega)]
  · subst hj
    rw [h, decide_eq_true (Nat.lt_succ_self j), decide_eq_true rfl, Bool.and_true]
  · rw [decide_eq_false (show ¬ j < l + 1 by omega), decide_eq_false (show ¬ l = j by omega), Bool.false_and]
/-! ### clashes -/
def xOf (N y z : Nat) : Nat := (2 * z + (N - y)) % N
def clashAt (N : Nat) (ms : List Nat) (y : Nat) : Option (Nat × Nat × Nat) := (ms.find? fun z => decide (z ≠ y ∧ xOf N y z ∈ ms)).map fun z => (y, z, xOf N y z)
def clash (N : Nat) (ms : List Nat) : Option (Nat × Nat × Nat) := ms.findSome? (clashAt N ms)
theorem guard_of {N : Nat} {ms : List Nat} (hu : up N 0 ms = true) {y : Nat} (hy : y ∈ ms) (f1 : ¬ (N % 2 = 0 ∧ (y + N / 2) % N ∈ ms)) (f2 : (bitsN 0 ms * 2 ^ y) &&& sumsN N (bitsN 0 (ms.map fun a => 2 * a)) = 2 ^ (2 * y)) : clashAt N ms y = none := by
  unfold clashAt
  rw [Option.map_eq_none_iff, List.find?_eq_none]
  intro z hz hc
  obtain ⟨hne, hx⟩ := of_decide_eq_true hc
  have hlt : ∀ a ∈ ms, a < N := fun a ha => (up_ge hu a ha).2
  have hy1 := hlt y hy
  have hz1 := hlt z hz
  have hN : 0 < N := by omega
  generalize hxx : xOf N y z = x at hx
  have hx1 := hlt x hx
  have near : 2 * z = x + y ∨ 2 * z = x + y + N ∨ x + y = 2 * z + N := by
    have e := Nat.div_add_mod (2 * z + (N - y)) N
    unfold xOf at hxx
    rw [hxx] at e
    have q3 : (2 * z + (N - y)) / N < 3 := Nat.div_lt_of_lt_mul (by omega)
    have three : ∀ p : Nat, p < 3 → p = 0 ∨ p = 1 ∨ p = 2 := fun p hp => by omega
    rcases three _ q3 with q | q | q
    · rw [q, Nat.mul_zero] at e
      omega
    · rw [q, Nat.mul_one] at e
      omega
    · rw [q] at e
      omega
  have b1 : (bitsN 0 ms * 2 ^ y).testBit (x + y) = true := by
    rw [Nat.testBit_mul_two_pow, bit_ms, Nat.add_sub_cancel]
    simp [hx]
  have b2 : (sumsN N (bitsN 0 (ms.map fun a => 2 * a))).testBit (x + y) = true := by
    unfold sumsN
    rw [Nat.testBit_or, Nat.testBit_or, Nat.testBit_mul_two_pow, Nat.testBit_div_two_pow, bit_ms, bit_ms, bit_ms]
    have m : 2 * z ∈ ms.map fun a => 2 * a := List.mem_map.mpr ⟨z, hz, rfl⟩
    rcases near with e | e | e
    · rw [← e, decide_eq_true m]; rfl
    · rw [← e, decide_eq_true m, Bool.or_true]
    · rw [show x + y - N = 2 * z by omega, decide_eq_true m, decide_eq_true (show N ≤ x + y by omega)]
      simp
  have b3 : (2 ^ (2 * y)).testBit (x + y) = true := by
    rw [← f2, Nat.testBit_and, b1, b2]
    rfl
  rw [Nat.testBit_two_pow, decide_eq_true_eq] at b3
  have hxy : x = y := by omega
  rw [hxy] at near
  rcases near with e | e | e
  · omega
  · refine f1 ⟨by omega, ?_⟩
    rw [show y + N / 2 = z by omega, Nat.mod_eq_of_lt hz1]
    exact hz
  · refine f1 ⟨by omega, ?_⟩
    rw [show y + N / 2 = z + N by omega, Nat.add_mod_right, Nat.mod_eq_of_lt hz1]
    exact hz
/-! ### serving pairs -/
def cov2At (ms : List Nat) (t y : Nat) : Option (Nat × Nat) := (ms.find? fun z => decide (y < z ∧ 2 * z = t + y)).map fun z => (y, z)
def cov2 (ms : List Nat) (t : Nat) : Option (Nat × Nat) := ms.findSome? (cov2At ms t)
theorem cov2_some {ms : List Nat} {t y z : Nat} (h : cov2 ms t = some (y, z)) : y ∈ ms ∧ z ∈ ms ∧ y < z ∧ 2 * z = t + y ∧ ∃ i : Nat, ms[i]? = some y ∧ ∀ j b : Nat, j < i → ms[j]? = some b → ∀ c ∈ ms, ¬ (b < c ∧ 2 * c = t + b) := by
  obtain ⟨i, a, h1, h2, h3⟩ := some_split h
  unfold cov2At at h2
  rw [Option.map_eq_some_iff] at h2
  obtain ⟨z', hz, e⟩ := h2
  cases e
  have hp := List.find?_some hz
  have hm := List.mem_of_find?_eq_some hz
  obtain ⟨p1, p2⟩ := of_decide_eq_true hp
  refine ⟨List.mem_of_getElem? h1, hm, p1, p2, i, h1, fun j b hj hb c hc hh => ?_⟩
  have := h3 j b hj hb
  unfold cov2At at this
  rw [Option.map_eq_none_iff, List.find?_eq_none] at this
  exact this c hc (decide_eq_true hh)
theorem cov2_none {ms : List Nat} {t : Nat} (h : cov2 ms t = none) : ∀ y ∈ ms, ∀ z ∈ ms, ¬ (y < z ∧ 2 * z = t + y) := fun y hy z hz hh => by
  unfold cov2 at h
  rw [List.findSome?_eq_none_iff] at h
  have := h y hy
  unfold cov2At at this
  rw [Option.map_eq_none_iff, List.find?_eq_none] at this
  exact this z hz (decide_eq_true hh)
theorem cov2_bit {N : Nat} {ms : List Nat} (hu : up N 0 ms = true) (t : Nat) : (covN (ms.getD (ms.length - 1) 0) 0 0 ms).testBit t = (cov2 ms t).isSome := by
  cases e : cov2 ms t with
  | some p =>
    obtain ⟨h1, h2, h3, h4, _⟩ := cov2_some e
    exact (bit_covered hu t).mpr ⟨p.1, p.2, h1, h2, h3, by omega⟩
  | none =>
    cases e2 : (covN (ms.getD (ms.length - 1) 0) 0 0 ms).testBit t with
    | false => rfl
    | true =>
      obtain ⟨y, z, h1, h2, h3, h4⟩ := (bit_covered hu t).mp e2
      exact absurd ⟨h3, by omega⟩ (cov2_none e y h1 z h2)
def server (N : Nat) (ms : List Nat) (r : Nat) : Option (Nat × Nat × Nat) := match cov2 ms r with
  | some p => some (0, p.1, p.2)
  | none => (cov2 ms (r + N)).map fun p => (1, p.1, p.2)
theorem cov2_high {N : Nat} {ms : List Nat} (hu : up N 0 ms = true) {r : Nat} (h : ms.getD (ms.length - 1) 0 ≤ r) : cov2 ms (r + N) = none := by
  cases e : cov2 ms (r + N) with
  | none => rfl
  | some p =>
    obtain ⟨h1, h2, h3, h4, _⟩ := cov2_some e
    have a1 := (up_ge hu p.2 h2).2
    have a2 : p.2 ≤ ms.getD (ms.length - 1) 0 := by
      obtain ⟨j, hj, e⟩ := List.getElem_of_mem h2
      have e1 : ms.getD j 0 = p.2 := by rw [List.getD_eq_getElem?_getD, List.getElem?_eq_getElem hj, Option.getD_some, e]
      rw [← e1]
      rcases Nat.lt_or_ge j (ms.length - 1) with z | z
      · exact Nat.le_of_lt (up_get hu j _ z (by omega))
      · rw [show j = ms.length - 1 by omega]
        exact Nat.le_refl _
    omega
def bad (N : Nat) (ms : List Nat) (r : Nat) : Bool := decide (r ∉ ms) && (server N ms r).isNone
def unserved (N : Nat) (ms : List Nat) : Option Nat := (List.range N).find? (bad N ms)
theorem srv_bit {N : Nat} {ms : List Nat} (hu : up N 0 ms = true) {r : Nat} : (servedN N (bitsN 0 ms) (covN (ms.getD (ms.length - 1) 0) 0 0 ms)).testBit r = (decide (r < N) && bad N ms r) := by
  unfold servedN bad server
  rw [Nat.testBit_xor, Nat.testBit_and, Nat.testBit_two_pow_sub_one, Nat.testBit_or, Nat.testBit_or, Nat.testBit_div_two_pow, bit_ms, cov2_bit hu, cov2_bit hu]
  cases decide (r < N) with
  | false => rfl
  | true =>
    by_cases h : r ∈ ms
    · simp [h]
    · cases e1 : cov2 ms r with
      | some p => simp [h]
      | none =>
        cases e2 : cov2 ms (r + N) with
        | some p => simp [h]
        | none => simp [h]
theorem uns_none {N : Nat} {ms : List Nat} (hu : up N 0 ms = true) (h : unserved N ms = none) : servedN N (bitsN 0 ms) (covN (ms.getD (ms.length - 1) 0) 0 0 ms) = 0 := by
  refine Nat.eq_of_testBit_eq fun j => ?_
  rw [srv_bit hu, Nat.zero_testBit]
  by_cases hj : j < N
  · unfold unserved at h
    rw [List.find?_eq_none] at h
    have := h j (List.mem_range.mpr hj)
    cases e : bad N ms j with
    | false => rw [Bool.and_false]
    | true => exact absurd e this
  · rw [decide_eq_false hj, Bool.false_and]
theorem uns_some {N : Nat} {ms : List Nat} (hu : up N 0 ms = true) {r : Nat} (h : unserved N ms = some r) : 0 < servedN N (bitsN 0 ms) (covN (ms.getD (ms.length - 1) 0) 0 0 ms) ∧ ev (servedN N (bitsN 0 ms) (covN (ms.getD (ms.length - 1) 0) 0 0 ms)) = r := by
  have hp := List.find?_some h
  have hm := List.mem_range.mp (List.mem_of_find?_eq_some h)
  refine ev_bit (by rw [srv_bit hu, decide_eq_true hm, hp]; rfl) fun j hj => ?_
  rw [srv_bit hu, decide_eq_true (Nat.lt_trans hj hm), Bool.true_and]
  unfold unserved at h
  cases e : bad N ms j with
  | false => rfl
  | true =>
    obtain ⟨as, bs, e2, hn⟩ := (List.find?_eq_some_iff_append.mp h).2
    exfalso
    have hl : as.length = r := by
      have q : (List.range N)[as.length]? = some r := by rw [e2]; simp
      have q2 : as.length < N := by
        have := (List.getElem?_eq_some_iff.mp q).1
        rwa [List.length_range] at this
      rw [List.getElem?_range q2] at q
      exact Option.some.inj q
    have hj2 : j ∈ as := by
      have q : (List.range N)[j]? = some j := List.getElem?_range (Nat.lt_trans hj hm)
      rw [e2, List.getElem?_append_left (by omega)] at q
      exact List.mem_of_getElem? q
    have := hn j hj2
    rw [e] at this
    cases this
/-- the serving pair as the bits tell it -/
theorem pair_bit {N : Nat} {ms : List Nat} (hu : up N 0 ms = true) {r : Nat} (hr : r < N) (hn : r ∉ ms) {c y z : Nat} (h : server N ms r = some (c, y, z)) :
    c = (if (covN (ms.getD (ms.length - 1) 0) 0 0 ms).testBit r = true then 0 else 1) ∧ y < z ∧ z ∈ ms ∧ y ∈ ms ∧ 2 * z = r + N * c + y ∧ 0 < (bitsN 0 ms &&& bitsN 0 (ms.map fun a => 2 * a) / 2 ^ (r + N * c)) ∧ ev (bitsN 0 ms &&& bitsN 0 (ms.map fun a => 2 * a) / 2 ^ (r + N * c)) = y := by
  have key : ∀ t, cov2 ms t = some (y, z) → (t < N → t = r) → y < z ∧ z ∈ ms ∧ y ∈ ms ∧ 2 * z = t + y ∧ 0 < (bitsN 0 ms &&& bitsN 0 (ms.map fun a => 2 * a) / 2 ^ t) ∧ ev (bitsN 0 ms &&& bitsN 0 (ms.map fun a => 2 * a) / 2 ^ t) = y := fun t e ht => by
    obtain ⟨h1, h2, h3, h4, i, hi, hf⟩ := cov2_some e
    refine ⟨h3, h2, h1, h4, ?_⟩
    refine ev_bit ?_ fun j hj => ?_
    · rw [Nat.testBit_and, Nat.testBit_div_two_pow, bit_ms, bit_ms, decide_eq_true h1, decide_eq_true (List.mem_map.mpr ⟨z, h2, by omega⟩)]
      rfl
    · rw [Nat.testBit_and, Nat.testBit_div_two_pow, bit_ms, bit_ms]
      cases hb : (decide (j ∈ ms) && decide (j + t ∈ ms.map fun a => 2 * a)) with
      | false => rfl
      | true =>
        rw [Bool.and_eq_true, decide_eq_true_eq, decide_eq_true_eq] at hb
        obtain ⟨hj1, hj2⟩ := hb
        obtain ⟨w, hw, ew⟩ := List.mem_map.mp hj2
        obtain ⟨k, hk, ek⟩ := List.getElem_of_mem hj1
        have hki : k < i := by
          rcases Nat.lt_or_ge k i with q | q
          · exact q
          · exfalso
            have gi : ms.getD i 0 = y := by rw [List.getD_eq_getElem?_getD, hi]; rfl
            have gk : ms.getD k 0 = j := by rw [List.getD_eq_getElem?_getD, List.getElem?_eq_getElem hk, Option.getD_some, ek]
            rcases Nat.lt_or_ge i k with q2 | q2
            · have := up_get hu i k q2 hk
              omega
            · have : i = k := by omega
              subst this
              omega
        exact absurd ⟨by omega, by omega⟩ (hf k j hki (by rw [List.getElem?_eq_getElem hk, ek]) w hw)
  unfold server at h
  cases e1 : cov2 ms r with
  | some p =>
    rw [e1] at h
    cases h
    have k := key r e1 fun _ => rfl
    refine ⟨by rw [cov2_bit hu, e1]; rfl, ?_⟩
    rw [Nat.mul_zero, Nat.add_zero]
    exact k
  | none =>
    rw [e1] at h
    rw [Option.map_eq_some_iff] at h
    obtain ⟨p, hp, e⟩ := h
    cases e
    have k := key (r + N) hp fun z => absurd z (by omega)
    refine ⟨by rw [cov2_bit hu, e1]; rfl, ?_⟩
    rw [Nat.mul_one]
    exact k
end TM

/-! cells of any size: the two conditions, and that products keep them -/
namespace TM
/-- a cell: its members ascending, no three evenly spaced ones in turn, every other remainder served -/
structure Cel (N : Nat) (ms : List Nat) : Prop where
  up : up N 0 ms = true
  pos : 0 < ms.length
  free : ∀ y ∈ ms, ∀ z ∈ ms, z ≠ y → (2 * z + (N - y)) % N ∉ ms
  serve : ∀ r, r < N → r ∉ ms → ∃ y ∈ ms, ∃ z ∈ ms, y < z ∧ ∃ c, c ≤ 1 ∧ 2 * z = r + c * N + y
theorem Cel.lt {N : Nat} {ms : List Nat} (c : Cel N ms) {y : Nat} (h : y ∈ ms) : y < N := (up_ge c.up y h).2
theorem Cel.npos {N : Nat} {ms : List Nat} (c : Cel N ms) : 0 < N := by
  obtain ⟨a, ha⟩ := List.exists_mem_of_length_pos c.pos
  have := c.lt ha
  omega
theorem Cel.clash {N : Nat} {ms : List Nat} (c : Cel N ms) : clash N ms = none := by
  unfold TM.clash
  refine some_none fun j y _ hy => ?_
  unfold clashAt
  rw [find_none fun i z _ hz => decide_eq_false fun h => c.free y (List.mem_of_getElem? hy) z (List.mem_of_getElem? hz) h.1 h.2]
  rfl
theorem Cel.server {N : Nat} {ms : List Nat} (c : Cel N ms) {r : Nat} (hr : r < N) (hn : r ∉ ms) : (server N ms r).isSome = true := by
  obtain ⟨y, hy, z, hz, h1, o, ho, h2⟩ := c.serve r hr hn
  unfold TM.server
  cases e : cov2 ms r with
  | some p => rfl
  | none =>
    cases e2 : cov2 ms (r + N) with
    | some p => rfl
    | none =>
      exfalso
      rcases (show o = 0 ∨ o = 1 by omega) with rfl | rfl
      · exact cov2_none e y hy z hz ⟨h1, by omega⟩
      · exact cov2_none e2 y hy z hz ⟨h1, by omega⟩
theorem Cel.served {N : Nat} {ms : List Nat} (c : Cel N ms) : unserved N ms = none := by
  unfold unserved
  refine find_none fun j r hj hr => ?_
  rw [List.length_range] at hj
  rw [List.getElem?_range hj] at hr
  cases hr
  unfold bad
  by_cases h : j ∈ ms
  · rw [decide_eq_false (fun z => z h), Bool.false_and]
  · have := c.server hj h
    rw [Option.isNone_eq_false_iff.mpr this, Bool.and_false]
/-- back from pairwise -/
theorem up_of {N : Nat} : ∀ {l : List Nat} {lo : Nat}, l.Pairwise (· < ·) → (∀ a ∈ l, lo ≤ a ∧ a < N) → up N lo l = true
  | [], _, _, _ => rfl
  | a :: r, lo, hp, h => by
    obtain ⟨h1, h2⟩ := List.pairwise_cons.mp hp
    have ha := h a List.mem_cons_self
    simp only [up, Bool.and_eq_true, decide_eq_true_eq]
    exact ⟨ha.1, ha.2, up_of h2 fun b hb => ⟨h1 b hb, (h b (List.mem_cons_of_mem _ hb)).2⟩⟩
theorem jn_pair {f : Nat × List Nat} (hf : ∀ a ∈ f.2, a < f.1) (p1 : f.2.Pairwise (· < ·)) : ∀ {l : List Nat}, l.Pairwise (· < ·) → (l.flatMap fun h => f.2.map fun a => a + f.1 * h).Pairwise (· < ·)
  | [], _ => .nil
  | h :: l, hp => by
    obtain ⟨h1, h2⟩ := List.pairwise_cons.mp hp
    rw [List.flatMap_cons]
    refine List.pairwise_append.mpr ⟨List.pairwise_map.mpr (p1.imp fun {a b} z => by omega), jn_pair hf p1 h2, fun x hx y hy => ?_⟩
    obtain ⟨a, ha, rfl⟩ := List.mem_map.mp hx
    obtain ⟨g, hg, hy2⟩ := List.mem_flatMap.mp hy
    obtain ⟨b, hb, rfl⟩ := List.mem_map.mp hy2
    have h3 := h1 g hg
    have h4 := hf a ha
    have h5 : f.1 * (h + 1) ≤ f.1 * g := Nat.mul_le_mul_left _ h3
    rw [Nat.mul_add, Nat.mul_one] at h5
    omega
/-- the remainder of 2 z - y in both parts -/
theorem rem_parts {M N y1 y2 z1 z2 x1 x2 : Nat} (hy1 : y1 < M) (hy2 : y2 < N) (hx1 : x1 < M) (hx2 : x2 < N) (h : (2 * (z1 + M * z2) + (M * N - (y1 + M * y2))) % (M * N) = x1 + M * x2) :
    (2 * z1 + (M - y1)) % M = x1 ∧ (z1 = y1 → (2 * z2 + (N - y2)) % N = x2) := by
  have hle : y1 + M * y2 < M * N := by
    have : M * (y2 + 1) ≤ M * N := Nat.mul_le_mul_left _ hy2
    rw [Nat.mul_add, Nat.mul_one] at this
    omega
  have hM : 0 < M := by omega
  have e0 : M * N = M * (N - 1 - y2) + M * y2 + M := by
    rw [← Nat.mul_add, show N - 1 - y2 + y2 = N - 1 by omega]
    conv => lhs; rw [show N = N - 1 + 1 by omega]
    rw [Nat.mul_add, Nat.mul_one]
  have e1 : 2 * (z1 + M * z2) + (M * N - (y1 + M * y2)) = 2 * z1 + (M - y1) + M * (2 * z2 + (N - 1 - y2)) := by
    rw [Nat.mul_add M (2 * z2), ← Nat.mul_assoc, Nat.mul_comm M 2, Nat.mul_assoc]
    omega
  rw [e1] at h
  have a1 : (2 * z1 + (M - y1)) % M = x1 := by
    have this : ((2 * z1 + (M - y1) + M * (2 * z2 + (N - 1 - y2))) % (M * N)) % M = (x1 + M * x2) % M := by rw [h]
    rw [Nat.mod_mul_right_mod, Nat.add_mul_mod_self_left, Nat.add_mul_mod_self_left, Nat.mod_eq_of_lt hx1] at this
    exact this
  refine ⟨a1, fun e => ?_⟩
  subst e
  have e2 : 2 * z1 + (M - z1) + M * (2 * z2 + (N - 1 - y2)) = z1 + M * (2 * z2 + (N - y2)) := by
    rw [show N - y2 = N - 1 - y2 + 1 by omega, ← Nat.add_assoc (2 * z2), Nat.mul_add M (2 * z2 + (N - 1 - y2)), Nat.mul_one]
    omega
  rw [e2, Nat.mod_mul, Nat.add_mul_mod_self_left, Nat.mod_eq_of_lt hy1, Nat.add_mul_div_left _ _ hM, Nat.div_eq_of_lt hy1, Nat.zero_add] at h
  have h3 : x1 = z1 := by
    have this := congrArg (fun n => n % M) h
    have this : (z1 + M * ((2 * z2 + (N - y2)) % N)) % M = (x1 + M * x2) % M := this
    rw [Nat.add_mul_mod_self_left, Nat.add_mul_mod_self_left, Nat.mod_eq_of_lt hx1, Nat.mod_eq_of_lt hy1] at this
    exact this.symm
  rw [h3] at h
  exact Nat.eq_of_mul_eq_mul_left hM (by omega)
/-- THE PRODUCT of cells is a cell -/
theorem Cel.jn {f o : Nat × List Nat} (c1 : Cel f.1 f.2) (c2 : Cel o.1 o.2) : Cel (TM.jn f o).1 (TM.jn f o).2 := by
  have hf : ∀ a ∈ f.2, a < f.1 := fun a ha => c1.lt ha
  have h0 := c1.npos
  have h2 := c2.npos
  have mem := fun {y : Nat} => jn_mem (o := o) hf (y := y) h0
  have mk : ∀ {a b : Nat}, a ∈ f.2 → b ∈ o.2 → a + f.1 * b ∈ (TM.jn f o).2 := fun {a b} ha hb => mem.mpr (by
    rw [Nat.add_mul_mod_self_left, Nat.mod_eq_of_lt (hf a ha), Nat.add_mul_div_left _ _ h0, Nat.div_eq_of_lt (hf a ha), Nat.zero_add]
    exact ⟨ha, hb⟩)
  have lt2 : ∀ {y : Nat}, y ∈ (TM.jn f o).2 → y < f.1 * o.1 := fun {y} hy => by
    have h := mem.mp hy
    have a := c2.lt h.2
    have b := Nat.mod_lt y h0
    have e := Nat.mod_add_div y f.1
    have : f.1 * (y / f.1 + 1) ≤ f.1 * o.1 := Nat.mul_le_mul_left _ a
    rw [Nat.mul_add, Nat.mul_one] at this
    omega
  refine ⟨up_of (jn_pair hf (up_pw c1.up) (up_pw c2.up)) fun a ha => ⟨Nat.zero_le _, lt2 ha⟩, ?_, fun y hy z hz ne hx => ?_, fun r hr hn => ?_⟩
  · obtain ⟨a, ha⟩ := List.exists_mem_of_length_pos c1.pos
    obtain ⟨b, hb⟩ := List.exists_mem_of_length_pos c2.pos
    exact List.length_pos_of_mem (mk ha hb)
  · have my := mem.mp hy
    have mz := mem.mp hz
    have mx := mem.mp hx
    have ey := Nat.mod_add_div y f.1
    have ez := Nat.mod_add_div z f.1
    have hxl := lt2 hx
    have ex := Nat.mod_add_div ((2 * z + ((TM.jn f o).1 - y)) % (TM.jn f o).1) f.1
    have p := rem_parts (M := f.1) (N := o.1) (y1 := y % f.1) (y2 := y / f.1) (z1 := z % f.1) (z2 := z / f.1) (Nat.mod_lt _ h0) (c2.lt my.2) (Nat.mod_lt _ h0) (c2.lt mx.2) (by rw [ey, ez]; exact ex.symm)
    have e1 : z % f.1 = y % f.1 := Classical.byContradiction fun ne1 => c1.free _ my.1 _ mz.1 ne1 (by rw [p.1]; exact mx.1)
    have e2 : z / f.1 = y / f.1 := Classical.byContradiction fun ne2 => c2.free _ my.2 _ mz.2 ne2 (by rw [p.2 e1]; exact mx.2)
    exact ne (by rw [← ey, ← ez, e1, e2])
  · have er := Nat.mod_add_div r f.1
    have hr1 := Nat.mod_lt r h0
    have hr2 : r / f.1 < o.1 := Nat.div_lt_of_lt_mul hr
    generalize r % f.1 = r1 at er hr1
    generalize r / f.1 = r2 at er hr2
    subst er
    have hn2 : ¬ (r1 ∈ f.2 ∧ r2 ∈ o.2) := fun h => hn (mk h.1 h.2)
    have step : ∀ {a b : Nat}, a < b → f.1 * a + f.1 ≤ f.1 * b := fun {a b} h => by
      have : f.1 * (a + 1) ≤ f.1 * b := Nat.mul_le_mul_left _ h
      rw [Nat.mul_add, Nat.mul_one] at this
      exact this
    have two : ∀ z : Nat, 2 * (f.1 * z) = f.1 * (2 * z) := fun z => by rw [← Nat.mul_assoc, Nat.mul_comm 2, Nat.mul_assoc]
    by_cases c : r1 ∈ f.2
    · obtain ⟨y, hy, z, hz, hlt, o', ho, he⟩ := c2.serve r2 hr2 fun h => hn2 ⟨c, h⟩
      refine ⟨r1 + f.1 * y, mk c hy, r1 + f.1 * z, mk c hz, by have := step hlt; omega, o', ho, ?_⟩
      show 2 * (r1 + f.1 * z) = r1 + f.1 * r2 + o' * (f.1 * o.1) + (r1 + f.1 * y)
      rw [Nat.mul_add, two, he, Nat.mul_add, Nat.mul_add, Nat.mul_left_comm o' f.1 o.1]
      omega
    · obtain ⟨y1, hy1, z1, hz1, hlt1, o1, ho1, he1⟩ := c1.serve r1 hr1 c
      -- the second part: total r2 - o1, or the one below
      have second : ∃ y2 ∈ o.2, ∃ z2 ∈ o.2, y2 ≤ z2 ∧ ∃ d, d ≤ 1 ∧ 2 * z2 + o1 = r2 + d * o.1 + y2 := by
        by_cases k : o1 ≤ r2
        · by_cases m : r2 - o1 ∈ o.2
          · exact ⟨_, m, _, m, Nat.le_refl _, 0, Nat.zero_le _, by omega⟩
          · obtain ⟨y, hy, z, hz, hlt, d, hd, he⟩ := c2.serve (r2 - o1) (by omega) m
            exact ⟨y, hy, z, hz, Nat.le_of_lt hlt, d, hd, by omega⟩
        · have e1 : o1 = 1 := by omega
          have e2 : r2 = 0 := by omega
          subst e1 e2
          by_cases m : o.1 - 1 ∈ o.2
          · exact ⟨_, m, _, m, Nat.le_refl _, 1, Nat.le_refl _, by omega⟩
          · obtain ⟨y, hy, z, hz, hlt, d, hd, he⟩ := c2.serve (o.1 - 1) (by omega) m
            have lz := c2.lt hz
            rcases (show d = 0 ∨ d = 1 by omega) with rfl | rfl
            · exact ⟨y, hy, z, hz, Nat.le_of_lt hlt, 1, Nat.le_refl _, by omega⟩
            · omega
      obtain ⟨y2, hy2, z2, hz2, hle2, d, hd, he2⟩ := second
      refine ⟨y1 + f.1 * y2, mk hy1 hy2, z1 + f.1 * z2, mk hz1 hz2, ?_, d, hd, ?_⟩
      · have : f.1 * y2 ≤ f.1 * z2 := Nat.mul_le_mul_left _ hle2
        omega
      · show 2 * (z1 + f.1 * z2) = r1 + f.1 * r2 + d * (f.1 * o.1) + (y1 + f.1 * y2)
        have e3 : f.1 * (2 * z2 + o1) = f.1 * (r2 + d * o.1 + y2) := by rw [he2]
        rw [Nat.mul_add, Nat.mul_add, Nat.mul_add, Nat.mul_left_comm f.1 d o.1] at e3
        rw [Nat.mul_add, two, he1, Nat.mul_comm o1 f.1]
        omega
end TM

/-! greedy sequences: members behind a start, number by number; the bits that decide -/
namespace GS
open TM
/-- two members of l cover x -/
def Cv (l : List Nat) (x : Nat) : Prop := ∃ y z, y ∈ l ∧ z ∈ l ∧ y < z ∧ 2 * z = x + y
def cvB (l : List Nat) (x : Nat) : Bool := l.any fun y => l.any fun z => decide (y < z ∧ 2 * z = x + y)
theorem cvB_iff {l : List Nat} {x : Nat} : cvB l x = true ↔ Cv l x := by
  unfold cvB Cv
  simp only [List.any_eq_true, decide_eq_true_eq]
  constructor
  · rintro ⟨y, hy, z, hz, h⟩; exact ⟨y, z, hy, hz, h⟩
  · rintro ⟨y, z, hy, hz, h⟩; exact ⟨y, hy, z, hz, h⟩
instance {l : List Nat} {x : Nat} : Decidable (Cv l x) := decidable_of_iff _ cvB_iff
theorem Cv.mono {l m : List Nat} {x : Nat} (h : ∀ y ∈ l, y ∈ m) : Cv l x → Cv m x := fun ⟨y, z, a, b, c⟩ => ⟨y, z, h _ a, h _ b, c⟩
def Free (l : List Nat) : Prop := ∀ x ∈ l, ¬ Cv l x
/-- a start -/
structure Start (S : List Nat) (L : Nat) : Prop where
  asc : S.Pairwise (· < ·)
  free : Free S
  le : ∀ x ∈ S, x ≤ L
  mem : L ∈ S
/-- the members up to t numbers behind the start -/
def gl (S : List Nat) (L : Nat) : Nat → List Nat
  | 0 => S
  | t + 1 => if cvB (gl S L t) (L + t + 1) then gl S L t else gl S L t ++ [L + t + 1]
variable {S : List Nat} {L : Nat}
theorem gl_succ (S : List Nat) (L t : Nat) : gl S L (t + 1) = if cvB (gl S L t) (L + t + 1) then gl S L t else gl S L t ++ [L + t + 1] := rfl
theorem gl_le (h : ∀ x ∈ S, x ≤ L) : ∀ t, ∀ x ∈ gl S L t, x ≤ L + t
  | 0, x, hx => h x hx
  | t + 1, x, hx => by
    rw [gl_succ] at hx
    split at hx
    · have := gl_le h t x hx; omega
    · rcases List.mem_append.mp hx with hx | hx
      · have := gl_le h t x hx; omega
      · rw [List.mem_singleton.mp hx]; omega
theorem gl_sub (t : Nat) : ∀ k, ∀ x ∈ gl S L t, x ∈ gl S L (t + k)
  | 0, x, hx => hx
  | k + 1, x, hx => by
    have := gl_sub t k x hx
    show x ∈ gl S L ((t + k) + 1)
    rw [gl_succ]
    split
    · exact this
    · exact List.mem_append_left _ this
theorem gl_low (h : ∀ x ∈ S, x ≤ L) {t x : Nat} (hx : x ≤ L + t) : ∀ k, x ∈ gl S L (t + k) ↔ x ∈ gl S L t
  | 0 => Iff.rfl
  | k + 1 => by
    show x ∈ gl S L ((t + k) + 1) ↔ _
    rw [gl_succ]
    split
    · exact gl_low h hx k
    · rw [List.mem_append, gl_low h hx k, List.mem_singleton]
      constructor
      · rintro (a | a)
        · exact a
        · omega
      · exact .inl
theorem gl_low2 (h : ∀ x ∈ S, x ≤ L) {t u x : Nat} (hx : x ≤ L + t) (hu : t ≤ u) : x ∈ gl S L u ↔ x ∈ gl S L t := by
  obtain ⟨k, rfl⟩ := Nat.le.dest hu
  exact gl_low h hx k
theorem Cv_low (h : ∀ x ∈ S, x ≤ L) {t u x : Nat} (hx : x ≤ L + t + 1) (hu : t ≤ u) : Cv (gl S L u) x ↔ Cv (gl S L t) x := by
  obtain ⟨k, rfl⟩ := Nat.le.dest hu
  constructor
  · rintro ⟨y, z, a, b, c, d⟩
    exact ⟨y, z, (gl_low h (by omega) k).mp a, (gl_low h (by omega) k).mp b, c, d⟩
  · rintro ⟨y, z, a, b, c, d⟩
    exact ⟨y, z, gl_sub t k _ a, gl_sub t k _ b, c, d⟩
/-- a number behind the start is a member exactly if it is not covered -/
theorem gl_spec (h : ∀ x ∈ S, x ≤ L) {x : Nat} (h1 : L < x) : ∀ {t : Nat}, x ≤ L + t → (x ∈ gl S L t ↔ ¬ Cv (gl S L t) x) := by
  obtain ⟨d, rfl⟩ : ∃ d, x = L + d + 1 := ⟨x - L - 1, by omega⟩
  intro t ht
  rw [gl_low2 h (t := d + 1) (by omega) (show d + 1 ≤ t by omega), Cv_low h (t := d) (by omega) (show d ≤ t by omega)]
  show L + d + 1 ∈ gl S L (d + 1) ↔ _
  rw [gl_succ]
  split
  · rename_i c
    have c' := cvB_iff.mp c
    constructor
    · intro a
      have := gl_le h d _ a
      omega
    · exact fun a => absurd c' a
  · rename_i c
    refine ⟨fun _ a => c (cvB_iff.mpr a), fun _ => List.mem_append_right _ List.mem_cons_self⟩
theorem gl_asc (h : Start S L) : ∀ t, (gl S L t).Pairwise (· < ·)
  | 0 => h.asc
  | t + 1 => by
    rw [gl_succ]
    split
    · exact gl_asc h t
    · refine List.pairwise_append.mpr ⟨gl_asc h t, List.pairwise_singleton _ _, fun a ha b hb => ?_⟩
      rw [List.mem_singleton.mp hb]
      have := gl_le h.le t a ha
      omega
theorem gl_start (h : Start S L) {x t : Nat} (hx : x ≤ L) : x ∈ gl S L t ↔ x ∈ S := gl_low2 h.le (t := 0) hx (Nat.zero_le _)
theorem gl_free (h : Start S L) (t : Nat) : Free (gl S L t) := by
  intro x hx c
  rcases Nat.lt_or_ge L x with z | z
  · exact (gl_spec h.le z (gl_le h.le t x hx)).mp hx c
  · refine h.free x ((gl_start h z).mp hx) ?_
    obtain ⟨y, w, a, b, c, d⟩ := c
    exact ⟨y, w, (gl_start h (by omega)).mp a, (gl_start h (by omega)).mp b, c, d⟩
theorem gl_up (h : Start S L) (t : Nat) {N : Nat} (hN : L + t < N) : up N 0 (gl S L t) = true := up_of (gl_asc h t) fun a ha => ⟨Nat.zero_le _, Nat.lt_of_le_of_lt (gl_le h.le t a ha) hN⟩
/-- numbers that are covered between are passed over -/
theorem gl_skip {t : Nat} : ∀ k, (∀ d, t < d → d ≤ t + k → Cv (gl S L t) (L + d)) → gl S L (t + k) = gl S L t
  | 0, _ => rfl
  | k + 1, h => by
    have e := gl_skip k fun d h1 h2 => h d h1 (by omega)
    show gl S L ((t + k) + 1) = _
    rw [gl_succ, e]
    exact if_pos (cvB_iff.mpr (h (t + k + 1) (by omega) (by omega)))
theorem gl_jump {t p : Nat} (h1 : t < p) (h2 : ∀ d, t < d → d < p → Cv (gl S L t) (L + d)) (h3 : ¬ Cv (gl S L t) (L + p)) : gl S L p = gl S L t ++ [L + p] := by
  obtain ⟨k, rfl⟩ : ∃ k, p = t + k + 1 := ⟨p - t - 1, by omega⟩
  have e := gl_skip (S := S) (L := L) (t := t) k fun d a b => h2 d a (by omega)
  show gl S L ((t + k) + 1) = _
  rw [gl_succ, e]
  exact if_neg fun z => h3 (cvB_iff.mp z)
theorem gl_last (h : Start S L) (t : Nat) : (gl S L t).length ≠ 0 := by
  have : L ∈ gl S L t := (gl_start h (Nat.le_refl _)).mpr h.mem
  intro e
  rw [List.length_eq_zero_iff] at e
  rw [e] at this
  cases this
/-! ### the bits -/
def R : Nat := 2000
structure Gw (S : List Nat) (L : Nat) (ms : List Nat) (dec mir : Nat) : Prop where
  at_ : ∃ t, t ≤ 2000 ∧ ms = gl S L t
  dec : ∀ d, dec.testBit d = true ↔ d ≤ 2000 ∧ (d = 0 ∨ L + d ∈ ms ∨ Cv ms (L + d))
  mir : ∀ k, mir.testBit k = true ↔ k ≤ 4000 ∧ ∃ y ∈ ms, y + k = L + 2000
theorem lt_of_bits {n a : Nat} (h : ∀ i, n.testBit i = true → i < a) : n < 2 ^ a := by
  refine Nat.lt_pow_two_of_testBit n fun i hi => ?_
  cases e : n.testBit i with
  | false => rfl
  | true => exact absurd (h i e) (by omega)
theorem Gw.dlt {ms : List Nat} {dec mir : Nat} (g : Gw S L ms dec mir) : dec < 2 ^ 2001 := lt_of_bits fun i h => by have := ((g.dec i).mp h).1; omega
theorem Gw.mlt {ms : List Nat} {dec mir : Nat} (g : Gw S L ms dec mir) : mir < 2 ^ 4001 := lt_of_bits fun i h => by have := ((g.mir i).mp h).1; omega
/-- the lowest bit that is not set -/
theorem ev_bits : ∀ (n : Nat), 0 < n → (∀ j, j < ev n → (n - 1).testBit j = true) ∧ (n - 1).testBit (ev n) = false := by
  intro n
  induction n using Nat.strongRecOn with
  | ind n ih =>
    intro hn
    obtain ⟨m, rfl | rfl⟩ : ∃ m, n = 2 * m ∨ n = 2 * m + 1 := ⟨n / 2, by omega⟩
    · have hm : 0 < m := by omega
      obtain ⟨a, b⟩ := ih m (by omega) hm
      rw [ev_even hm]
      have e : 2 * m - 1 = 2 * (m - 1) + 1 := by omega
      rw [e]
      refine ⟨fun j hj => ?_, ?_⟩
      · cases j with
        | zero => rw [Nat.testBit_zero]; simp
        | succ j => rw [Nat.testBit_succ, show (2 * (m - 1) + 1) / 2 = m - 1 by omega]; exact a j (by omega)
      · rw [Nat.testBit_succ, show (2 * (m - 1) + 1) / 2 = m - 1 by omega]; exact b
    · rw [Nat.add_comm, ev_odd]
      refine ⟨fun j hj => absurd hj (Nat.not_lt_zero _), ?_⟩
      rw [show 1 + 2 * m - 1 = 2 * m by omega, Nat.testBit_zero]
      simp
theorem Gw.step (h : Start S L) {ms : List Nat} {dec mir : Nat} (g : Gw S L ms dec mir) (hp : ev (dec + 1) ≤ 2000) :
    Gw S L (ms ++ [L + ev (dec + 1)]) ((dec ||| 2 ^ ev (dec + 1)) ||| (mvN mir (ev (dec + 1)) 2000 &&& (2 ^ 2001 - 1))) (mir ||| 2 ^ (2000 - ev (dec + 1))) := by
  obtain ⟨b1, b2⟩ := ev_bits (dec + 1) (Nat.succ_pos _)
  rw [Nat.add_sub_cancel] at b1 b2
  generalize ev (dec + 1) = p at b1 b2 hp ⊢
  obtain ⟨t, ht, rfl⟩ := g.at_
  have nb : ¬ (p ≤ 2000 ∧ (p = 0 ∨ L + p ∈ gl S L t ∨ Cv (gl S L t) (L + p))) := fun z => by rw [(g.dec p).mpr z] at b2; cases b2
  have p0 : p ≠ 0 := fun z => nb ⟨hp, .inl z⟩
  have pm : L + p ∉ gl S L t := fun z => nb ⟨hp, .inr (.inl z)⟩
  have pc : ¬ Cv (gl S L t) (L + p) := fun z => nb ⟨hp, .inr (.inr z)⟩
  have tp : t < p := by
    rcases Nat.lt_or_ge t p with z | z
    · exact z
    · exact absurd ((gl_spec h.le (show L < L + p by omega) (show L + p ≤ L + t by omega)).mpr pc) pm
  have jump : gl S L p = gl S L t ++ [L + p] := gl_jump tp (fun d h1 h2 => by
    obtain ⟨_, h3⟩ := (g.dec d).mp (b1 d h2)
    rcases h3 with h3 | h3 | h3
    · omega
    · have := gl_le h.le t _ h3; omega
    · exact h3) pc
  have all_lt : ∀ y ∈ gl S L t, y < L + p := fun y hy => by have := gl_le h.le t y hy; omega
  have hmv : ∀ d, (mvN mir p 2000).testBit d = true ↔ ∃ y ∈ gl S L t, y + d = L + 2 * p ∧ L ≤ y + 2000 := by
    intro d
    unfold mvN
    by_cases c : 2 * p < 2000
    · rw [if_pos c, Nat.testBit_div_two_pow, g.mir]
      constructor
      · rintro ⟨h1, y, hy, e⟩
        exact ⟨y, hy, by omega, by omega⟩
      · rintro ⟨y, hy, e, e2⟩
        exact ⟨by omega, y, hy, by omega⟩
    · rw [if_neg c, Nat.testBit_mul_two_pow, Bool.and_eq_true, decide_eq_true_eq, g.mir]
      constructor
      · rintro ⟨h1, h2, y, hy, e⟩
        exact ⟨y, hy, by omega, by omega⟩
      · rintro ⟨y, hy, e, e2⟩
        have := gl_le h.le t y hy
        exact ⟨by omega, by omega, y, hy, by omega⟩
  refine ⟨⟨p, hp, jump.symm⟩, fun d => ?_, fun k => ?_⟩
  · rw [Nat.testBit_or, Nat.testBit_or, Nat.testBit_and, Nat.testBit_two_pow_sub_one, Nat.testBit_two_pow]
    simp only [Bool.or_eq_true, Bool.and_eq_true, decide_eq_true_eq]
    rw [g.dec, hmv]
    constructor
    · rintro ((⟨h1, h2⟩ | rfl) | ⟨⟨y, hy, e, _⟩, h1⟩)
      · refine ⟨h1, ?_⟩
        rcases h2 with h2 | h2 | h2
        · exact .inl h2
        · exact .inr (.inl (List.mem_append_left _ h2))
        · exact .inr (.inr (h2.mono fun _ a => List.mem_append_left _ a))
      · exact ⟨hp, .inr (.inl (List.mem_append_right _ List.mem_cons_self))⟩
      · refine ⟨by omega, .inr (.inr ⟨y, L + p, List.mem_append_left _ hy, List.mem_append_right _ List.mem_cons_self, all_lt y hy, by omega⟩)⟩
    · rintro ⟨h1, h2 | h2 | ⟨y, z, hy, hz, hyz, e⟩⟩
      · exact .inl (.inl ⟨h1, .inl h2⟩)
      · rcases List.mem_append.mp h2 with h2 | h2
        · exact .inl (.inl ⟨h1, .inr (.inl h2)⟩)
        · have := List.mem_singleton.mp h2
          exact .inl (.inr (by omega))
      · have hy' : y ∈ gl S L t := by
          rcases List.mem_append.mp hy with a | a
          · exact a
          · have e1 := List.mem_singleton.mp a
            rcases List.mem_append.mp hz with b | b
            · have := all_lt z b; omega
            · have := List.mem_singleton.mp b; omega
        rcases List.mem_append.mp hz with b | b
        · exact .inl (.inl ⟨h1, .inr (.inr ⟨y, z, hy', b, hyz, e⟩)⟩)
        · have e1 := List.mem_singleton.mp b
          have := all_lt y hy'
          exact .inr ⟨⟨y, hy', by omega, by omega⟩, by omega⟩
  · rw [Nat.testBit_or, Nat.testBit_two_pow, Bool.or_eq_true, decide_eq_true_eq, g.mir]
    constructor
    · rintro (⟨h1, y, hy, e⟩ | e)
      · exact ⟨h1, y, List.mem_append_left _ hy, e⟩
      · exact ⟨by omega, L + p, List.mem_append_right _ List.mem_cons_self, by omega⟩
    · rintro ⟨h1, y, hy, e⟩
      rcases List.mem_append.mp hy with a | a
      · exact .inl ⟨h1, y, a, e⟩
      · have := List.mem_singleton.mp a
        exact .inr (by omega)
/-- nothing is left -/
theorem Gw.full (h : Start S L) {ms : List Nat} {dec mir : Nat} (g : Gw S L ms dec mir) (hp : 2000 < ev (dec + 1)) : ms = gl S L 2000 := by
  obtain ⟨b1, _⟩ := ev_bits (dec + 1) (Nat.succ_pos _)
  rw [Nat.add_sub_cancel] at b1
  obtain ⟨t, ht, rfl⟩ := g.at_
  obtain ⟨k, hk⟩ : ∃ k, 2000 = t + k := ⟨2000 - t, by omega⟩
  rw [hk]
  exact (gl_skip k fun d h1 h2 => by
    obtain ⟨_, h3⟩ := (g.dec d).mp (b1 d (by omega))
    rcases h3 with h3 | h3 | h3
    · omega
    · have := gl_le h.le t _ h3; omega
    · exact h3).symm
/-! ### how many there are -/
theorem nd_len : ∀ (l m : List Nat), l.Nodup → (∀ x ∈ l, x ∈ m) → l.length ≤ m.length
  | [], _, _, _ => Nat.zero_le _
  | a :: l, m, h, hs => by
    obtain ⟨ha, hl⟩ := List.nodup_cons.mp h
    have h1 := hs a List.mem_cons_self
    have h2 := nd_len l (m.erase a) hl fun x hx => (List.mem_erase_of_ne (show x ≠ a from fun z => ha (by rw [← z]; exact hx))).mpr (hs x (List.mem_cons_of_mem _ hx))
    rw [List.length_erase_of_mem h1] at h2
    have h3 := List.length_pos_of_mem h1
    rw [List.length_cons]
    omega
theorem flat_len {α β γ : Type} (f : α → β → γ) : ∀ (l : List α) (m : List β), (l.flatMap fun a => m.map (f a)).length = l.length * m.length
  | [], m => by simp
  | a :: l, m => by
    rw [List.flatMap_cons, List.length_append, flat_len f l m, List.length_map, List.length_cons, Nat.succ_mul, Nat.add_comm]
/-- there are forty members up to 2,000 behind the start -/
theorem gl_forty (h : Start S L) : 40 ≤ (gl S L 2000).length := by
  have h1 := nd_len (List.range' (L + 1) 2000) (gl S L 2000 ++ (gl S L 2000).flatMap fun y => (gl S L 2000).map fun z => 2 * z - y) List.nodup_range' fun x hx => by
    obtain ⟨i, hi, rfl⟩ := List.mem_range'.mp hx
    by_cases c : L + 1 + 1 * i ∈ gl S L 2000
    · exact List.mem_append_left _ c
    · have c2 : Cv (gl S L 2000) (L + 1 + 1 * i) := Classical.byContradiction fun z => c ((gl_spec h.le (by omega) (by omega)).mpr z)
      obtain ⟨y, z, hy, hz, hyz, e⟩ := c2
      refine List.mem_append_right _ (List.mem_flatMap.mpr ⟨y, hy, List.mem_map.mpr ⟨z, hz, by omega⟩⟩)
  rw [List.length_range', List.length_append, flat_len] at h1
  apply Classical.byContradiction
  intro c
  have c : (gl S L 2000).length ≤ 39 := by omega
  have := Nat.mul_le_mul c c
  omega
end GS

set_option maxHeartbeats 6400000
namespace L2
open PySem PySem.Spec PyProof.Rows
/-! ### set(a list of numbers) -/
/-- the empty set as it is made -/
abbrev set0 (w : World) : Obj := { cls := .type "set", dict := none, data := .set #[] 0 (.fresh 0 0 (!w.params.followText "set-order")) }
theorem set_of_list {P : Program} {w : World} {A : Around} {E : Value → Shared → Prop} {s : Shared} {l : Addr} {zs : Array Value} (ns : List Int) {Q : Value → Shared → Prop} (hA : A.handled = none) (hl : s.heap.IsList l zs) (hz : IntsAre zs.toList ns) (few : ns.length + 1 < scanBound)
    (h : ∀ (h2 : Heap) (tk c : Nat), SetR w h2 s.heap.objs.size (fun j => decide (j ∈ ns)) c → c ≤ ns.length → (∀ b o, s.heap.get? b = some o → h2.get? b = some o) → Q (.ref s.heap.objs.size) { s with heap := h2, toks := tk }) :
    wpAny (model P w) A (call (.type "set") [.ref l]) Q E s := by
  have size : zs.size = ns.length := by
    have y := IntsAre.length hz
    rw [Array.length_toList] at y
    exact y
  obtain ⟨cc, tl, hmro⟩ := F.called_set.mro
  have hmade := F.called_set.made
  have hsub := F.called_set.sub
  refine wpAny_call (codeAny_of_tree ?_)
  show wpAny _ _ (callAny (.type "set") _) _ _ _
  refine wpAny_pure ⟨Code.quiet_builtin _ (by decide +kernel), codeAny_builtin F.entry_type_call ?_⟩
  rw [Around.under_plain (weight_type_call_type "set" [.ref l] []) rfl]
  have u1 := F.called_set.notType
  have u2 := F.called_set.canCreate
  have u3 := F.typeCall_set_1 (.ref l)
  repeat (any_goals (first | assumption | wp_step))
  refine codeAny_mono (code_set_led1 (.ref l) (E := E) (Q₁ := fun x t => x = .ref s.heap.objs.size ∧ t = { s with heap := s.heap.push (set0 w) }) ⟨rfl, rfl⟩) fun r t hr => ?_
  rcases r with e | fl
  · exact hr
  cases fl with
  | next => exact hr.elim
  | brk => exact hr.elim
  | cont => exact hr.elim
  | ret x =>
    obtain ⟨rfl, rfl⟩ := hr
    have g0 : (s.heap.push (set0 w)).get? s.heap.objs.size = some (set0 w) := Heap.get?_push_size _ rfl
    have ty : Shared.TypeIs { s with heap := s.heap.push (set0 w) } (.ref s.heap.objs.size) "set" := ⟨_, g0, rfl⟩
    have hli := F.called_set.init.lookup
    have hbi := F.called_set.init.bind (.ref s.heap.objs.size)
    repeat (any_goals (first | assumption | wp_step))
    refine codeAny_mono (codeAny_call_builtin (R := wants (fun r t2 => r = .none ∧ ∃ h2 tk c, t2 = { s with heap := h2, toks := tk } ∧ SetR w h2 s.heap.objs.size (fun j => decide (j ∈ ns)) c ∧ c ≤ ns.length ∧ (∀ b o, s.heap.get? b = some o → h2.get? b = some o)) E)
      F.called_set.init.plain F.entry_set_init (check_set_init_1 ty ?_)) fun r2 t2 hr2 => ?_
    · obtain ⟨⟨oc, od, ob, osl⟩, hol, hcl, nl, hdl⟩ := hl
      replace hcl : oc = .type "list" := hcl
      replace hdl : ob = .seq zs nl := hdl
      subst hcl hdl
      have lt : l < s.heap.objs.size := Heap.lt_size hol
      have hol2 : (s.heap.push (set0 w)).get? l = some { cls := .type "list", dict := od, data := .seq zs nl, slots := osl } := Heap.get?_push_of_some _ hol
      have v1 := F.sub_list_set
      have v2 := F.sub_list_frozenset
      have v3 : (Value.type "list" == Value.type "dict") = false := by decide
      have il : (s.heap.push (set0 w)).IsList l zs := ⟨_, hol2, rfl, nl, rfl⟩
      unfold Builtin.«set.__init__» noKeywords Builtin.Frozenset.updateFrom
      generalize eP : pyIter = PI
      wp_walk
      subst eP
      refine wpAny_pyIter_list il ?_
      refine wpAny_bind (wpAny_runValue ?_)
      have hA3 : A.in1.in1.in1.handled = none := by simp [hA]
      have n1 : l ≠ (s.heap.push (set0 w)).objs.size := by
        rw [Heap.size_push]
        exact Nat.ne_of_lt (Nat.lt_succ_of_lt lt)
      have n2 : s.heap.objs.size ∉ [(s.heap.push (set0 w)).objs.size, l] := by
        rw [Heap.size_push]
        intro y
        rcases List.mem_cons.mp y with y | y
        · exact absurd y (Nat.ne_of_lt (Nat.lt_succ_self _))
        · exact absurd (List.mem_singleton.mp y) (Nat.ne_of_gt lt)
      have vals : ∀ (i : Nat) (v : Value), zs[i]? = some v → ∃ k t, ns[i]? = some k ∧ v = .int k t := by
        intro i v hv
        have hi : i < ns.length := by
          rw [← size]
          exact (Array.getElem?_eq_some_iff.mp hv).1
        obtain ⟨t, e⟩ := IntsAre.int_at hz i v (by rw [Array.getElem?_toList]; exact hv)
        refine ⟨ns[i], t, List.getElem?_eq_getElem hi, ?_⟩
        rw [e, List.getD_eq_getElem?_getD, List.getElem?_eq_getElem hi]
        rfl
      refine set_update_ints ((Walks.list hA3 _ l n1 zs).toS) s.heap.objs.size n2 ns size few vals (zs.size - 0) 0 _ (by omega) (Nat.zero_le _) ⟨⟨_, Heap.get?_push_size _ rfl, rfl, rfl⟩, (il.push _)⟩ ⟨0, Nat.le_refl 0, setR_new_at (Heap.get?_push_of_some _ g0)⟩ ?_
      intro t3 c3 mv hc hS
      obtain ⟨h2, g2, d2, tk2, os2⟩ := t3
      obtain rfl : g2 = s.gens := mv.gens
      obtain rfl : d2 = s.drawn := mv.drawn
      obtain rfl : os2 = s.os := mv.os
      show wpAny _ _ _ _ _ _
      refine wpAny_pure ?_
      show wpAny _ _ (ret Value.none) _ _ _
      refine wpAny_pure ⟨rfl, h2, tk2, c3, rfl, hS, by rw [← size]; exact hc, fun b o e => ?_⟩
      have lb : b < s.heap.objs.size := Heap.lt_size e
      refine mv.heap b o ?_ (Heap.get?_push_of_some _ (Heap.get?_push_of_some _ e))
      rw [Heap.size_push]
      intro y
      rcases List.mem_cons.mp y with y | y
      · exact absurd y (Nat.ne_of_lt lb)
      · exact absurd (List.mem_singleton.mp y) (Nat.ne_of_lt (Nat.lt_succ_of_lt lb))
    · rcases r2 with e | fl2
      · exact hr2
      cases fl2 with
      | next => exact hr2.elim
      | brk => exact hr2.elim
      | cont => exact hr2.elim
      | ret r =>
        obtain ⟨rfl, h2, tk, c3, rfl, hS, hc, hk⟩ := hr2
        repeat (any_goals (first | assumption | wp_step))
        exact h _ _ _ hS hc hk
end L2

namespace L2
open PySem PySem.Spec PyProof.Rows
def rSetLI (K : PySem.W.Frag) (w : World) : List V → Hp → VK → Prop := fun xs H Q => ∃ (l : Addr) (ns : List Int), xs = [V.ref l] ∧ SqL K H l (ns.map V.int) ∧ ns.length < 64 ∧
  ∀ (a : Addr) (c : Nat), H a = none → c ≤ ns.length → Q (.ref a) (upd H a (SetO w a (fun j => decide (j ∈ ns)) c))
theorem ints_are : ∀ {ns : List Int} {us : List Value}, Vals (ns.map V.int) us → IntsAre us ns
  | [], _, .nil => .nil
  | n :: ns, _, .cons r t => by
    obtain ⟨k, rfl⟩ := r
    exact .cons n k (ints_are t)
theorem cr_setLI {X : Cx} (hc : X.calm = true) : CallR X (.type "set") (rSetLI X.K X.w) := by
  intro pins s σ H xs us Q I r h
  obtain ⟨l, ns, rfl, hl, few, q⟩ := h
  rw [Vals.ref1 r]
  obtain ⟨its, rv, pl, hz⟩ := I.list hl
  have hn : H s.heap.objs.size = none := I.hok.fresh (Nat.le_refl _)
  refine set_of_list ns (I.ok.hd hc) pl.isList (by simpa using ints_are rv) (by unfold scanBound; omega) fun h2 tk c R hcn k => ?_
  exact ⟨.ref s.heap.objs.size, _, I.laid (t' := tk) k (Nat.le_refl _) (setO_new R), rfl, q _ c hn hcn⟩
end L2

/-! set(a list of numbers) and sorted of such a set, up to 4,094 numbers -/
namespace L2
open PySem PySem.Spec PyProof.Rows
def rSetLong (K : PySem.W.Frag) (w : World) : List V → Hp → VK → Prop := fun xs H Q => ∃ (l : Addr) (ns : List Int), xs = [V.ref l] ∧ SqL K H l (ns.map V.int) ∧ ns.length < 4095 ∧
  ∀ (a : Addr) (c : Nat), H a = none → c ≤ ns.length → Q (.ref a) (upd H a (SetO w a (fun j => decide (j ∈ ns)) c))
theorem cr_setLong {X : Cx} (hc : X.calm = true) : CallR X (.type "set") (rSetLong X.K X.w) := by
  intro pins s σ H xs us Q I r h
  obtain ⟨l, ns, rfl, hl, few, q⟩ := h
  rw [Vals.ref1 r]
  obtain ⟨its, rv, pl, hz⟩ := I.list hl
  have hn : H s.heap.objs.size = none := I.hok.fresh (Nat.le_refl _)
  have small : ns.length + 1 < scanBound := by unfold scanBound; omega
  exact set_of_list ns (I.ok.hd hc) pl.isList (by simpa using ints_are rv) small fun h2 tk c R hcn k =>
    ⟨.ref s.heap.objs.size, _, I.laid (t' := tk) k (Nat.le_refl _) (setO_new R), rfl, q _ c hn hcn⟩
/-- the numbers of a set's rows, sorted -/
theorem set_sorted {P : Program} {w : World} {A : Around} {E : Value → Shared → Prop} {s : Shared} {a : Addr} {S : Int → Bool} {n : Nat} {Q : Value → Shared → Prop} (R : SetR w s.heap a S n) (hA : A.handled = none)
    (done : ∀ (t : Shared) (p : Addr) (row : Array Value) (c : Nat) (ks : List Int), (∀ b o, s.heap.get? b = some o → t.heap.get? b = some o) ∧ t.gens = s.gens ∧ t.os = s.os ∧ s.heap.objs.size ≤ p →
      t.heap.get? p = some (seqObj "list" row c) ∧ IntsAre row.toList ks → ks.Pairwise (· < ·) ∧ (∀ k, k ∈ ks ↔ S k = true) ∧ ks.length = n → Q (.ref p) t) :
    wpAny (model P w) A (call (.builtin "sorted") [.ref a]) Q E s := by
  obtain ⟨o, es, ep, tb, ho, hex, hd, g, nd, hm, hb, hf, hn, hr, hl⟩ := R
  refine Calls.call_function_entry kind_sorted plain_sorted entry_sorted (args_sorted1 _) ?_
  unfold Builtin.«sorted»
  refine wpAny_bind (m := checkCount "sorted" 1 1 _) (wpAny_pure (wpAny_bind ?_))
  refine collect_set (A := A.in1) hA ⟨o, ho, hex.1, hd⟩ hf hb hr hl fun t1 vs old1 size1 gens1 os1 pm => ?_
  have len : vs.length = n := by
    have := pm.length_eq
    rw [List.length_map, Array.length_toList] at this
    exact this.trans hn
  have few : vs.length < scanBound := by rw [len, ← hn]; exact hb
  have nums : IntsAre vs (vs.map Builtin.Re.reRawOf) := by
    refine ints_of vs fun v hv => ?_
    obtain ⟨e, he, q⟩ := List.mem_map.mp (pm.mem_iff.mp hv)
    obtain ⟨k, tk, h1, _⟩ := g e he
    exact ⟨k, tk, q ▸ h1⟩
  have keys : (vs.map Builtin.Re.reRawOf).Perm (es.toList.map keyOf) := by
    have := pm.map Builtin.Re.reRawOf
    rwa [List.map_map] at this
  have line : vs.length ≤ sizeLine := by
    have : scanBound = 4096 := rfl
    rw [sizeLine_eq]
    omega
  refine wpAny_bind (wpAny_newList ?_ (by simpa using line))
  have at1 : (t1.heap.push (seqObj "list" vs.toArray 0)).get? t1.heap.objs.size = some (seqObj "list" vs.toArray 0) := Heap.get?_push_size _ rfl
  refine wpAny_bind (wpAny_holding ?_)
  refine wpAny_call_entry PyProof.Rows.slot_list_sort ⟨_, at1, rfl⟩ PyProof.Rows.entry_list_sort ?_ (PyProof.Rows.args_list_sort _)
  refine SrtO.list_sort_ord SrtO.swo_int at1 line (fun h2 => SrtO.ints_sortable nums h2) fun out h1 h2 => ⟨_, rfl, ?_⟩
  obtain ⟨k1, k2, k3⟩ := SrtO.ints_out nums h1 h2
  obtain ⟨c, hc⟩ := PyProof.Rows.sortedHeap_at (vs := vs) (out := out.toArray) at1
  have all := k2.trans keys
  refine wpAny_pure ⟨_, rfl, done _ t1.heap.objs.size out.toArray c (out.map SrtO.iv) ⟨fun b u e => ?_, gens1, os1, size1⟩ ⟨hc, k1⟩ ⟨lt_of_le_nodup _ k3 (all.nodup_iff.mpr nd), fun k => ?_, ?_⟩⟩
  · have e1 := old1 b u e
    have lt := Heap.lt_size e1
    show (PyProof.Rows.sortedHeap (t1.heap.push (seqObj "list" vs.toArray 0)) t1.heap.objs.size vs out.toArray).get? b = some u
    rw [PyProof.Rows.sortedHeap_old (Nat.ne_of_lt lt) (by rw [Heap.size_push]; exact Nat.lt_succ_of_lt lt)]
    exact Heap.get?_push_of_some _ e1
  · rw [all.mem_iff, ← hm k]
  · have := all.length_eq
    rw [List.length_map, List.length_map, Array.length_toList] at this
    rw [List.length_map]
    exact this.trans hn
/-- sorted(found), any set of numbers -/
def rSortedSetI (w : World) : List V → Hp → VK → Prop := fun vs H Q => ∃ (a : Addr) (S : Int → Bool) (n : Nat), vs = [V.ref a] ∧ H a = some (SetO w a S n) ∧ n ≤ sizeLine ∧
  ∀ (ks : List Int) (p : Addr), ks.Pairwise (· < ·) → (∀ k : Int, k ∈ ks ↔ S k = true) → ks.length = n → H p = none → Q (.ref p) (upd H p (.lst (ks.map V.int)))
theorem cr_sortedSetI {X : Cx} (hc : X.calm = true) : CallR X (.builtin "sorted") (rSortedSetI X.w) := by
  intro pins s σ H vs us Q I r h
  obtain ⟨a, S, n, rfl, ha, hz, q⟩ := h
  rw [Vals.ref1 r]
  refine set_sorted (setO_get I ha) (I.ok.hd hc) fun t p row c ks ⟨k, g, o, hp⟩ ⟨hg, hi⟩ ⟨hs, hm, hl⟩ => ?_
  have free : H p = none := I.hok.fresh hp
  have lenOk : (ks.map V.int).length ≤ sizeLine := by rw [List.length_map, hl]; exact hz
  have J : Inv X pins σ (upd H p (.lst (ks.map V.int))) { s with heap := t.heap, gens := t.gens, drawn := t.drawn, toks := t.toks } := by
    refine I.call (ch := []) (Un.laid k hp free) (I.hok.laid k hp ⟨lenOk, row.toList, c, vals_of_ints hi, hg⟩) ?_ (fun _ z => nomatch z)
    rw [g]
    exact I.bare
  have same : t = { s with heap := t.heap, gens := t.gens, drawn := t.drawn, toks := t.toks } := by
    obtain ⟨t1, t2, t3, t4, t5⟩ := t
    cases o
    rfl
  rw [same]
  exact ⟨.ref p, _, J, rfl, q ks p hs hm hl free⟩
end L2

namespace SX
open PySem PySem.Builtin PySem.Builtin.Str
theorem sub_S (l : List Nat) (i j : Nat) : strSub (S l) i j = S ((l.drop i).take (j - i)) := by
  refine PySem.Str.ext' (Array.toList_inj.mp ?_)
  rw [StrLaws.strSub_toList]
theorem part_some {a b : List Nat} {c : Nat} (h : c ∉ a) : Txt.partition (S (a ++ c :: b)) (S [c]) = (S a, S [c], S b) := by
  unfold Txt.partition
  have hc : (a ++ c :: b)[a.length]? = some c := by rw [List.getElem?_append_right (Nat.le_refl _), Nat.sub_self]; rfl
  rcases StrLaws.occ_head (S (a ++ c :: b)) (S [c]) 1 (Nat.le_refl 1) with ⟨h0, hn⟩ | ⟨i, r, h0, hi, hn⟩
  · exact absurd ((StrLaws.subAt_one (S (a ++ c :: b)) c a.length).mpr hc) (hn _)
  · have hm : (a ++ c :: b)[i]? = some c := (StrLaws.subAt_one (S (a ++ c :: b)) c i).mp hi
    have ei : i = a.length := by
      rcases Nat.lt_trichotomy i a.length with z | z | z
      · rw [List.getElem?_append_left z] at hm
        exact absurd (List.mem_of_getElem? hm) h
      · exact z
      · exact absurd ((StrLaws.subAt_one (S (a ++ c :: b)) c a.length).mpr hc) (hn _ z)
    subst ei
    rw [h0]
    show (strSub (S (a ++ c :: b)) 0 a.length, S [c], strSub (S (a ++ c :: b)) (a.length + (S [c]).length) (S (a ++ c :: b)).length) = _
    rw [sub_S, sub_S, S_len, S_len]
    simp
    exact List.take_of_length_le (by omega)
end SX

namespace L2
open PySem PySem.Spec PyProof.Rows
/-! ### set(a tuple of numbers) -/
def rSetTI (K : PySem.W.Frag) (w : World) : List V → Hp → VK → Prop := fun xs H Q => ∃ (l : Addr) (ns : List Int), xs = [V.ref l] ∧ SqT K H l (ns.map V.int) ∧ ns.length < 4000 ∧
  ∀ (a : Addr) (c : Nat), H a = none → c ≤ ns.length → Q (.ref a) (upd H a (SetO w a (fun j => decide (j ∈ ns)) c))
theorem cr_setTI {X : Cx} (hc : X.calm = true) : CallR X (.type "set") (rSetTI X.K X.w) := by
  intro pins s σ H xs us Q I r h
  obtain ⟨l, ns, rfl, hl, few, q⟩ := h
  rw [Vals.ref1 r]
  obtain ⟨its, rv, pl, hz⟩ := I.tuple hl
  have hn : H s.heap.objs.size = none := I.hok.fresh (Nat.le_refl _)
  refine call_set_tupI ns (I.ok.hd hc) pl (by simpa using ints_are rv) (by unfold scanBound; omega) fun h2 tk c R hcn k => ?_
  exact ⟨.ref s.heap.objs.size, _, I.laid (t' := tk) k (Nat.le_refl _) (setO_new R), rfl, q _ c hn hcn⟩
end L2
namespace TF
open PySem PySem.Spec PyProof.Rows L2 TM
section
variable {X : Cx} {pins : List (Addr × Obj)} {σ : L2.St} {H : Hp} {s : Shared} {k : Nat} {f : Addr} {fd : FuncData} {ps ks : List Str} {sp : Sp} {x m : Str} {p pos apos : Pos} {E : XK} {o : Expr} {ta : TE} {C : Addr}
/-- how keywords alone bind behind the object -/
structure KBM (K : PySem.W.Frag) (fd : FuncData) (ps ks : List Str) : Prop where
  to : ∀ (s : Shared) (u : Value) (ws : List Value), K.In s.heap → ws.length = ks.length → BindsTo s fd ⟨[u], ks.zip ws⟩ (ps.zip (u :: ws))
def tMethKw (C : Addr) (m : Str) (sp : Sp) (n : Nat) (E : XK) (ta : TE) (tk : TA) : TE := fun σ H Q => ta σ H fun x H1 => ∃ a dx fs, x = .ref a ∧ H1 a = some (.ins C dx fs) ∧ fs.lookup m = none ∧ tk σ H1 fun zs H2 => zs.length = n ∧ sp (x :: zs) H2 Q E
/-- o.m(k = v, ..) -/
theorem pe_methKw {pl : Sem Bool} {kws : List Keyword} {tk : TA} (he : PE X o ta) (c : Cls X.K C) (hm : Meth X.K C m f) (F : FnOk X.prog X.w X.K X.mg X.base CX0 k f fd ps sp) (hr : Room k X.A) (hb : KBM X.K fd ps ks) (hx : Passes CX0 X E) (hkw : PK X kws tk)
    (hall : (backToKw pos (keywordEach kws X.env)).all (·.1.isSome) = true := by rfl) (hks : (backToKw pos (keywordEach kws X.env)).filterMap (·.1) = ks := by rfl)
    (hpl : ((backTo pos (starEach [] X.env)).any (·.1) || (backToKw pos (keywordEach kws X.env)).any (·.1.isNone)) = false := by rfl)
    (ht : eval (.Call (.Attribute o m apos) [] kws pos) X.env = (do
      let ov ← eval o X.env
      standAt apos.atName
      let (f, first) ← holding [ov] (getMethod ov m pl)
      callWith pos f first (backTo pos (starEach [] X.env)) (backToKw pos (keywordEach kws X.env))) := by rfl) :
    PE X (.Call (.Attribute o m apos) [] kws pos) (tMethKw C m sp ks.length E ta tk) := by
  constructor
  intro pins s σ H Q I h
  refine PySem.W.methodCall_KW (pl := pl) (thn (he.run pins s σ H _ I h) fun u s1 hh => ?_) ht
  obtain ⟨x, H1, I1, rx, a, dx, fs, ex, ea, l, q⟩ := hh
  subst ex
  obtain rfl : u = Value.ref a := rx
  refine getmeth_ok I1 ea c hm l ?_
  refine PySem.W.callWith_KW0 (first := [.ref a]) (h₀ := X.base) I.ok.mod.kin hm.kp hall ?_ hpl
  refine thn (hkw.run pos pins s1 σ H1 _ I1 q) fun ws s2 hh => ?_
  obtain ⟨zs, H2, I2, rz, l0, q2⟩ := hh
  refine ⟨I2.kIn, ?_⟩
  rw [hks]
  have hl : ws.length = ks.length := by rw [← rz.length, l0]
  refine wpAny_call (codeAny_mono (F.run X.A X.stack s2 H2 ⟨[.ref a], ks.zip ws⟩ (.ref a :: ws) (.ref a :: zs) Q E hr I2.env0 (hb.to s2 (.ref a) ws I2.kIn hl) (.cons rfl rz) q2) fun r s' hq => ?_)
  cases r with
  | error e => exact hx pins σ H2 s2 e s' I2 hq
  | ok fl =>
    cases fl with
    | ret u => exact I2.after hq
    | next => exact hq.elim
    | brk => exact hq.elim
    | cont => exact hq.elim
theorem kbm_mk {K : PySem.W.Frag} {x qual : Str} {st : Stmt} {f : Addr} {fd : FuncData} {ps ks : List Str} (F : Fun K x qual st f fd)
    (h : ∀ (kV doc pm : Value) (an : Option Addr) (cdv ct u : Value) (us : List Value), us.length = ks.length → bindArgs (PySem.W.fnOf x qual (defArgs st) (defBody st) (defScope st) .none kV doc pm an cdv ct) ⟨[u], ks.zip us⟩ = pure (ps.zip (u :: us))) :
    KBM K fd ps ks := by
  obtain ⟨oc, od, kV, doc, pm, an, cdv, ct, osl, rfl, lk, hcd⟩ := F.ex
  exact ⟨fun s u ws _ hl => .of_eq (h kV doc pm an cdv ct u ws hl)⟩
end
end TF
namespace L2
open PySem PySem.Spec PyProof.Rows
theorem pi_both {X : Cx} {tg it : Expr} {w1 w2 : TI} (h1 : PI X tg it w1) (h2 : PI X tg it w2) : PI X tg it (fun σ H R => w1 σ H R ∨ w2 σ H R) :=
  ⟨fun pins s σ H R I h => h.elim (h1.run pins s σ H R I) (h2.run pins s σ H R I)⟩
end L2

/-! set(numbers), of a tuple or of a list -/
namespace L2
open PySem PySem.Spec PyProof.Rows
theorem cr_setB {X : Cx} (hc : X.calm = true) : CallR X (.type "set") (fun xs H Q => rSetTI X.K X.w xs H Q ∨ rSetLong X.K X.w xs H Q) := by
  intro pins s σ H xs us Q I r h
  rcases h with h | h
  · exact cr_setTI hc pins s σ H xs us Q I r h
  · exact cr_setLong hc pins s σ H xs us Q I r h
end L2

namespace TF
open PySem PySem.Spec PyProof.Rows L2 TM
section
variable {X : Cx}
/-! ### whole numbers, bit by bit -/
def rN (c : Nat → Nat → Prop) (g : Nat → Nat → Nat) : V → V → Hp → VK → Prop := fun x y H Q => ∃ a b : Nat, x = vn a ∧ y = vn b ∧ c a b ∧ Q (vn (g a b)) H
theorem opN_of {f : Value → Value → Sem Value} {r : V → V → Hp → VK → Prop} (h : OpR X f r) {c : Nat → Nat → Prop} {g : Nat → Nat → Nat} (k : ∀ a b H Q, c a b → Q (vn (g a b)) H → r (vn a) (vn b) H Q) : OpR X f (rN c g) := by
  intro pins s σ H x y v u Q I rx ry hh
  obtain ⟨a, b, rfl, rfl, hc, q⟩ := hh
  exact h pins s σ H _ _ v u Q I rx ry (k a b H Q hc q)
theorem nOr : OpR X (binaryOp .BitOr) (rN (fun _ _ => True) fun a b => a ||| b) := opN_of op_or fun a b H Q _ q => ⟨_, _, rfl, rfl, by
  show Q (V.int (Builtin.bitOr (a : Int) (b : Int))) H
  rw [bitOr_nn (by omega) (by omega), Int.toNat_natCast, Int.toNat_natCast]
  exact q⟩
theorem nAnd : OpR X (binaryOp .BitAnd) (rN (fun _ _ => True) fun a b => a &&& b) := opN_of op_and fun a b H Q _ q => ⟨_, _, rfl, rfl, by
  have e : Builtin.bitAnd (a : Int) (b : Int) = ((a &&& b : Nat) : Int) := by
    unfold Builtin.bitAnd
    have h1 : (0 : Int) ≤ (a : Int) := by omega
    have h2 : (0 : Int) ≤ (b : Int) := by omega
    simp [h1, h2]
  show Q (V.int (Builtin.bitAnd (a : Int) (b : Int))) H
  rw [e]
  exact q⟩
theorem nXor : OpR X (binaryOp .BitXor) (rN (fun _ _ => True) fun a b => a ^^^ b) := opN_of op_xor fun a b H Q _ q => ⟨_, _, rfl, rfl, by
  have e : Builtin.bitXor (a : Int) (b : Int) = ((a ^^^ b : Nat) : Int) := by
    rw [Bits.bitXor_pp (by omega) (by omega), Int.toNat_natCast, Int.toNat_natCast]
  show Q (V.int (Builtin.bitXor (a : Int) (b : Int))) H
  rw [e]
  exact q⟩
theorem nShl : OpR X (binaryOp .LShift) (rN (fun a k => ∃ n, a < 2 ^ n ∧ n + k ≤ 134217728) fun a k => a * 2 ^ k) := opN_of op_shlW fun a k H Q ⟨n, h1, h2⟩ q => ⟨_, _, rfl, rfl, shl_ok (n := n) (by omega) h2, by
  show Q (V.int ((a : Int) * 2 ^ ((k : Nat) : Int).toNat)) H
  rw [Int.toNat_natCast, show (2 : Int) ^ k = ((2 ^ k : Nat) : Int) by rw [Int.natCast_pow]; rfl, ← Int.natCast_mul]
  exact q⟩
theorem nShr : OpR X (binaryOp .RShift) (rN (fun _ _ => True) fun a k => a / 2 ^ k) := opN_of op_shrN fun a k H Q _ q => ⟨_, _, rfl, rfl, by
  show Q (V.int ((a : Int) / 2 ^ k)) H
  rw [show (2 : Int) ^ k = ((2 ^ k : Nat) : Int) by rw [Int.natCast_pow]; rfl]
  exact q⟩
/-- less, both numbers -/
theorem nSub : OpR X (binaryOp .Sub) (rN (fun a b => b ≤ a) fun a b => a - b) := opN_of op_sub fun a b H Q h q => ⟨_, _, rfl, rfl, by
  show Q (V.int ((a : Int) - (b : Int))) H
  rw [show (a : Int) - (b : Int) = ((a - b : Nat) : Int) by omega]
  exact q⟩
theorem nAdd : OpR X (binaryOp .Add) (rN (fun _ _ => True) fun a b => a + b) := opN_of op_add fun a b H Q _ q => ⟨_, _, rfl, rfl, q⟩
theorem nMul : OpR X (binaryOp .Mult) (rN (fun a b => ∃ n m, a < 2 ^ n ∧ b < 2 ^ m ∧ n + m ≤ 900000 ∧ n ≤ 400000 ∧ m ≤ 400000) fun a b => a * b) := opN_of op_mulW fun a b H Q ⟨n, m, h1, h2, h3, h4, h5⟩ q => ⟨_, _, rfl, rfl, by
  unfold CMulW
  have l : ∀ (x k : Nat), x < 2 ^ k → ((x : Int)).natAbs.log2 ≤ k := fun x k hx => by
    rw [Int.natAbs_natCast]
    by_cases h0 : x = 0
    · subst h0; simp
    · exact Nat.le_of_lt ((Nat.log2_lt h0).mpr hx)
  have := l a n h1
  have := l b m h2
  omega, q⟩
end
end TF

namespace TF
open PySem PySem.Spec PyProof.Rows L2 TM
section
variable {X : Cx}
theorem nMod : OpR X (binaryOp .Mod) (rN (fun _ b => 0 < b) fun a b => a % b) := opN_of op_modN fun a b H Q h q => ⟨_, _, rfl, rfl, (by show ((b : Nat) : Int) ≠ 0; omega), by
  show Q (V.int ((a : Int).fmod (b : Int))) H
  rw [fmod_nat]
  exact q⟩
theorem nDiv : OpR X (binaryOp .FloorDiv) (rN (fun _ b => 0 < b ∧ b < 2 ^ 9000) fun a b => a / b) := opN_of op_fdivW fun a b H Q h q => ⟨_, _, rfl, rfl, wide_div (b := 9000) (by omega) (by rw [Int.natAbs_natCast]; exact h.2) (by decide) (by decide), by
  show Q (V.int ((a : Int) / (b : Int))) H
  rw [← Int.natCast_ediv]
  exact q⟩
theorem nPow : OpR X (binaryOp .Pow) (rN (fun a b => a < 2 ^ 64 ∧ b ≤ 1000000) fun a b => a ^ b) := opN_of op_pow fun a b H Q h q => ⟨_, _, rfl, rfl, ⟨by omega, by omega, by rw [Int.natAbs_natCast]; exact h.1⟩, by
  show Q (V.int ((a : Int) ^ ((b : Nat) : Int).toNat)) H
  rw [Int.toNat_natCast, ← Int.natCast_pow]
  exact q⟩
/-- divmod of numbers -/
theorem nDm : CallR X (.builtin "divmod") (fun xs H Q => ∃ a b : Nat, xs = [vn a, vn b] ∧ (0 < b ∧ b < 1073741824) ∧ ∀ p, H p = none → Q (.ref p) (upd H p (.tup [vn (a / b), vn (a % b)]))) := by
  intro pins s σ H xs us Q I r h
  obtain ⟨a, b, rfl, ⟨h1, h2⟩, q⟩ := h
  refine call_divmodW pins s σ H _ us Q I r ⟨_, _, rfl, ⟨by omega, PyProof.noPylong_small (by omega)⟩, fun p hp => ?_⟩
  rw [← Int.natCast_ediv, ← Int.natCast_emod]
  exact q p hp
theorem ix_tupK (K : PySem.W.Frag) (h : X.K = K := by rfl) : IxR X (rIxT K) := by
  subst h
  exact ix_tup
theorem same_new2 {H H' : Hp} {p : Addr} {o : HO} (s : Same H H') (h : H' p = none) : Same H (upd H' p o) := Same.trans s (same_new h)
end
end TF

/-! == and != by a class's own __eq__ (no own __ne__) -/
namespace PySem.W
open PySem
section
variable {prog : Program} {w : World} {A A₀ : Around} {E : Value → Shared → Prop} {s : Shared} {K : Frag} {x C L f : Addr} {h₀ : Heap} {m : Str → Option Value} {ox : Obj} {od : Option Obj} {name : Str} {b tb : Value}
theorem ifBound_KB {M : Model} {id B : String} {args : List Value} {Q : Option Value → Shared → Prop} (X : K.In s.heap) (I : InstAt s.heap x ox C od) (hs : findIn K (.ref C) name = some (some (.builtin id))) (S : Slot B name id)
    (h : wpAny M A (call (.builtin id) (.ref x :: args)) (fun v => Q (some v)) E s) : wpAny M A (callSpecialIfBound? (.ref x) name args) Q E s := by
  simp only [callSpecialIfBound?, bindSpecialIfBound?]
  refine wpAny_holding (wpAny_bind (wpAny_bind (wpAny_bind (I.type.here ((looks_findIn X hs).here ?_)))))
  simp only [S.bind]
  refine wpAny_bind (wpAny_askSetting (wpAny_ite ?_))
  have fin : wpAny M A (call (.builtin id) ([.ref x] ++ args) >>= fun v => pure (some v)) Q E s := wpAny_bind (wpAny_mono h (fun v s' h' => wpAny_pure h') fun _ _ h' => h')
  split
  · exact wpAny_bind (wpAny_pure (wpAny_pure fin))
  · exact wpAny_tryCatch (wpAny_bind (wpAny_pure (wpAny_pure fin)))
theorem cmp_KNe {Q : Value → Shared → Prop} (hu : A.units + 1 < cLine) (X : K.In s.heap) (I : InstAt s.heap x ox C od) (hb : Looks (model prog w) s.heap (typeOf b) tb) (hn : notFirst K C tb = true)
    (hne : findIn K (.ref C) "__ne__" = some (some (.builtin "object.__ne__"))) (hm : mroIn K C (.type "object") = some true)
    (hs : findIn K (.ref C) "__eq__" = some (some (.ref f))) (hf : isFn K (.ref f) = true)
    (h : wpAny (model prog w) A.in1 (call (.ref f) [.ref x, b]) (fun v s' => ∃ c, v = .bool c ∧ Q (.bool (!c)) s') E s) : wpAny (model prog w) A (richCompare .NotEq (.ref x) b) Q E s := by
  have sub : Looks (model prog w) s.heap (isInstance (.ref x) (.type "object")) true := I.type.andThen (looks_mroIn X hm)
  have one : wpAny (model prog w) A (tryCompare (.ref x) (cmpInfo .NotEq).2.1 b) (fun r s' => ∃ v, r = some v ∧ Q v s') E s := by
    unfold tryCompare
    refine wpAny_bind (ifBound_KB X I hne PySem.F.slot_object_ne (wpAny_call (codeAny_call_builtin PySem.F.slot_object_ne.plain PySem.F.cmpEntry_ne
      (@check_slot (model prog w) _ _ s "object.__ne__" "object" "__ne__" (.ref x) [b] [] _ PySem.F.cmpKind_ne PySem.F.cmpSplit_ne sub (PySem.F.cmpArgs_ne _ _) ?_))))
    unfold Builtin.«object.__ne__»
    have hu1 : A.in1.units < cLine := hu
    repeat (first
      | with_reducible refine wpAny_cRoomFor hu1 ?_
      | (refine wpAny_bind (m := callSpecialIfBound? (.ref x) (Str.ofString "__eq__") [b])
          (ifBound_K X I hs hf (wpAny_mono h (fun r s' hr => by
            obtain ⟨c, rfl, hq⟩ := hr
            repeat (first | exact wpAny_pure ⟨_, rfl, hq⟩ | exact wpAny_pure (wpAny_pure ⟨_, rfl, hq⟩) | (refine wpAny_bind (m := truthy (.bool _)) (wpAny_truthy_bool ?_)) | wp_step)) fun _ _ e => e)))
      | wp_step)
  unfold richCompare
  simp only [oneThing_ref]
  refine wpAny_holding (wpAny_bind (wpAny_cRoomFor (Nat.lt_of_succ_lt hu) ?_))
  refine wpAny_bind (I.type.here (wpAny_bind (hb.here ?_)))
  split
  · rename_i q
    have e : subIn K tb (.ref C) = some false := by
      rcases Bool.or_eq_true_iff.mp hn with e | e
      · rw [beq_iff_eq.mp e] at q; simp at q
      · exact beq_iff_eq.mp e
    refine wpAny_bind ((looks_subIn X e).here ?_)
    simp only [Bool.false_eq_true, if_false]
    refine wpAny_bind (wpAny_mono one (fun r s' z => ?_) fun _ _ e => e)
    obtain ⟨v, rfl, hq⟩ := z
    exact wpAny_pure hq
  · refine wpAny_bind (wpAny_pure ?_)
    simp only [Bool.false_eq_true, if_false]
    refine wpAny_bind (wpAny_mono one (fun r s' z => ?_) fun _ _ e => e)
    obtain ⟨v, rfl, hq⟩ := z
    exact wpAny_pure hq
end
end PySem.W

namespace TF
open PySem PySem.Spec PyProof.Rows L2 TM
section
variable {X : Cx} {n : Nat} {C f : Addr} {fd : FuncData} {ps : List Str} {sp : Sp} {E : XK}
/-- x == y by the own __eq__ of x's class at C; y an instance too -/
def rOwn (K : PySem.W.Frag) (C : Addr) (sp : Sp) (g : Bool → Bool) (E : XK) : R2 := fun x y H Q => ∃ (a b D dx dy : Addr) (fs gs : List (Str × V)), x = .ref a ∧ y = .ref b ∧ H a = some (.ins C dx fs) ∧ H b = some (.ins D dy gs) ∧ PySem.W.notFirst K C (.ref D) = true ∧
  sp [.ref a, .ref b] H (fun v H' => ∃ c, v = .bl c ∧ Q (.bl (g c)) H') E
theorem op_own (F : FnOk X.prog X.w X.K X.mg X.base CX0 n f fd ps sp) (hs : PySem.W.findIn X.K (.ref C) "__eq__" = some (some (.ref f))) (hf : PySem.W.isFn X.K (.ref f) = true) (hb : Binds X.K fd ps []) (hr : Room n X.A) (hx : Passes CX0 X E) :
    OpR X (compareOp .Eq) (rOwn X.K C sp (fun c => c) E) := by
  intro pins s σ H x y v u Q I rx ry hq
  obtain ⟨a, b, D, dx, dy, fs, gs, rfl, rfl, ha, hb', hn, hsp⟩ := hq
  cases rx
  cases ry
  show wpAny (model X.prog X.w) X.A (richCompare .Eq (.ref a) (.ref b)) (EP X pins σ Q) X.xe s
  obtain ⟨mA, J, _⟩ := ins_get I.hok ha
  obtain ⟨mB, J', _⟩ := ins_get I.hok hb'
  obtain ⟨od, J, _⟩ := J.look
  obtain ⟨od', J', _⟩ := J'.look
  obtain ⟨m, hF⟩ := I.fr
  refine PySem.W.cmp_K (op := .Eq) (tb := .ref D) hr.units0 hF I.ok.mod.kin J J'.type hn hs hf ?_
  have hl := F.len _ _ _ _ hsp
  have r2 : Vals [V.ref a, V.ref b] [Value.ref a, Value.ref b] := .cons rfl (.cons rfl .nil)
  refine wpAny_call (codeAny_mono (F.run X.A X.stack s H ⟨[.ref a, .ref b], []⟩ [.ref a, .ref b] [.ref a, .ref b] _ E hr I.env0 (by
    have := hb s [.ref a, .ref b] I.kIn (by simpa using hl)
    simpa using this) r2 hsp) fun r s' hq => ?_)
  cases r with
  | error e => exact hx pins σ H s e s' I hq
  | ok fl =>
    cases fl with
    | ret w =>
      obtain ⟨z, H', I', rz, c, ez, q⟩ := I.after hq
      subst ez
      cases rz
      exact ⟨.bl c, H', I', rfl, q⟩
    | next => exact False.elim hq
    | brk => exact False.elim hq
    | cont => exact False.elim hq
theorem op_ownNe (F : FnOk X.prog X.w X.K X.mg X.base CX0 n f fd ps sp) (hs : PySem.W.findIn X.K (.ref C) "__eq__" = some (some (.ref f))) (hf : PySem.W.isFn X.K (.ref f) = true)
    (hne : PySem.W.findIn X.K (.ref C) "__ne__" = some (some (.builtin "object.__ne__"))) (hm : PySem.W.mroIn X.K C (.type "object") = some true) (hb : Binds X.K fd ps []) (hr : Room (n + 1) X.A) (hx : Passes CX0 X E) :
    OpR X (compareOp .NotEq) (rOwn X.K C sp (fun c => !c) E) := by
  intro pins s σ H x y v u Q I rx ry hq
  obtain ⟨a, b, D, dx, dy, fs, gs, rfl, rfl, ha, hb', hn, hsp⟩ := hq
  cases rx
  cases ry
  show wpAny (model X.prog X.w) X.A (richCompare .NotEq (.ref a) (.ref b)) (EP X pins σ Q) X.xe s
  obtain ⟨mA, J, _⟩ := ins_get I.hok ha
  obtain ⟨mB, J', _⟩ := ins_get I.hok hb'
  obtain ⟨od, J, _⟩ := J.look
  obtain ⟨od', J', _⟩ := J'.look
  refine PySem.W.cmp_KNe (tb := .ref D) hr.in1.units0 I.kIn J J'.type hn hne hm hs hf ?_
  have hl := F.len _ _ _ _ hsp
  have r2 : Vals [V.ref a, V.ref b] [Value.ref a, Value.ref b] := .cons rfl (.cons rfl .nil)
  have e0 : Env0 X.prog X.w X.K X.mg X.base X.A.in1 X.stack s H := by
    have e := I.env0
    exact ⟨e.frames, e.mod, e.bs, e.bsz, e.funs, e.frf, e.hok, e.bare⟩
  refine wpAny_call (codeAny_mono (F.run X.A.in1 X.stack s H ⟨[.ref a, .ref b], []⟩ [.ref a, .ref b] [.ref a, .ref b] _ E hr.in1 e0 (by
    have := hb s [.ref a, .ref b] I.kIn (by simpa using hl)
    simpa using this) r2 hsp) fun r s' hq => ?_)
  cases r with
  | error e => exact hx pins σ H s e s' I hq
  | ok fl =>
    cases fl with
    | ret w =>
      obtain ⟨z, H', I', rz, c, ez, q⟩ := I.after hq
      subst ez
      cases rz
      exact ⟨c, rfl, .bl (!c), H', I', rfl, q⟩
    | next => exact False.elim hq
    | brk => exact False.elim hq
    | cont => exact False.elim hq
theorem notFirst_self {K : PySem.W.Frag} {C : Addr} : PySem.W.notFirst K C (.ref C) = true := by simp [PySem.W.notFirst]
end
end TF

namespace L2
open PySem PySem.Spec PyProof.Rows
section
variable {X : Cx}
/-- list(range(a, b, c)) -/
def tLstRg3 (ta : TA) : TE := fun σ H Q => ta σ H fun vs H1 => ∃ (i j c : Int) (n : Nat), vs = [.int i, .int j, .int c] ∧ RgC i j c n ∧ n ≤ 2 ^ 24 ∧ ∀ q, H1 q = none → Q (.ref q) (upd H1 q (.lst ((List.range n).map fun k => V.int (i + (k : Nat) * c))))
theorem vals_rg3 {a c : Int} {n : Nat} {acc : Array Value} (h : ItemsOf (fun i v => ∃ t, v = .int (a + i * c) t) acc n) : Vals ((List.range n).map fun k => V.int (a + (k : Nat) * c)) acc.toList := by
  have e : acc.toList.length = n := by rw [Array.length_toList]; exact h.1
  rw [← e]
  refine vals_of_get acc.toList _ fun j u hj => ?_
  obtain ⟨t, rfl⟩ := h.2 j u (by rw [← hj, Array.getElem?_toList])
  exact ⟨t, rfl⟩
theorem pe_listRg3 {a b c : Expr} {ta : TA} {p pos p2 pos2 : Pos} (hc : X.calm = true) (hg : Gl X "list") (hm : X.mg "list" = none) (hg2 : Gl X "range") (hm2 : X.mg "range" = none) (ha : PA X [a, b, c] ta)
    (na : starEach [.Call (.Name "range" p2) [a, b, c] [] pos2] X.env = (false, eval (.Call (.Name "range" p2) [a, b, c] [] pos2) X.env) :: starEach [] X.env := by rfl)
    (hs : starEach [a, b, c] X.env = (false, eval a X.env) :: starEach [b, c] X.env := by rfl) (hpl : (backTo pos2 (starEach [b, c] X.env)).any (·.1) = false := by rfl) :
    PE X (.Call (.Name "list" p) [.Call (.Name "range" p2) [a, b, c] [] pos2] [] pos) (tLstRg3 ta) := by
  refine ⟨fun pins s σ H Q I h => ?_⟩
  have mk : wpAny (model X.prog X.w) X.A (eval (.Call (.Name "range" p2) [a, b, c] [] pos2) X.env) (fun x s' => ∃ (r : Addr) (i j k : Int) (t u v : Tok) (n : Nat) (H1 : Hp), x = .ref r ∧ IsRange s'.heap r i j k t u v ∧ Inv X pins σ H1 s' ∧ RgC i j k n ∧ n ≤ 2 ^ 24 ∧ ∀ q, H1 q = none → Q (.ref q) (upd H1 q (.lst ((List.range n).map fun z => V.int (i + (z : Nat) * k))))) X.xe s := by
    refine Call_ (ld_blt I hg2 hm2 boot_range (PyProof.Rows.callWith_type1 (thn (ha.run pos2 pins s σ H _ I h) fun us s1 ⟨vs, H1, I1, r1, q1⟩ => ?_) hs hpl))
    obtain ⟨i, j, k, n, e, rc, hn, q⟩ := q1
    subst e
    cases r1 with
    | cons r rr =>
      cases rr with
      | cons r' rr =>
        cases rr with
        | cons r'' rr =>
          cases rr
          obtain ⟨t, rfl⟩ := r
          obtain ⟨t', rfl⟩ := r'
          obtain ⟨t'', rfl⟩ := r''
          refine call_range_3 rc.1 ?_ (.inl (PyProof.noPylong_small rc.2.1))
          have I2 : Inv X pins σ H1 { s1 with heap := s1.heap.push { cls := .type "range", data := .fields #[.int i t, .int j t', .int k t''] } } := I1.kept (t' := s1.toks) fun b o e => Heap.get?_push_of_some _ e
          exact ⟨_, i, j, k, _, _, _, n, H1, rfl, IsRange.new .., I2, rc, hn, q⟩
  refine Call_ (ld_blt I hg hm boot_list (PyProof.Rows.callWith_type1 (args_cons (thn mk fun x s1 ⟨r, i, j, k, t, u, v, n, H1, ex, hr, I1, rc, hn, q⟩ => args_nil ?_) na) na))
  subst ex
  refine call_list_range (n := n) (I1.ok.hd hc) hr rc.2.2.1 rc.2.2.2 hn fun h' tk acc c' hk e' hi => ?_
  refine ⟨.ref s1.heap.objs.size, upd H1 s1.heap.objs.size (.lst ((List.range n).map fun z => V.int (i + (z : Nat) * k))), I1.laid hk (Nat.le_refl _) (show ObjOk X.prog X.w _ _ _ (.lst ((List.range n).map fun z => V.int (i + (z : Nat) * k))) from ⟨?_, acc.toList, c', vals_rg3 hi, ?_⟩), rfl, q _ (I1.hok.fresh (Nat.le_refl _))⟩
  · rw [List.length_map, List.length_range, sizeLine_eq]; omega
  · rw [Array.toArray_toList]; exact e'
end
end L2
namespace TF
open PySem PySem.Spec PyProof.Rows L2 TM
theorem vals_app : ∀ {vs : List V} {us : List Value} {zs : List V} {ws : List Value}, Vals vs us → Vals zs ws → Vals (vs ++ zs) (us ++ ws)
  | _, _, _, _, .nil, h => h
  | _, _, _, _, .cons r t, h => .cons r (vals_app t h)
theorem kbn_mk {K : PySem.W.Frag} {x qual : Str} {st : Stmt} {f : Addr} {fd : FuncData} {ps ks : List Str} {n : Nat} (F : Fun K x qual st f fd)
    (h : ∀ (kV doc pm : Value) (an : Option Addr) (cdv ct : Value) (us ws : List Value), us.length = n → ws.length = ks.length → bindArgs (PySem.W.fnOf x qual (defArgs st) (defBody st) (defScope st) .none kV doc pm an cdv ct) ⟨us, ks.zip ws⟩ = pure (ps.zip (us ++ ws))) :
    KBn K fd ps n ks (fun us ws => us ++ ws) (fun vs zs => vs ++ zs) := by
  obtain ⟨oc, od, kV, doc, pm, an, cdv, ct, osl, rfl, lk, hcd⟩ := F.ex
  exact ⟨fun s us ws _ hu hw => .of_eq (h kV doc pm an cdv ct us ws hu hw), vals_app⟩
/-- another class's isinstance -/
theorem kit_sub {K : PySem.W.Frag} {A B : Addr} {b : Bool} (h1 : PySem.W.mroIn K A (.ref B) = some b) (h2 : PySem.W.isClsIn K B = true) (h3 : PySem.W.typeIn K (.ref B) = some (.type "type")) (hne : b = false → A ≠ B) : PySem.W.kitOne K (.ref A) (.ref B) = some b := by
  unfold PySem.W.kitOne
  by_cases e : A = B
  · subst e
    rw [if_pos (by simp)]
    cases b with
    | true => rfl
    | false => exact absurd rfl (hne rfl)
  · rw [if_neg (by simp [e])]
    unfold PySem.W.kitCls
    have h2' : (PySem.W.clsIn K B).isSome = true := h2
    simp only [h2', h3, Bool.true_and, beq_self_eq_true, if_true]
    exact h1
end TF

namespace TF
open PySem PySem.Spec PyProof.Rows L2 TM
/-- [x for x in a list of numbers if test] -/
theorem lc_filt {K : PySem.W.Frag} {p D : Addr} {l : List Nat} {f : Nat → Bool} {k : Nat} {tt : TT} {te : TE} {vs : List Nat} {σ : L2.St} {H1 : Hp} {Qd : Hp → Prop}
    (hp : H1 p = some (.lst (l.map vn))) (hD : H1 D = none) (hl : l.length ≤ 16000) (hw : ∀ x, wipe ((wipe σ vs).set k (some x)) vs = wipe σ vs)
    (ht : ∀ d ∈ l, ∀ (H' : Hp) (G : Bool → Hp → Prop), Same H1 H' → G (f d) H' → tt ((wipe σ vs).set k (some (vn d))) H' G)
    (hs : ∀ d ∈ l, ∀ (H' : Hp) (E : V → Hp → Prop), Same H1 H' → E (vn d) H' → te ((wipe σ vs).set k (some (vn d))) H' E) (hd : ∀ H', Same H1 H' → H' D = some (.lst ((l.filter f).map vn)) → Qd H') :
    ∃ W : Nat → Nat → Hp → Prop, (∃ m, W 0 m (upd H1 D (.lst []))) ∧ ∀ i m H, W i m H →
      ((Itl K p).stop i H ∧ Qd H) ∨ ((Itl K p).go i H ∧ ∃ Nx : Hp → Prop, (∀ H', Nx H' → ∃ m', m' < m ∧ W (i + 1) m' H') ∧ ∀ x H', (Itl K p).yld i H x H' → gName k x (wipe σ vs) H' fun σ2 H2 => wipe σ2 vs = wipe σ vs ∧ tt σ2 H2 fun b H3 =>
        if b = true then te σ2 H3 fun y H4 => ∃ acc, H4 D = some (.lst acc) ∧ acc.length < sizeLine ∧ Nx (upd H4 D (.lst (acc ++ [y]))) else Nx H3) := by
  refine lc_it (walk_list (xs := l.map vn)) (fun i H' => H' D = some (.lst (((l.take i).filter f).map vn)) ∧ Same H1 H') ⟨upd_same, same_new hD⟩ (fun i H' _ h => SqL.of (h.2 _ _ hp)) ?_ ?_
  · rintro i x H2 H3 hi ⟨e1, s1⟩ ⟨rfl, hx⟩
    rw [List.length_map] at hi
    have g := List.getElem?_eq_getElem hi
    have ex : x = vn l[i] := by
      rw [List.getElem?_map, g] at hx
      exact (Option.some.inj hx).symm
    subst ex
    have et : (l.take (i + 1)).filter f = (l.take i).filter f ++ (if f l[i] = true then [l[i]] else []) := by
      rw [List.take_succ, g, List.filter_append]
      by_cases h : f l[i] = true <;> simp [h]
    refine ⟨hw _, ht _ (List.getElem_mem hi) _ _ s1 ?_⟩
    by_cases h : f l[i] = true
    · rw [if_pos h] at et
      rw [h]
      refine iteT (hs _ (List.getElem_mem hi) _ _ s1 ⟨_, e1, ?_, ?_, Same.mut s1 hD⟩)
      · rw [List.length_map]
        refine Nat.lt_of_le_of_lt (Nat.le_trans (List.length_filter_le _ _) (Nat.le_trans (List.length_take_le _ _) (Nat.le_trans (Nat.le_of_lt hi) hl))) ?_
        rw [sizeLine_eq]
        decide
      · rw [upd_same, et, List.map_append]
        rfl
    · rw [if_neg h, List.append_nil] at et
      rw [show f l[i] = false from Bool.eq_false_iff.mpr h]
      exact iteF ⟨by rw [et]; exact e1, s1⟩
  · rintro H2 ⟨e1, s1⟩
    rw [List.length_map, List.take_length] at e1
    exact hd _ s1 e1
/-- None, a bool, a number -/
inductive FlatD : PyData → Prop where
  | non : FlatD .none
  | bl (b : Bool) : FlatD (.bool b)
  | int (n : Nat) (h : n < 2 ^ 1900) : FlatD (.int (n : Int))
theorem FlatD.show {d : PyData} (h : FlatD d) : d.showable = true := by
  cases h with
  | non => simp [PyData.showable]
  | bl b => simp [PyData.showable]
  | int n h => simp [PyData.showable]; exact log_of h (by decide) (by decide)
theorem FlatD.nodict {d : PyData} (h : FlatD d) : d.hasDict = false := by cases h <;> simp [PyData.hasDict]
theorem FlatD.depth {d : PyData} (h : FlatD d) : d.depth = 0 := by cases h <;> simp [PyData.depth]
theorem FlatD.len {d : PyData} (h : FlatD d) : d.shown.length ≤ 1921 := by
  cases h with
  | non => simp only [PyData.shown]; exact (by decide : ("None" : Str).length ≤ 1921)
  | bl b => cases b <;> (simp only [PyData.shown]; first | exact (by decide : ("True" : Str).length ≤ 1921) | exact (by decide : ("False" : Str).length ≤ 1921))
  | int n h => exact shown_int (log_of h (by decide) (by decide))
theorem flats_show : ∀ {l : List PyData}, (∀ d ∈ l, FlatD d) → PyData.showableAll l = true
  | [], _ => by simp [PyData.showableAll]
  | z :: l, h => by simp [PyData.showableAll, (h z List.mem_cons_self).show, flats_show fun d hd => h d (List.mem_cons_of_mem _ hd)]
theorem flats_nodict : ∀ {l : List PyData}, (∀ d ∈ l, FlatD d) → PyData.hasDictAll l = false
  | [], _ => by simp [PyData.hasDictAll]
  | z :: l, h => by simp [PyData.hasDictAll, (h z List.mem_cons_self).nodict, flats_nodict fun d hd => h d (List.mem_cons_of_mem _ hd)]
theorem flats_depth : ∀ {l : List PyData}, (∀ d ∈ l, FlatD d) → PyData.depthAll l = 0
  | [], _ => by simp [PyData.depthAll]
  | z :: l, h => by simp [PyData.depthAll, (h z List.mem_cons_self).depth, flats_depth fun d hd => h d (List.mem_cons_of_mem _ hd)]
/-- what repr asks of a list of such -/
theorem flats_repr {l : List PyData} (h : ∀ d ∈ l, FlatD d) (hl : l.length ≤ 2000) : (PyData.list l).showable = true ∧ (PyData.list l).hasDict = false ∧ (PyData.list l).depth ≤ 60 ∧ (PyData.list l).shown.length ≤ sizeLine := by
  refine ⟨by simp only [PyData.showable]; exact flats_show h, by simp only [PyData.hasDict]; exact flats_nodict h, by simp only [PyData.depth]; have := flats_depth h; omega, ?_⟩
  refine Nat.le_trans (shown_list (B := 1921) fun d hd => (h d hd).len) (Nat.le_trans (Nat.add_le_add_left (Nat.mul_le_mul_right _ hl) 2) (by decide))
theorem lt_dec (a b : Nat) : decide ((a : Int) < (b : Int)) = decide (a < b) := decide_eq_decide.mpr (by omega)
theorem le_dec (a b : Nat) : decide ((a : Int) ≤ (b : Int)) = decide (a ≤ b) := decide_eq_decide.mpr (by omega)
end TF

namespace TF
open PySem PySem.Spec PyProof.Rows L2 TM
section
variable {X : Cx} {pins : List (Addr × Obj)} {σ : L2.St} {H : Hp} {s : Shared} {k i : Nat} {f : Addr} {fd : FuncData} {ps ks : List Str} {sp : Sp} {x m : Str} {p pos apos : Pos} {E : XK} {o e : Expr} {es : List Expr} {ta : TE} {t : TA} {C : Addr} {dvs : List V} {ds : List Value}
/-! ### two keywords in the other order, behind the object -/
structure KBMR (K : PySem.W.Frag) (fd : FuncData) (ps ks : List Str) : Prop where
  to : ∀ (s : Shared) (u : Value) (ws : List Value), K.In s.heap → ws.length = ks.length → BindsTo s fd ⟨[u], ks.zip ws⟩ (ps.zip (u :: ws.reverse))
def tMethKwR (C : Addr) (m : Str) (sp : Sp) (n : Nat) (E : XK) (ta : TE) (tk : TA) : TE := fun σ H Q => ta σ H fun x H1 => ∃ a dx fs, x = .ref a ∧ H1 a = some (.ins C dx fs) ∧ fs.lookup m = none ∧ tk σ H1 fun zs H2 => zs.length = n ∧ sp (x :: zs.reverse) H2 Q E
theorem vals_rev {vs : List V} {us : List Value} (h : Vals vs us) : Vals vs.reverse us.reverse := by
  induction h with
  | nil => exact .nil
  | cons r _ ih => rw [List.reverse_cons, List.reverse_cons]; exact ih.append (.cons r .nil)
theorem pe_methKwR {pl : Sem Bool} {kws : List Keyword} {tk : TA} (he : PE X o ta) (c : Cls X.K C) (hm : Meth X.K C m f) (F : FnOk X.prog X.w X.K X.mg X.base CX0 k f fd ps sp) (hr : Room k X.A) (hb : KBMR X.K fd ps ks) (hx : Passes CX0 X E) (hkw : PK X kws tk)
    (hall : (backToKw pos (keywordEach kws X.env)).all (·.1.isSome) = true := by rfl) (hks : (backToKw pos (keywordEach kws X.env)).filterMap (·.1) = ks := by rfl)
    (hpl : ((backTo pos (starEach [] X.env)).any (·.1) || (backToKw pos (keywordEach kws X.env)).any (·.1.isNone)) = false := by rfl)
    (ht : eval (.Call (.Attribute o m apos) [] kws pos) X.env = (do
      let ov ← eval o X.env
      standAt apos.atName
      let (f, first) ← holding [ov] (getMethod ov m pl)
      callWith pos f first (backTo pos (starEach [] X.env)) (backToKw pos (keywordEach kws X.env))) := by rfl) :
    PE X (.Call (.Attribute o m apos) [] kws pos) (tMethKwR C m sp ks.length E ta tk) := by
  constructor
  intro pins s σ H Q I h
  refine PySem.W.methodCall_KW (pl := pl) (thn (he.run pins s σ H _ I h) fun u s1 hh => ?_) ht
  obtain ⟨x, H1, I1, rx, a, dx, fs, ex, ea, l, q⟩ := hh
  subst ex
  obtain rfl : u = Value.ref a := rx
  refine getmeth_ok I1 ea c hm l ?_
  refine PySem.W.callWith_KW0 (first := [.ref a]) (h₀ := X.base) I.ok.mod.kin hm.kp hall ?_ hpl
  refine thn (hkw.run pos pins s1 σ H1 _ I1 q) fun ws s2 hh => ?_
  obtain ⟨zs, H2, I2, rz, l0, q2⟩ := hh
  refine ⟨I2.kIn, ?_⟩
  rw [hks]
  have hl : ws.length = ks.length := by rw [← rz.length, l0]
  refine wpAny_call (codeAny_mono (F.run X.A X.stack s2 H2 ⟨[.ref a], ks.zip ws⟩ (.ref a :: ws.reverse) (.ref a :: zs.reverse) Q E hr I2.env0 (hb.to s2 (.ref a) ws I2.kIn hl) (.cons rfl (vals_rev rz)) q2) fun r s' hq => ?_)
  cases r with
  | error e => exact hx pins σ H2 s2 e s' I2 hq
  | ok fl =>
    cases fl with
    | ret u => exact I2.after hq
    | next => exact hq.elim
    | brk => exact hq.elim
    | cont => exact hq.elim
theorem kbmR_mk {K : PySem.W.Frag} {x qual : Str} {st : Stmt} {f : Addr} {fd : FuncData} {ps ks : List Str} (F : Fun K x qual st f fd)
    (h : ∀ (kV doc pm : Value) (an : Option Addr) (cdv ct u : Value) (us : List Value), us.length = ks.length → bindArgs (PySem.W.fnOf x qual (defArgs st) (defBody st) (defScope st) .none kV doc pm an cdv ct) ⟨[u], ks.zip us⟩ = pure (ps.zip (u :: us.reverse))) :
    KBMR K fd ps ks := by
  obtain ⟨oc, od, kV, doc, pm, an, cdv, ct, osl, rfl, lk, hcd⟩ := F.ex
  exact ⟨fun s u ws _ hl => .of_eq (h kV doc pm an cdv ct u ws hl)⟩
/-! ### cls(..), cls a local name -/
def tMakeV (i : Nat) (C : Addr) (sp : Sp) (dvs : List V) (E : XK) (t : TA) : TE := fun σ H Q => σ[i]? = some (some (.ref C)) ∧ tMake C sp dvs E t σ H Q
theorem pe_makeV (M : Mk X.K C f) (F : FnOk X.prog X.w X.K X.mg X.base CX0 k f fd ps sp) (hr : Room (k + 1) X.A) (hb : Binds X.K fd ps ds) (hd : Vals dvs ds) (hx : Passes CX0 X E) (hN : X.N[i]? = some x) (hv : Vis X.env.scope x)
    (ha : PA X (e :: es) t) (hdb : (x == ("__debug__" : Str)) = false := by decide) (hcd : (x == ("__classdict__" : Str)) = false := by decide) (he : starEach (e :: es) X.env = (false, eval e X.env) :: starEach es X.env := by rfl) (hpl : (backTo pos (starEach es X.env)).any (·.1) = false := by rfl) :
    PE X (.Call (.Name x p) (e :: es) [] pos) (tMakeV i C sp dvs E t) := by
  refine ⟨fun pins s σ H Q I h => ?_⟩
  obtain ⟨hs, ht⟩ := h
  refine wpAny_Call_Name_kw (thn ((pe_var (pos := p) hN hv hdb hcd).run pins s σ H (fun v H1 => v = .ref C ∧ H1 = H) I ⟨.ref C, hs, rfl, rfl⟩) fun u s1 ⟨v, H1, I1, r1, q1⟩ => ?_)
  obtain ⟨rfl, rfl⟩ := q1
  cases r1
  refine PySem.W.callWith_K (h₀ := X.base) I.ok.mod.kin M.kp (thn (ha.run pos pins s1 σ _ _ I1 ht) fun us s2 ⟨vs, H2, I2, r, q⟩ => ⟨I2.kIn, ?_⟩) he hpl
  exact run_make M F hr hb hd hx I2 r q
end
/-! ### for i, x in enumerate(a list, start=k) -/
def Ies (K : PySem.W.Frag) (a : Addr) (k : Nat) : It where
  go := fun i H => ∃ (xs : List V) (x : V), SqL K H a xs ∧ xs[i]? = some x
  yld := fun i H v H' => ∃ T x, v = .ref T ∧ H T = none ∧ H' = upd H T (.tup [.int ((k + i : Nat) : Int), x]) ∧ ∀ xs, SqL K H a xs → xs[i]? = some x
  stop := fun i H => ∃ xs : List V, SqL K H a xs ∧ xs.length = i
def EnS (a : Addr) (k : Nat) (e it : Addr) (i : Nat) (h : Heap) : Prop := (∃ old, IsEnum h e it ((k + i : Nat) : Int) old) ∧ h.IsListIter it a i ∧ e ≠ it ∧ a ≠ it ∧ a ≠ e
theorem turn_enumS {P : Program} {w : World} {K : PySem.W.Frag} {elts : List Expr} {kk : Nat} {tpos : Pos} (a : Addr) (k : Nat) (e it : Addr) : Turn P w K (.Tuple elts kk tpos) (Ies K a k) [e, it] e (EnS a k e it) := by
  constructor
  case mem => simp
  case obj =>
    rintro i h ⟨⟨old, he⟩, ⟨o, ho, _, hd⟩, _⟩ b hb
    rcases two_of hb with rfl | rfl
    · exact ⟨_, he, fun v q => nomatch q⟩
    · exact ⟨o, ho, fun v q => by rw [hd] at q; cases q⟩
  case keep =>
    rintro i h h' ⟨⟨old, he⟩, hi, hn⟩ kp
    exact ⟨⟨old, kp e List.mem_cons_self _ he⟩, hi.at fun o q => kp it (by simp) o q, hn⟩
  case item =>
    intro X hP hw hK hc i pins s σ H E I hf st hg
    subst hP hw hK
    obtain ⟨⟨old, he⟩, hit, n1, n2, n3⟩ := st
    obtain ⟨xs, x, hq, hx⟩ := hg
    obtain ⟨its, rv, p, hz⟩ := I.list hq
    obtain ⟨u, hu, ru⟩ := rv.get hx
    have be : e < s.heap.objs.size := Heap.lt_size he
    have bi : it < s.heap.objs.size := by
      obtain ⟨_, q, _⟩ := hit
      exact Heap.lt_size q
    have hlt : i < its.toArray.size := by
      rw [List.size_toArray]
      obtain ⟨y, _⟩ := List.getElem?_eq_some_iff.mp hu
      exact y
    have D := Draws.list (prog := X.prog) (w := X.w) (A := X.A.in1) (I.ok.hd hc) it a n2 its.toArray
    refine wpAny_pyNext_enum_itemC D he ⟨hit, p.isList⟩ hlt n1 (by simp [n1, Ne.symm n3]) fun v h' tk hv ho hs hT hsz hk => ?_
    have ev : v = u := by
      rw [List.getElem?_toArray, hu] at hv
      exact (Option.some.inj hv).symm
    subst ev
    refine ⟨_, rfl, wpAny_letOwnedTupleGo_enum (s := { s with heap := h', toks := tk + 1 }) ho fun h2 he2 sb => ?_⟩
    have hT2 := (sb.2 _ (Nat.ne_of_gt be)).trans hT
    have new : ObjOk X.prog X.w (upd H s.heap.objs.size (.tup [.int ((k + i : Nat) : Int), x])) h2 s.heap.objs.size (.tup [.int ((k + i : Nat) : Int), x]) :=
      ⟨by show 2 ≤ sizeLine; decide, [.int ((k + i : Nat) : Int) tk, v], .cons ⟨_, rfl⟩ (.cons ru .nil), ⟨_, hT2, rfl, _, rfl⟩⟩
    have kept : ∀ b ob, b ∉ [e, it] → s.heap.get? b = some ob → h2.get? b = some ob := fun b ob hb q => by
      have b1 : b ≠ e := fun z => hb (by simp [z])
      have b2 : b ≠ it := fun z => hb (by simp [z])
      exact (sb.2 b b1).trans (hk b ob b1 b2 q)
    have I1 : Inv X pins σ (upd H s.heap.objs.size (.tup [.int ((k + i : Nat) : Int), x])) { s with heap := h2, toks := tk + 1 } := I.turnedNew (ch := [e, it]) kept hf (Nat.le_refl _) new
    have yl : (Ies X.K a k).yld i H (.ref s.heap.objs.size) (upd H s.heap.objs.size (.tup [.int ((k + i : Nat) : Int), x])) :=
      ⟨_, x, rfl, I.hok.fresh (Nat.le_refl _), rfl, fun ys hy => by rw [I.list_inj hy hq]; exact hx⟩
    refine ⟨.ref s.heap.objs.size, _, I1, rfl, yl, ⟨⟨v, ?_⟩, hs.1.at fun o q => (sb.2 it (Ne.symm n1)).trans q, n1, n2, n3⟩, fun b hb => ?_⟩
    · rw [show ((k + (i + 1) : Nat) : Int) = ((k + i : Nat) : Int) + 1 by omega]
      exact he2
    · have hb' : b < s.heap.objs.size := by rcases two_of hb with rfl | rfl <;> assumption
      rw [upd_ne (Nat.ne_of_lt hb')]
      exact (hf b hb).1
  case done =>
    intro X hP hw hK hc i pins s σ H E I hf st hg
    subst hP hw hK
    obtain ⟨⟨old, he⟩, hit, n1, n2, n3⟩ := st
    obtain ⟨xs, hq, hx⟩ := hg
    obtain ⟨its, rv, p, hz⟩ := I.list hq
    obtain ⟨f0, f1, f2, f3, f4, f5⟩ := hf it (by simp)
    have hl : i = its.toArray.size := by
      have := rv.length
      rw [List.size_toArray]
      omega
    have D := Draws.list (prog := X.prog) (w := X.w) (A := X.A.in1) (I.ok.hd hc) it a n2 its.toArray
    refine wpAny_pyNext_enum_endD D he (by rw [← hl]; exact ⟨hit, p.isList⟩) fun h' eb => ⟨rfl, ?_⟩
    exact I.turned (t' := s.toks) (fun b o hb q => eb b o hb q) f0 f1 f3 f4 f5
  case self =>
    rintro A i s Q E ⟨⟨_, he⟩, _⟩ h
    exact wpAny_pyIter_enum he h
theorem callWith_typeK {M : Model} {A : Around} {E : Value → Shared → Prop} {s : Shared} {pos : Pos} {T : String} {first : List Value} {args : List (Bool × Sem Value)} {kws : List (Option Str × Sem Value)} {Q : Value → Shared → Prop}
    (hplain : (args.any (·.1) || kws.any (·.1.isNone)) = false) (h : wpAny M A (evalArgs (.type T) true args kws) (fun a s₁ => wpAny M A (call (.type T) (first ++ a.pos) a.kw) Q E s₁) E s) :
    wpAny M A (callWith pos (.type T) first args kws) Q E s := by
  unfold callWith
  refine wpAny_bind (wpAny_holding (wpAny_mono h (fun a s₁ h₁ => wpAny_bind (wpAny_standAt ?_)) fun _ _ x => x))
  simp only [hplain]
  refine wpAny_bind (wpAny_pure ?_)
  exact wpAny_bind (wpAny_mono h₁ (fun r s₂ hr => wpAny_bind (wpAny_holding (wpAny_point (wpAny_pure hr)))) fun _ _ x => x)
def iEnumS (K : PySem.W.Frag) (ta : TA) (tk : TE) : TI := fun σ H R => ta σ H fun vs H1 => tk σ H1 fun y H2 => ∃ a xs k, vs = [.ref a] ∧ y = vn k ∧ k < 1000000 ∧ SqL K H2 a xs ∧ R (Ies K a k) H2
theorem pi_enumS {X : Cx} {e ek : Expr} {ta : TA} {tk : TE} {p pos tpos kp : Pos} {elts : List Expr} {kk : Nat} (hg : Gl X "enumerate") (hm : X.mg "enumerate" = none) (ha : PA X [e] ta) (hk : PE X ek tk)
    (hs : starEach [e] X.env = (false, eval e X.env) :: starEach [] X.env := by rfl) (hall : (backToKw pos (keywordEach [⟨some (Str.ofString "start"), ek, kp⟩] X.env)).all (·.1.isSome) = true := by rfl)
    (hks : (backToKw pos (keywordEach [⟨some (Str.ofString "start"), ek, kp⟩] X.env)).filterMap (·.1) = [Str.ofString "start"] := by rfl)
    (hpl : ((backTo pos (starEach [e] X.env)).any (·.1) || (backToKw pos (keywordEach [⟨some (Str.ofString "start"), ek, kp⟩] X.env)).any (·.1.isNone)) = false := by rfl) :
    PI X (.Tuple elts kk tpos) (.Call (.Name "enumerate" p) [e] [⟨some (Str.ofString "start"), ek, kp⟩] pos) (iEnumS X.K ta tk) := by
  constructor
  intro pins s σ H R I h
  refine wpAny_Call_Name_kw (ld_blt I hg hm boot_enumerate ?_)
  refine callWith_typeK hpl (evalArgs_kw2 hall ?_ hs)
  refine thn (ha.run pos pins s σ H _ I h) fun us s1 ⟨vs, H1, I1, r1, q1⟩ => ?_
  refine thn ((pk_cons (nm := some (Str.ofString "start")) (kpos := kp) hk pk_nil).run pos pins s1 σ H1 (fun zs H2 => match zs with | [y] => ∃ a xs k, vs = [.ref a] ∧ y = vn k ∧ k < 1000000 ∧ SqL X.K H2 a xs ∧ R (Ies X.K a k) H2 | _ => False) I1 q1) fun ws s2 ⟨zs, H2, I2, rz, q2⟩ => ?_
  match zs, rz, q2 with
  | [y], rz, q2 =>
    obtain ⟨a, xs, k, ex, ey, hk6, hq, q⟩ := q2
    subst ex ey
    obtain ⟨u, rfl, ru⟩ : ∃ u, us = [u] ∧ RelV (.ref a) u := by
      cases r1 with
      | cons r rr => cases rr; exact ⟨_, rfl, r⟩
    obtain rfl : u = Value.ref a := ru
    obtain ⟨t, rfl⟩ : ∃ t, ws = [Value.int ((k : Nat) : Int) t] := by
      cases rz with
      | cons r rr =>
        cases rr
        obtain ⟨t, ht⟩ := r
        exact ⟨t, by rw [ht]⟩
    rw [hks]
    obtain ⟨its, rv, p', hz⟩ := I2.list hq
    have la : a < s2.heap.objs.size := by
      obtain ⟨o, ho, _⟩ := p'.isList
      exact Heap.lt_size ho
    show wpAny _ _ (call (.type "enumerate") [Value.ref a] [(Str.ofString "start", Value.int ((k : Nat) : Int) t)]) _ _ _
    refine enum_begins_start (begins_list a its.toArray) p'.isList (by omega) (by omega) fun h' he hit hsz hkk => wpAny_pyIter_enum he ?_
    refine ⟨s2.heap.objs.size + 1, [s2.heap.objs.size + 1, s2.heap.objs.size], EnS a k (s2.heap.objs.size + 1) s2.heap.objs.size, Ies X.K a k, H2, rfl, I2.kept (t' := s2.toks) hkk, turn_enumS a k _ _, ?_, ?_, q⟩
    · exact ⟨⟨_, he⟩, ⟨_, hit, rfl, rfl⟩, Nat.succ_ne_self _, Nat.ne_of_lt la, Nat.ne_of_lt (Nat.lt_succ_of_lt la)⟩
    · intro b hb
      have hle : s2.heap.objs.size ≤ b := by
        rcases two_of hb with rfl | rfl
        · exact Nat.le_succ _
        · exact Nat.le_refl _
      exact I2.fpOk hle (I2.hok.fresh hle)
theorem walk_enumS {K : PySem.W.Frag} {a : Addr} {xs : List V} {k : Nat} : Walk (Ies K a k) xs.length (fun H => SqL K H a xs) (YPair (fun i => some (.int ((k + i : Nat) : Int))) (fun i => xs[i]?)) := by
  refine ⟨fun i _ hi q => ⟨xs, xs[i], q, by simp [hi]⟩, fun _ q => ⟨xs, q, rfl⟩, ?_⟩
  rintro i H v H' _ q ⟨T, x, h1, h2, h3, h4⟩
  exact ⟨T, .int ((k + i : Nat) : Int), x, h1, h2, h3, rfl, h4 xs q⟩
end TF

namespace K14
open PySem PySem.Spec PyProof.Rows L2 TM TF
def topS (i : Nat) : Stmt := PySem.Challenge.pw_triplefree_k14_whole_first_of_free_sets.main.body.getD i (.Pass ⟨0, 0, 0, 0⟩)
abbrev s_is_whole : Stmt := topS 12
abbrev N_is_whole : List Str := ["value"]
theorem sc_is_whole : FnScope N_is_whole ["value"] (defScope s_is_whole) := ⟨rfl, rfl, rfl, by decide +kernel, rfl, by decide +kernel, by decide +kernel⟩
abbrev s_is_number : Stmt := topS 13
abbrev N_is_number : List Str := ["value"]
theorem sc_is_number : FnScope N_is_number ["value"] (defScope s_is_number) := ⟨rfl, rfl, rfl, by decide +kernel, rfl, by decide +kernel, by decide +kernel⟩
abbrev s_is_between : Stmt := topS 14
abbrev N_is_between : List Str := ["value", "low", "high"]
theorem sc_is_between : FnScope N_is_between ["value", "low", "high"] (defScope s_is_between) := ⟨rfl, rfl, rfl, by decide +kernel, rfl, by decide +kernel, by decide +kernel⟩
abbrev s_check_number : Stmt := topS 15
abbrev N_check_number : List Str := ["value"]
theorem sc_check_number : FnScope N_check_number ["value"] (defScope s_check_number) := ⟨rfl, rfl, rfl, by decide +kernel, rfl, by decide +kernel, by decide +kernel⟩
abbrev s_bits_of : Stmt := topS 16
abbrev N_bits_of : List Str := ["numbers", "bits", "number"]
theorem sc_bits_of : FnScope N_bits_of ["numbers"] (defScope s_bits_of) := ⟨rfl, rfl, rfl, by decide +kernel, rfl, by decide +kernel, by decide +kernel⟩
abbrev s_lowest_place : Stmt := topS 17
abbrev N_lowest_place : List Str := ["bits"]
theorem sc_lowest_place : FnScope N_lowest_place ["bits"] (defScope s_lowest_place) := ⟨rfl, rfl, rfl, by decide +kernel, rfl, by decide +kernel, by decide +kernel⟩
abbrev s_moved : Stmt := topS 18
abbrev N_moved : List Str := ["bits", "places"]
theorem sc_moved : FnScope N_moved ["bits", "places"] (defScope s_moved) := ⟨rfl, rfl, rfl, by decide +kernel, rfl, by decide +kernel, by decide +kernel⟩
abbrev s_covered_bits : Stmt := topS 19
abbrev N_covered_bits : List Str := ["members", "greatest", "covered", "mirrored", "z"]
theorem sc_covered_bits : FnScope N_covered_bits ["members"] (defScope s_covered_bits) := ⟨rfl, rfl, rfl, by decide +kernel, rfl, by decide +kernel, by decide +kernel⟩
abbrev s_least_triple : Stmt := topS 22
abbrev N_least_triple : List Str := ["numbers", "present", "ordered", "distances", "place", "y", "middles", "x", "z"]
theorem sc_least_triple : FnScope N_least_triple ["numbers"] (defScope s_least_triple) := ⟨rfl, rfl, rfl, by decide +kernel, rfl, by decide +kernel, by decide +kernel⟩
abbrev s_smallest_triple : Stmt := topS 23
abbrev N_smallest_triple : List Str := ["numbers", "number"]
theorem sc_smallest_triple : FnScope N_smallest_triple ["numbers"] (defScope s_smallest_triple) := ⟨rfl, rfl, rfl, by decide +kernel, rfl, by decide +kernel, by decide +kernel⟩
abbrev s_checked_start : Stmt := topS 24
abbrev N_checked_start : List Str := ["value", "least", "index", "number", "triple", "low", "middle", "high"]
theorem sc_checked_start : FnScope N_checked_start ["value"] (defScope s_checked_start) := ⟨rfl, rfl, rfl, by decide +kernel, rfl, by decide +kernel, by decide +kernel⟩
abbrev s_covered_behind : Stmt := topS 25
abbrev N_covered_behind : List Str := ["start", "last", "distances", "place", "z", "y", "distance", "x"]
theorem sc_covered_behind : FnScope N_covered_behind ["start"] (defScope s_covered_behind) := ⟨rfl, rfl, rfl, by decide +kernel, rfl, by decide +kernel, by decide +kernel⟩
abbrev s_growth_of : Stmt := topS 26
abbrev N_growth_of : List Str := ["start", "reach", "mirrored", "y"]
theorem sc_growth_of : FnScope N_growth_of ["start"] (defScope s_growth_of) := ⟨rfl, rfl, rfl, by decide +kernel, rfl, by decide +kernel, by decide +kernel⟩
abbrev s_window_of : Stmt := topS 27
abbrev N_window_of : List Str := ["reach"]
theorem sc_window_of : FnScope N_window_of ["reach"] (defScope s_window_of) := ⟨rfl, rfl, rfl, by decide +kernel, rfl, by decide +kernel, by decide +kernel⟩
abbrev s_grown : Stmt := topS 28
abbrev N_grown : List Str := ["last", "growth", "limit", "count", "members", "decided", "mirrored", "found", "reach", "window", "place"]
theorem sc_grown : FnScope N_grown ["last", "growth", "limit", "count"] (defScope s_grown) := ⟨rfl, rfl, rfl, by decide +kernel, rfl, by decide +kernel, by decide +kernel⟩
abbrev s_GreedySequence_init : Stmt := inClass (topS 29) 3
abbrev N_GreedySequence_init : List Str := ["self", "start", "x"]
theorem sc_GreedySequence_init : FnScope N_GreedySequence_init ["self", "start"] (defScope s_GreedySequence_init) := ⟨rfl, rfl, rfl, by decide +kernel, rfl, by decide +kernel, by decide +kernel⟩
abbrev s_GreedySequence_beginning : Stmt := inClass (topS 29) 9
abbrev N_GreedySequence_beginning : List Str := ["self"]
theorem sc_GreedySequence_beginning : FnScope N_GreedySequence_beginning ["self"] (defScope s_GreedySequence_beginning) := ⟨rfl, rfl, rfl, by decide +kernel, rfl, by decide +kernel, by decide +kernel⟩
abbrev s_GreedySequence_contains : Stmt := inClass (topS 29) 11
abbrev N_GreedySequence_contains : List Str := ["self", "x"]
theorem sc_GreedySequence_contains : FnScope N_GreedySequence_contains ["self", "x"] (defScope s_GreedySequence_contains) := ⟨rfl, rfl, rfl, by decide +kernel, rfl, by decide +kernel, by decide +kernel⟩
abbrev s_GreedySequence_coverings : Stmt := inClass (topS 29) 14
abbrev N_GreedySequence_coverings : List Str := ["self", "x", "pair"]
theorem sc_GreedySequence_coverings : GScope N_GreedySequence_coverings ["self", "x"] (defScope s_GreedySequence_coverings) := ⟨rfl, rfl, rfl, by decide +kernel, rfl, by decide +kernel, by decide +kernel⟩
theorem pl_GreedySequence_coverings : ∀ y ∈ (defScope s_GreedySequence_coverings).names, y.2 ≠ .cell ∧ y.2 ≠ .free := by decide +kernel
abbrev s_GreedySequence_check_reach : Stmt := inClass (topS 29) 20
abbrev N_GreedySequence_check_reach : List Str := ["self", "x"]
theorem sc_GreedySequence_check_reach : FnScope N_GreedySequence_check_reach ["self", "x"] (defScope s_GreedySequence_check_reach) := ⟨rfl, rfl, rfl, by decide +kernel, rfl, by decide +kernel, by decide +kernel⟩
abbrev s_GreedySequence_first : Stmt := inClass (topS 29) 21
abbrev N_GreedySequence_first : List Str := ["self", "count"]
theorem sc_GreedySequence_first : FnScope N_GreedySequence_first ["self", "count"] (defScope s_GreedySequence_first) := ⟨rfl, rfl, rfl, by decide +kernel, rfl, by decide +kernel, by decide +kernel⟩
abbrev s_GreedySequence_growth_so_far : Stmt := inClass (topS 29) 23
abbrev N_GreedySequence_growth_so_far : List Str := ["self"]
theorem sc_GreedySequence_growth_so_far : FnScope N_GreedySequence_growth_so_far ["self"] (defScope s_GreedySequence_growth_so_far) := ⟨rfl, rfl, rfl, by decide +kernel, rfl, by decide +kernel, by decide +kernel⟩
abbrev s_GreedySequence_known : Stmt := inClass (topS 29) 24
abbrev N_GreedySequence_known : List Str := ["self", "limit", "count"]
theorem sc_GreedySequence_known : FnScope N_GreedySequence_known ["self", "limit", "count"] (defScope s_GreedySequence_known) := ⟨rfl, rfl, rfl, by decide +kernel, rfl, by decide +kernel, by decide +kernel⟩
abbrev s_GreedySequence_grow : Stmt := inClass (topS 29) 25
abbrev N_GreedySequence_grow : List Str := ["self", "limit", "count", "members", "x"]
theorem sc_GreedySequence_grow : FnScope N_GreedySequence_grow ["self", "limit", "count"] (defScope s_GreedySequence_grow) := ⟨rfl, rfl, rfl, by decide +kernel, rfl, by decide +kernel, by decide +kernel⟩
abbrev s_GreedySequence_covering_pairs : Stmt := inClass (topS 29) 26
abbrev N_GreedySequence_covering_pairs : List Str := ["self", "x", "members", "present", "y"]
theorem sc_GreedySequence_covering_pairs : FnScope N_GreedySequence_covering_pairs ["self", "x"] (defScope s_GreedySequence_covering_pairs) := ⟨rfl, rfl, rfl, by decide +kernel, rfl, by decide +kernel, by decide +kernel⟩
abbrev s_l_sources : Stmt := topS 31
abbrev N_l_sources : List Str := ["script", "cells", "found", "k", "rest"]
theorem sc_l_sources : FnScope N_l_sources ["script"] (defScope s_l_sources) := ⟨rfl, rfl, rfl, by decide +kernel, rfl, by decide +kernel, by decide +kernel⟩
abbrev s_l_pick : Stmt := topS 32
abbrev N_l_pick : List Str := ["source", "many", "found", "k", "cells", "mixed"]
theorem sc_l_pick : FnScope N_l_pick ["source", "many"] (defScope s_l_pick) := ⟨rfl, rfl, rfl, by decide +kernel, rfl, by decide +kernel, by decide +kernel⟩
abbrev s_l_pairs : Stmt := topS 33
abbrev N_l_pairs : List Str := ["places", "spot", "found", "middle", "low"]
theorem sc_l_pairs : FnScope N_l_pairs ["places", "spot"] (defScope s_l_pairs) := ⟨rfl, rfl, rfl, by decide +kernel, rfl, by decide +kernel, by decide +kernel⟩
abbrev s_l_start : Stmt := topS 34
abbrev N_l_start : List Str := ["source", "many", "gap", "spot", "places", "turn"]
theorem sc_l_start : FnScope N_l_start ["source"] (defScope s_l_start) := ⟨rfl, rfl, rfl, by decide +kernel, rfl, by decide +kernel, by decide +kernel⟩
abbrev s_l_triple : Stmt := topS 35
abbrev N_l_triple : List Str := ["numbers", "k", "low", "middle"]
theorem sc_l_triple : FnScope N_l_triple ["numbers"] (defScope s_l_triple) := ⟨rfl, rfl, rfl, by decide +kernel, rfl, by decide +kernel, by decide +kernel⟩
abbrev s_l_drawn : Stmt := topS 36
abbrev N_l_drawn : List Str := ["source", "first", "top", "share", "places", "spot", "one"]
theorem sc_l_drawn : FnScope N_l_drawn ["source", "first", "top", "share"] (defScope s_l_drawn) := ⟨rfl, rfl, rfl, by decide +kernel, rfl, by decide +kernel, by decide +kernel⟩
abbrev s_l_set_right : Stmt := topS 37
abbrev N_l_set_right : List Str := ["sequence_here", "places", "low", "top", "spot"]
theorem sc_l_set_right : FnScope N_l_set_right ["sequence_here", "places", "low", "top"] (defScope s_l_set_right) := ⟨rfl, rfl, rfl, by decide +kernel, rfl, by decide +kernel, by decide +kernel⟩
abbrev s_l_added_right : Stmt := topS 38
abbrev N_l_added_right : List Str := ["sequence_here", "spot", "below", "some", "one"]
theorem sc_l_added_right : FnScope N_l_added_right ["sequence_here", "spot"] (defScope s_l_added_right) := ⟨rfl, rfl, rfl, by decide +kernel, rfl, by decide +kernel, by decide +kernel⟩
abbrev s_l_no_triple : Stmt := topS 39
abbrev N_l_no_triple : List Str := ["source", "numbers", "a", "b", "c", "d", "e", "k"]
theorem sc_l_no_triple : FnScope N_l_no_triple ["source", "numbers"] (defScope s_l_no_triple) := ⟨rfl, rfl, rfl, by decide +kernel, rfl, by decide +kernel, by decide +kernel⟩
abbrev s_law : Stmt := topS 40
abbrev N_law : List Str := ["script", "source", "turn", "first", "some", "top", "share", "again", "spot"]
theorem sc_law : FnScope N_law ["script"] (defScope s_law) := ⟨rfl, rfl, rfl, by decide +kernel, rfl, by decide +kernel, by decide +kernel⟩
structure Txt (K : PySem.W.Frag) (mg : Str → Option Value) where
  f_is_whole : Addr
  fd_is_whole : FuncData
  F_is_whole : Fun K "is_whole" "is_whole" s_is_whole f_is_whole fd_is_whole
  b_is_whole : Binds K fd_is_whole ["value"] []
  g_is_whole : mg "is_whole" = some (.ref f_is_whole)
  f_is_number : Addr
  fd_is_number : FuncData
  F_is_number : Fun K "is_number" "is_number" s_is_number f_is_number fd_is_number
  b_is_number : Binds K fd_is_number ["value"] []
  g_is_number : mg "is_number" = some (.ref f_is_number)
  f_is_between : Addr
  fd_is_between : FuncData
  F_is_between : Fun K "is_between" "is_between" s_is_between f_is_between fd_is_between
  b_is_between : Binds K fd_is_between ["value", "low", "high"] []
  g_is_between : mg "is_between" = some (.ref f_is_between)
  f_check_number : Addr
  fd_check_number : FuncData
  F_check_number : Fun K "check_number" "check_number" s_check_number f_check_number fd_check_number
  b_check_number : Binds K fd_check_number ["value"] []
  g_check_number : mg "check_number" = some (.ref f_check_number)
  f_bits_of : Addr
  fd_bits_of : FuncData
  F_bits_of : Fun K "bits_of" "bits_of" s_bits_of f_bits_of fd_bits_of
  b_bits_of : Binds K fd_bits_of ["numbers"] []
  g_bits_of : mg "bits_of" = some (.ref f_bits_of)
  f_lowest_place : Addr
  fd_lowest_place : FuncData
  F_lowest_place : Fun K "lowest_place" "lowest_place" s_lowest_place f_lowest_place fd_lowest_place
  b_lowest_place : Binds K fd_lowest_place ["bits"] []
  g_lowest_place : mg "lowest_place" = some (.ref f_lowest_place)
  f_moved : Addr
  fd_moved : FuncData
  F_moved : Fun K "moved" "moved" s_moved f_moved fd_moved
  b_moved : Binds K fd_moved ["bits", "places"] []
  g_moved : mg "moved" = some (.ref f_moved)
  f_covered_bits : Addr
  fd_covered_bits : FuncData
  F_covered_bits : Fun K "covered_bits" "covered_bits" s_covered_bits f_covered_bits fd_covered_bits
  b_covered_bits : Binds K fd_covered_bits ["members"] []
  g_covered_bits : mg "covered_bits" = some (.ref f_covered_bits)
  f_least_triple : Addr
  fd_least_triple : FuncData
  F_least_triple : Fun K "least_triple" "least_triple" s_least_triple f_least_triple fd_least_triple
  b_least_triple : Binds K fd_least_triple ["numbers"] []
  g_least_triple : mg "least_triple" = some (.ref f_least_triple)
  f_smallest_triple : Addr
  fd_smallest_triple : FuncData
  F_smallest_triple : Fun K "smallest_triple" "smallest_triple" s_smallest_triple f_smallest_triple fd_smallest_triple
  b_smallest_triple : StarB fd_smallest_triple "numbers"
  g_smallest_triple : mg "smallest_triple" = some (.ref f_smallest_triple)
  f_checked_start : Addr
  fd_checked_start : FuncData
  F_checked_start : Fun K "checked_start" "checked_start" s_checked_start f_checked_start fd_checked_start
  b_checked_start : Binds K fd_checked_start ["value"] []
  g_checked_start : mg "checked_start" = some (.ref f_checked_start)
  f_covered_behind : Addr
  fd_covered_behind : FuncData
  F_covered_behind : Fun K "covered_behind" "covered_behind" s_covered_behind f_covered_behind fd_covered_behind
  b_covered_behind : Binds K fd_covered_behind ["start"] []
  g_covered_behind : mg "covered_behind" = some (.ref f_covered_behind)
  f_growth_of : Addr
  fd_growth_of : FuncData
  F_growth_of : Fun K "growth_of" "growth_of" s_growth_of f_growth_of fd_growth_of
  b_growth_of : Binds K fd_growth_of ["start"] []
  g_growth_of : mg "growth_of" = some (.ref f_growth_of)
  f_window_of : Addr
  fd_window_of : FuncData
  F_window_of : Fun K "window_of" "window_of" s_window_of f_window_of fd_window_of
  b_window_of : Binds K fd_window_of ["reach"] []
  g_window_of : mg "window_of" = some (.ref f_window_of)
  f_grown : Addr
  fd_grown : FuncData
  F_grown : Fun K "grown" "grown" s_grown f_grown fd_grown
  b_grown : Binds K fd_grown ["last", "growth", "limit", "count"] []
  g_grown : mg "grown" = some (.ref f_grown)
  f_GreedySequence_init : Addr
  fd_GreedySequence_init : FuncData
  F_GreedySequence_init : Fun K "__init__" "GreedySequence.__init__" s_GreedySequence_init f_GreedySequence_init fd_GreedySequence_init
  b_GreedySequence_init : Binds K fd_GreedySequence_init ["self", "start"] []
  f_GreedySequence_beginning : Addr
  fd_GreedySequence_beginning : FuncData
  F_GreedySequence_beginning : Fun K "beginning" "GreedySequence.beginning" s_GreedySequence_beginning f_GreedySequence_beginning fd_GreedySequence_beginning
  b_GreedySequence_beginning : Binds K fd_GreedySequence_beginning ["self"] []
  f_GreedySequence_contains : Addr
  fd_GreedySequence_contains : FuncData
  F_GreedySequence_contains : Fun K "contains" "GreedySequence.contains" s_GreedySequence_contains f_GreedySequence_contains fd_GreedySequence_contains
  b_GreedySequence_contains : Binds K fd_GreedySequence_contains ["self", "x"] []
  f_GreedySequence_coverings : Addr
  fd_GreedySequence_coverings : FuncData
  F_GreedySequence_coverings : FunD K "coverings" "GreedySequence.coverings" (defArgs s_GreedySequence_coverings) (defBody s_GreedySequence_coverings) (defScope s_GreedySequence_coverings) [] [] f_GreedySequence_coverings fd_GreedySequence_coverings
  b_GreedySequence_coverings : Binds K fd_GreedySequence_coverings ["self", "x"] []
  f_GreedySequence_check_reach : Addr
  fd_GreedySequence_check_reach : FuncData
  F_GreedySequence_check_reach : Fun K "_check_reach" "GreedySequence._check_reach" s_GreedySequence_check_reach f_GreedySequence_check_reach fd_GreedySequence_check_reach
  b_GreedySequence_check_reach : Binds K fd_GreedySequence_check_reach ["self", "x"] []
  f_GreedySequence_first : Addr
  fd_GreedySequence_first : FuncData
  F_GreedySequence_first : Fun K "_first" "GreedySequence._first" s_GreedySequence_first f_GreedySequence_first fd_GreedySequence_first
  b_GreedySequence_first : Binds K fd_GreedySequence_first ["self", "count"] []
  f_GreedySequence_growth_so_far : Addr
  fd_GreedySequence_growth_so_far : FuncData
  F_GreedySequence_growth_so_far : Fun K "_growth_so_far" "GreedySequence._growth_so_far" s_GreedySequence_growth_so_far f_GreedySequence_growth_so_far fd_GreedySequence_growth_so_far
  b_GreedySequence_growth_so_far : Binds K fd_GreedySequence_growth_so_far ["self"] []
  f_GreedySequence_known : Addr
  fd_GreedySequence_known : FuncData
  F_GreedySequence_known : Fun K "_known" "GreedySequence._known" s_GreedySequence_known f_GreedySequence_known fd_GreedySequence_known
  b_GreedySequence_known : Binds K fd_GreedySequence_known ["self", "limit", "count"] []
  f_GreedySequence_grow : Addr
  fd_GreedySequence_grow : FuncData
  F_GreedySequence_grow : Fun K "_grow" "GreedySequence._grow" s_GreedySequence_grow f_GreedySequence_grow fd_GreedySequence_grow
  b_GreedySequence_grow : Binds K fd_GreedySequence_grow ["self", "limit", "count"] []
  f_GreedySequence_covering_pairs : Addr
  fd_GreedySequence_covering_pairs : FuncData
  F_GreedySequence_covering_pairs : Fun K "_covering_pairs" "GreedySequence._covering_pairs" s_GreedySequence_covering_pairs f_GreedySequence_covering_pairs fd_GreedySequence_covering_pairs
  b_GreedySequence_covering_pairs : Binds K fd_GreedySequence_covering_pairs ["self", "x"] []
  f_l_sources : Addr
  fd_l_sources : FuncData
  F_l_sources : Fun K "_law_sources" "_law_sources" s_l_sources f_l_sources fd_l_sources
  b_l_sources : Binds K fd_l_sources ["script"] []
  g_l_sources : mg "_law_sources" = some (.ref f_l_sources)
  f_l_pick : Addr
  fd_l_pick : FuncData
  F_l_pick : Fun K "_law_pick" "_law_pick" s_l_pick f_l_pick fd_l_pick
  b_l_pick : Binds K fd_l_pick ["source", "many"] []
  g_l_pick : mg "_law_pick" = some (.ref f_l_pick)
  f_l_pairs : Addr
  fd_l_pairs : FuncData
  F_l_pairs : Fun K "_law_pairs" "_law_pairs" s_l_pairs f_l_pairs fd_l_pairs
  b_l_pairs : Binds K fd_l_pairs ["places", "spot"] []
  g_l_pairs : mg "_law_pairs" = some (.ref f_l_pairs)
  f_l_start : Addr
  fd_l_start : FuncData
  F_l_start : Fun K "_law_start" "_law_start" s_l_start f_l_start fd_l_start
  b_l_start : Binds K fd_l_start ["source"] []
  g_l_start : mg "_law_start" = some (.ref f_l_start)
  f_l_triple : Addr
  fd_l_triple : FuncData
  F_l_triple : Fun K "_law_triple" "_law_triple" s_l_triple f_l_triple fd_l_triple
  b_l_triple : Binds K fd_l_triple ["numbers"] []
  g_l_triple : mg "_law_triple" = some (.ref f_l_triple)
  f_l_drawn : Addr
  fd_l_drawn : FuncData
  F_l_drawn : Fun K "_law_drawn" "_law_drawn" s_l_drawn f_l_drawn fd_l_drawn
  b_l_drawn : Binds K fd_l_drawn ["source", "first", "top", "share"] []
  g_l_drawn : mg "_law_drawn" = some (.ref f_l_drawn)
  f_l_set_right : Addr
  fd_l_set_right : FuncData
  F_l_set_right : Fun K "_law_set_right" "_law_set_right" s_l_set_right f_l_set_right fd_l_set_right
  b_l_set_right : Binds K fd_l_set_right ["sequence_here", "places", "low", "top"] []
  g_l_set_right : mg "_law_set_right" = some (.ref f_l_set_right)
  f_l_added_right : Addr
  fd_l_added_right : FuncData
  F_l_added_right : Fun K "_law_added_right" "_law_added_right" s_l_added_right f_l_added_right fd_l_added_right
  b_l_added_right : Binds K fd_l_added_right ["sequence_here", "spot"] []
  g_l_added_right : mg "_law_added_right" = some (.ref f_l_added_right)
  f_l_no_triple : Addr
  fd_l_no_triple : FuncData
  F_l_no_triple : Fun K "_law_no_triple" "_law_no_triple" s_l_no_triple f_l_no_triple fd_l_no_triple
  b_l_no_triple : Binds K fd_l_no_triple ["source", "numbers"] []
  g_l_no_triple : mg "_law_no_triple" = some (.ref f_l_no_triple)
  f_law : Addr
  fd_law : FuncData
  F_law : Fun K "law" "law" s_law f_law fd_law
  b_law : Binds K fd_law ["script"] []
  g_law : mg "law" = some (.ref f_law)
  C_GreedySequence : Addr
  M_GreedySequence : Mk K C_GreedySequence f_GreedySequence_init
  c_GreedySequence : Cls K C_GreedySequence
  g_GreedySequence : mg "GreedySequence" = some (.ref C_GreedySequence)
  n_GreedySequence_start : NoAttr K C_GreedySequence "_start"
  n_GreedySequence_last : NoAttr K C_GreedySequence "_last"
  n_GreedySequence_horizon : NoAttr K C_GreedySequence "_horizon"
  n_GreedySequence_members : NoAttr K C_GreedySequence "_members"
  n_GreedySequence_present : NoAttr K C_GreedySequence "_present"
  n_GreedySequence_complete : NoAttr K C_GreedySequence "_complete"
  n_GreedySequence_growth : NoAttr K C_GreedySequence "_growth"
  me_GreedySequence_contains : Meth K C_GreedySequence "contains" f_GreedySequence_contains
  me_GreedySequence_coverings : Meth K C_GreedySequence "coverings" f_GreedySequence_coverings
  me_GreedySequence_check_reach : Meth K C_GreedySequence "_check_reach" f_GreedySequence_check_reach
  me_GreedySequence_first : Meth K C_GreedySequence "_first" f_GreedySequence_first
  me_GreedySequence_growth_so_far : Meth K C_GreedySequence "_growth_so_far" f_GreedySequence_growth_so_far
  me_GreedySequence_known : Meth K C_GreedySequence "_known" f_GreedySequence_known
  me_GreedySequence_grow : Meth K C_GreedySequence "_grow" f_GreedySequence_grow
  me_GreedySequence_covering_pairs : Meth K C_GreedySequence "_covering_pairs" f_GreedySequence_covering_pairs
  mc_GreedySequence : Value
  cr_GreedySequence : ClX.CRead K C_GreedySequence mc_GreedySequence
  u_GreedySequence_MAX_START : Value
  cv_GreedySequence_MAX_START : ClX.CVal K C_GreedySequence mc_GreedySequence "MAX_START" (.int 40) u_GreedySequence_MAX_START
  u_GreedySequence_MAX_FIRST : Value
  cv_GreedySequence_MAX_FIRST : ClX.CVal K C_GreedySequence mc_GreedySequence "MAX_FIRST" (.int 1000000) u_GreedySequence_MAX_FIRST
  u_GreedySequence_REACH : Value
  cv_GreedySequence_REACH : ClX.CVal K C_GreedySequence mc_GreedySequence "REACH" (.int 2000) u_GreedySequence_REACH
  iu_GreedySequence_MAX_START : Value
  ic_GreedySequence_MAX_START : Con K C_GreedySequence "MAX_START" (.int 40) iu_GreedySequence_MAX_START
  iu_GreedySequence_REACH : Value
  ic_GreedySequence_REACH : Con K C_GreedySequence "REACH" (.int 2000) iu_GreedySequence_REACH
  p_GreedySequence_beginning : Addr
  po_GreedySequence_beginning : PropOf K C_GreedySequence "beginning" p_GreedySequence_beginning f_GreedySequence_beginning
  m_isinstance : mg "isinstance" = none
  m_int : mg "int" = none
  m_bool : mg "bool" = none
  m_set : mg "set" = none
  m_sorted : mg "sorted" = none
  m_enumerate : mg "enumerate" = none
  m_tuple : mg "tuple" = none
  m_list : mg "list" = none
  m_len : mg "len" = none
  m_range : mg "range" = none
  m_min : mg "min" = none
  m_dict : mg "dict" = none
  m_max : mg "max" = none
  t_NEAR : Tok
  g_NEAR : mg "NEAR" = some (.int 10000 t_NEAR)
section
variable {P : Program} {w : World} {K : PySem.W.Frag} {mg : Str → Option Value} {base : Heap}
/-! ### checks -/
def sp_is_whole (K : PySem.W.Frag) : Sp := fun vs H Q _ => ∃ i : Int, vs = [.int i] ∧ Q (.bl true) H
theorem ok_is_whole (T : Txt K mg) : FnOk P w K mg base CX0 1 T.f_is_whole T.fd_is_whole ["value"] (sp_is_whole K) := by
  have nd := sc_is_whole.nd
  refine T.F_is_whole.ok sc_is_whole (fun vs H Q E h => ?_) (fun cdv A outer s H vs Q E hr h => ?_)
  · obtain ⟨i, rfl, _⟩ := h
    rfl
  · obtain ⟨i, rfl, q⟩ := h
    refine ⟨_, (pss_one (ps_ret (pe_and (pe_callB call_isi (by rfl) T.m_isinstance (by decide +kernel) (pa_cons (pv 0) (pa_cons (pe_bltn (v := .ty "int") (by rfl) T.m_int (by decide +kernel) rfl) pa_nil))) (pe_one (pe_not (pe_callB call_isi (by rfl) T.m_isinstance (by decide +kernel) (pa_cons (pv 0) (pa_cons (pe_bltn (v := .ty "bool") (by rfl) T.m_bool (by decide +kernel) rfl) pa_nil)))))))), ?_⟩
    refine ⟨_, rfl, _, _, _, _, true, rfl, .ty "int", .base (.int i), kit_ty (by decide +kernel), true, rfl, iteT ?_⟩
    refine ⟨_, rfl, _, _, _, _, false, rfl, .ty "bool", .base (.int i), kit_ty (by decide +kernel), false, rfl, ?_⟩
    exact q
def sp_is_number (K : PySem.W.Frag) : Sp := fun vs H Q _ => ∃ n : Nat, vs = [vn n] ∧ Q (.bl true) H
theorem ok_is_number (T : Txt K mg) : FnOk P w K mg base CX0 2 T.f_is_number T.fd_is_number ["value"] (sp_is_number K) := by
  have nd := sc_is_number.nd
  refine T.F_is_number.ok sc_is_number (fun vs H Q E h => ?_) (fun cdv A outer s H vs Q E hr h => ?_)
  · obtain ⟨i, rfl, _⟩ := h
    rfl
  · obtain ⟨n, rfl, q⟩ := h
    refine ⟨_, (pss_one (ps_ret (pe_and (pe_call (ok_is_whole T) (hr.mono (by decide)) rfl T.g_is_whole T.F_is_whole.kp T.b_is_whole .nil pass0 (pa_cons (pv 0) pa_nil)) (pe_one (pe_cmpR op_ge (pv 0) pe_int (nomark _)))))), ?_⟩
    refine ⟨_, rfl, _, rfl, true, rfl, iteT ?_⟩
    refine ⟨_, rfl, _, _, rfl, rfl, ?_⟩
    show Q (.bl (decide ((0 : Int) ≤ (n : Int)))) H
    rw [decide_eq_true (show (0 : Int) ≤ (n : Int) by omega)]
    exact q
def sp_is_between (K : PySem.W.Frag) : Sp := fun vs H Q _ => ∃ i lo hi : Int, vs = [.int i, .int lo, .int hi] ∧ Q (.bl (decide (lo ≤ i ∧ i ≤ hi))) H
theorem ok_is_between (T : Txt K mg) : FnOk P w K mg base CX0 2 T.f_is_between T.fd_is_between ["value", "low", "high"] (sp_is_between K) := by
  have nd := sc_is_between.nd
  refine T.F_is_between.ok sc_is_between (fun vs H Q E h => ?_) (fun cdv A outer s H vs Q E hr h => ?_)
  · obtain ⟨i, lo, hi, rfl, _⟩ := h
    rfl
  · obtain ⟨i, lo, hi, rfl, q⟩ := h
    refine ⟨_, (pss_one (ps_ret (pe_and (pe_call (ok_is_whole T) (hr.mono (by decide)) rfl T.g_is_whole T.F_is_whole.kp T.b_is_whole .nil pass0 (pa_cons (pv 0) pa_nil)) (pe_one (pe_chain op_le op_le (pv 1) (pv 0) (pv 2)))))), ?_⟩
    refine ⟨_, rfl, i, rfl, true, rfl, iteT ?_⟩
    refine ⟨_, rfl, _, rfl, _, _, rfl, rfl, ?_⟩
    refine ⟨_, rfl, ite2 (fun c => ?_) (fun c => ?_)⟩
    · have h1 : lo ≤ i := of_decide_eq_true c
      exact ⟨_, rfl, _, _, rfl, rfl, by
        show Q (.bl (decide (i ≤ hi))) H
        rw [show decide (i ≤ hi) = decide (lo ≤ i ∧ i ≤ hi) by by_cases h2 : i ≤ hi <;> simp [h1, h2]]
        exact q⟩
    · have h1 : ¬ lo ≤ i := fun z => c (decide_eq_true z)
      show Q (.bl false) H
      rw [show false = decide (lo ≤ i ∧ i ≤ hi) by simp [h1]]
      exact q
def sp_check_number (K : PySem.W.Frag) : Sp := fun vs H Q _ => ∃ n : Nat, vs = [vn n] ∧ Q .non H
theorem ok_check_number (T : Txt K mg) : FnOk P w K mg base CX0 3 T.f_check_number T.fd_check_number ["value"] (sp_check_number K) := by
  have nd := sc_check_number.nd
  refine T.F_check_number.ok sc_check_number (fun vs H Q E h => ?_) (fun cdv A outer s H vs Q E hr h => ?_)
  · obtain ⟨i, rfl, _⟩ := h
    rfl
  · obtain ⟨n, rfl, q⟩ := h
    refine ⟨_, (pss_one (ps_if (pt_not (pt_val (pe_call (ok_is_number T) (hr.mono (by decide)) rfl T.g_is_number T.F_is_number.kp T.b_is_number .nil pass0 (pa_cons (pv 0) pa_nil)))) (pss_one ps_never) pss_nil)), ?_⟩
    exact ⟨_, rfl, n, rfl, true, rfl, iteF q⟩
end
end K14

namespace K14
open PySem PySem.Spec PyProof.Rows L2 TM TF
theorem pow_up {n a b : Nat} (h : n < 2 ^ a) (hab : a ≤ b) : n < 2 ^ b := Nat.lt_of_lt_of_le h (Nat.pow_le_pow_right (by decide) hab)
theorem none_of {H H' : Hp} {t : Addr} (s : Same H H') (h : H' t = none) : H t = none := by
  cases e : H t with
  | none => rfl
  | some o => rw [s _ _ e] at h; cases h
theorem low_bits {n : Nat} (h : 0 < n) : ((Builtin.Int.intBits (Builtin.bitAnd (n : Int) (-(n : Int))) : Nat) : Int) - 1 = ((ev n : Nat) : Int) := by
  have e1 : Builtin.bitAnd (n : Int) (-(n : Int)) = ((2 ^ ev n : Nat) : Int) := by
    unfold Builtin.bitAnd
    have h1 : (0 : Int) ≤ (n : Int) := by omega
    have h2 : ¬ (0 : Int) ≤ -(n : Int) := by omega
    have h3 : (Builtin.bitNot (-(n : Int))).toNat = n - 1 := by unfold Builtin.bitNot; omega
    simp only [h1, h2, decide_true, decide_false]
    rw [h3, Int.toNat_natCast]
    have := low_bit n h
    omega
  rw [e1]
  unfold Builtin.Int.intBits
  have hp : 0 < 2 ^ ev n := Nat.two_pow_pos _
  rw [if_neg (fun z => absurd (eq_of_beq z) (by omega)), Int.natAbs_natCast, Nat.log2_two_pow]
  omega
section
variable {P : Program} {w : World} {K : PySem.W.Frag} {mg : Str → Option Value} {base : Heap}
theorem vn_at {ms : List Nat} {i : Nat} {x : V} (h : (ms.map vn)[i]? = some x) : ∃ n, n ∈ ms ∧ ms[i]? = some n ∧ x = vn n := by
  rw [List.getElem?_map] at h
  cases e : ms[i]? with
  | none => rw [e] at h; cases h
  | some n =>
    rw [e] at h
    cases h
    exact ⟨n, List.mem_of_getElem? e, rfl, rfl⟩
theorem vn_get {ms : List Nat} {i : Nat} (h : i < ms.length) : atI (ms.map vn) ((i : Nat) : Int) = some (vn (ms.getD i 0)) := by
  refine atI_nat ?_
  rw [List.getElem?_map, List.getElem?_eq_getElem h, List.getD_eq_getElem?_getD, List.getElem?_eq_getElem h]
  rfl
/-! ### how many are below -/
def sp_bits_of (K : PySem.W.Frag) : Sp := fun vs H Q _ => ∃ (p : Addr) (ms : List Nat), vs = [.ref p] ∧ (H p = some (.tup (ms.map vn)) ∨ H p = some (.lst (ms.map vn))) ∧ (∀ a ∈ ms, a < 40000) ∧ ms.length ≤ 2000 ∧ Q (vn (bitsN 0 ms)) H
theorem bitsN_snoc : ∀ (l : List Nat) (b a : Nat), bitsN b (l ++ [a]) = bitsN b l ||| 2 ^ a
  | [], _, _ => rfl
  | x :: r, b, a => bitsN_snoc r (b ||| 2 ^ x) a
theorem ok_bits_of (T : Txt K mg) : FnOk P w K mg base CX0 1 T.f_bits_of T.fd_bits_of ["numbers"] (sp_bits_of K) := by
  have nd := sc_bits_of.nd
  refine T.F_bits_of.ok sc_bits_of (fun vs H Q E h => ?_) (fun cdv A outer s H vs Q E hr h => ?_)
  · obtain ⟨p, ms, rfl, _⟩ := h
    rfl
  · obtain ⟨p, ms, rfl, hp, hb, hl, q⟩ := h
    refine ⟨_, (pss_cons (ps_set (i := 1) nd rfl (.inl rfl) pe_int)
      (pss_cons (ps_for PassesOwn.never rfl (pi_both (pi_tup (pv 0)) (pi_list (pv 0))) (pg_name (i := 2) nd rfl (.inl rfl)) (pss_one (ps_set (i := 1) nd rfl (.inl rfl) (pe_op nOr (pv 1) (pe_op nShl pe_int (pv 2))))))
      (pss_one (ps_ret (pv 1))))), ?_⟩
    have hlen : (ms.map vn).length = ms.length := List.length_map ..
    rcases hp with hp | hp
    · replace hp : SqT K H p (ms.map vn) := SqT.of hp
      refine .inl ⟨_, rfl, p, rfl, ⟨_, hp⟩, ?_⟩
      refine for_it (walk_tup (xs := ms.map vn)) (fun i σ H' => ∃ y2 : Option V, σ = [some (.ref p), some (vn (bitsN 0 (ms.take i))), y2] ∧ H' = H) ⟨none, rfl, rfl⟩ (fun i σ H' _ ⟨_, _, e⟩ => e ▸ hp) ?_ ?_
      · rintro i x σ H2 H3 hi ⟨y2, rfl, rfl⟩ ⟨rfl, hx⟩
        obtain ⟨n, hn, gn, rfl⟩ := vn_at hx
        refine ⟨_, rfl, _, rfl, 1, n, rfl, rfl, ⟨1, by decide, by have := hb n hn; omega⟩, _, _, rfl, rfl, trivial, ⟨some (vn n), ?_, rfl⟩⟩
        have e : bitsN 0 (ms.take (i + 1)) = bitsN 0 (ms.take i) ||| 1 * 2 ^ n := by
          rw [List.take_succ, gn, Nat.one_mul]
          exact bitsN_snoc _ _ _
        rw [e]
        rfl
      · rintro σ H2 ⟨y2, rfl, rfl⟩
        rw [hlen, List.take_length]
        exact ⟨_, rfl, q⟩
    · replace hp : SqL K H p (ms.map vn) := SqL.of hp
      refine .inr ⟨_, rfl, p, rfl, ⟨_, hp⟩, ?_⟩
      refine for_it (walk_list (xs := ms.map vn)) (fun i σ H' => ∃ y2 : Option V, σ = [some (.ref p), some (vn (bitsN 0 (ms.take i))), y2] ∧ H' = H) ⟨none, rfl, rfl⟩ (fun i σ H' _ ⟨_, _, e⟩ => e ▸ hp) ?_ ?_
      · rintro i x σ H2 H3 hi ⟨y2, rfl, rfl⟩ ⟨rfl, hx⟩
        obtain ⟨n, hn, gn, rfl⟩ := vn_at hx
        refine ⟨_, rfl, _, rfl, 1, n, rfl, rfl, ⟨1, by decide, by have := hb n hn; omega⟩, _, _, rfl, rfl, trivial, ⟨some (vn n), ?_, rfl⟩⟩
        have e : bitsN 0 (ms.take (i + 1)) = bitsN 0 (ms.take i) ||| 1 * 2 ^ n := by
          rw [List.take_succ, gn, Nat.one_mul]
          exact bitsN_snoc _ _ _
        rw [e]
        rfl
      · rintro σ H2 ⟨y2, rfl, rfl⟩
        rw [hlen, List.take_length]
        exact ⟨_, rfl, q⟩
/-! ### the lowest bit -/
def sp_lowest_place (K : PySem.W.Frag) : Sp := fun vs H Q _ => ∃ n : Nat, vs = [vn n] ∧ 0 < n ∧ Q (vn (ev n)) H
theorem ok_lowest_place (T : Txt K mg) : FnOk P w K mg base CX0 1 T.f_lowest_place T.fd_lowest_place ["bits"] (sp_lowest_place K) := by
  have nd := sc_lowest_place.nd
  refine T.F_lowest_place.ok sc_lowest_place (fun vs H Q E h => ?_) (fun cdv A outer s H vs Q E hr h => ?_)
  · obtain ⟨n, rfl, _⟩ := h
    rfl
  · obtain ⟨n, rfl, hn, q⟩ := h
    refine ⟨_, (pss_one (ps_ret (pe_op op_sub (pe_bits (pe_op op_and (pv 0) (pe_un un_neg (pv 0)))) pe_int))), ?_⟩
    refine ⟨_, rfl, _, rfl, _, rfl, _, _, rfl, rfl, _, rfl, _, _, rfl, rfl, ?_⟩
    have e := low_bits hn
    show Q (.int (((Builtin.Int.intBits (Builtin.bitAnd (n : Int) (-(n : Int))) : Nat) : Int) - 1)) H
    rw [e]
    exact q
/-! ### bits that are moved -/
/-- moved by places, up or down -/
def mvI (w : Nat) (z : Int) : Nat := if z < 0 then w / 2 ^ (-z).toNat else w * 2 ^ z.toNat
theorem mvI_eq (w z g : Nat) : mvI w (2 * (z : Int) - (g : Int)) = mvN w z g := by
  unfold mvI mvN
  by_cases h : 2 * z < g
  · rw [if_pos (by omega), if_pos h, show (-(2 * (z : Int) - (g : Int))).toNat = g - 2 * z by omega]
  · rw [if_neg (by omega), if_neg h, show (2 * (z : Int) - (g : Int)).toNat = 2 * z - g by omega]
def sp_moved (K : PySem.W.Frag) : Sp := fun vs H Q _ => ∃ (w : Nat) (z : Int), vs = [vn w, .int z] ∧ w < 2 ^ 40000 ∧ z.natAbs < 80000 ∧ Q (vn (mvI w z)) H
theorem ok_moved (T : Txt K mg) : FnOk P w K mg base CX0 1 T.f_moved T.fd_moved ["bits", "places"] (sp_moved K) := by
  have nd := sc_moved.nd
  refine T.F_moved.ok sc_moved (fun vs H Q E h => ?_) (fun cdv A outer s H vs Q E hr h => ?_)
  · obtain ⟨w, z, rfl, _⟩ := h
    rfl
  · obtain ⟨w, z, rfl, hw, hz, q⟩ := h
    refine ⟨_, (pss_cons (ps_if (pt_cmpR op_lt (pv 1) pe_int (nomark _)) (pss_one (ps_ret (pe_op nShr (pv 0) (pe_un un_neg (pv 1))))) pss_nil)
      (pss_one (ps_ret (pe_op nShl (pv 0) (pv 1))))), ?_⟩
    refine ⟨_, rfl, _, _, rfl, rfl, _, rfl, ite2 (fun c => ?_) (fun c => ?_)⟩
    · have h1 : z < 0 := of_decide_eq_true c
      refine ⟨_, rfl, _, rfl, _, rfl, w, (-z).toNat, rfl, congrArg V.int (by omega), trivial, ?_⟩
      have e : mvI w z = w / 2 ^ (-z).toNat := if_pos h1
      show Q (vn (w / 2 ^ (-z).toNat)) H
      rw [← e]
      exact q
    · have h1 : ¬ z < 0 := fun y => c (decide_eq_true y)
      refine ⟨_, rfl, _, rfl, w, z.toNat, rfl, congrArg V.int (by omega), ⟨40000, hw, by omega⟩, ?_⟩
      have e : mvI w z = w * 2 ^ z.toNat := if_neg h1
      show Q (vn (w * 2 ^ z.toNat)) H
      rw [← e]
      exact q
def mirN (g w : Nat) : List Nat → Nat
  | [] => w
  | z :: r => mirN g (w ||| 2 ^ (g - z)) r
theorem mirN_snoc (g : Nat) : ∀ (l : List Nat) (w z : Nat), mirN g w (l ++ [z]) = mirN g w l ||| 2 ^ (g - z)
  | [], _, _ => rfl
  | x :: r, w, z => mirN_snoc g r _ z
theorem covN_snoc (g : Nat) : ∀ (l : List Nat) (c w z : Nat), covN g c w (l ++ [z]) = covN g c w l ||| mvN (mirN g w l) z g
  | [], _, _, _ => rfl
  | x :: r, c, w, z => covN_snoc g r _ _ z
theorem mirN_lt (g : Nat) : ∀ (l : List Nat) (w : Nat), w < 2 ^ (g + 1) → mirN g w l < 2 ^ (g + 1)
  | [], _, h => h
  | x :: r, w, h => mirN_lt g r _ (Nat.or_lt_two_pow h (Nat.pow_lt_pow_right (by decide) (by omega)))
theorem last_ge {N : Nat} {ms : List Nat} (hu : up N 0 ms = true) {y : Nat} (hy : y ∈ ms) : y ≤ ms.getD (ms.length - 1) 0 := by
  obtain ⟨i, hi, rfl⟩ := List.getElem_of_mem hy
  have e : ms[i] = ms.getD i 0 := by rw [List.getD_eq_getElem?_getD, List.getElem?_eq_getElem hi, Option.getD_some]
  rw [e]
  rcases Nat.lt_or_ge i (ms.length - 1) with z | z
  · exact Nat.le_of_lt (up_get hu i _ z (by omega))
  · rw [show i = ms.length - 1 by omega]
    exact Nat.le_refl _
def sp_covered_bits (K : PySem.W.Frag) : Sp := fun vs H Q _ => ∃ (t : Addr) (ms : List Nat) (N : Nat), vs = [.ref t] ∧ H t = some (.lst (ms.map vn)) ∧ up N 0 ms = true ∧ 0 < ms.length ∧ N ≤ 20000 ∧ Q (vn (covN (ms.getD (ms.length - 1) 0) 0 0 ms)) H
theorem ok_covered_bits (T : Txt K mg) : FnOk P w K mg base CX0 2 T.f_covered_bits T.fd_covered_bits ["members"] (sp_covered_bits K) := by
  have nd := sc_covered_bits.nd
  refine T.F_covered_bits.ok sc_covered_bits (fun vs H Q E h => ?_) (fun cdv A outer s H vs Q E hr h => ?_)
  · obtain ⟨t, ms, N, rfl, _⟩ := h
    rfl
  · obtain ⟨t, ms, N, rfl, ht0, hu, hl, hN, q⟩ := h
    refine ⟨_, (pss_cons (ps_set (i := 1) nd rfl (.inl rfl) (pe_ix (ix_listK K) (pv 0) (pe_un un_neg pe_int) (fun _ _ => rfl)))
      (pss_cons (ps_set (i := 2) nd rfl (.inl rfl) pe_int)
      (pss_cons (ps_set (i := 3) nd rfl (.inl rfl) pe_int)
      (pss_cons (ps_for PassesOwn.never rfl (pi_list (pv 0)) (pg_name (i := 4) nd rfl (.inl rfl)) (pss_cons (ps_set (i := 2) nd rfl (.inl rfl) (pe_op nOr (pv 2) (pe_call (ok_moved T) (hr.mono (by decide)) rfl T.g_moved T.F_moved.kp T.b_moved .nil pass0 (pa_cons (pv 3) (pa_cons (pe_op op_sub (pe_op op_mulW pe_int (pv 4)) (pv 1)) pa_nil)))))
      (pss_one (ps_set (i := 3) nd rfl (.inl rfl) (pe_op nOr (pv 3) (pe_op nShl pe_int (pe_op nSub (pv 1) (pv 4))))))))
      (pss_one (ps_ret (pv 2))))))), ?_⟩
    have hlen : (ms.map vn).length = ms.length := List.length_map ..
    have ht : SqL K H t (ms.map vn) := SqL.of ht0
    have hlast : atI (ms.map vn) (-1) = some (vn (ms.getD (ms.length - 1) 0)) := by
      unfold atI ixN
      rw [if_neg (by decide), if_pos (by rw [hlen]; omega), hlen]
      show (ms.map vn)[((-1 : Int) + (ms.length : Int)).toNat]? = _
      rw [show ((-1 : Int) + (ms.length : Int)).toNat = ms.length - 1 by omega, List.getElem?_map, List.getElem?_eq_getElem (by omega), List.getD_eq_getElem?_getD, List.getElem?_eq_getElem (by omega)]
      rfl
    have hg : ms.getD (ms.length - 1) 0 < N := (CellM.mk hu (List.length_pos_iff.mp hl)).lt (by omega)
    refine ⟨_, rfl, _, rfl, t, _, _, _, rfl, rfl, ht, hlast, ?_⟩
    have hle := fun y hy => last_ge hu (y := y) hy
    generalize ms.getD (ms.length - 1) 0 = g at *
    refine ⟨_, rfl, t, rfl, ⟨_, ht⟩, ?_⟩
    refine for_it (walk_list (xs := ms.map vn)) (fun i σ H' => ∃ y4 : Option V, σ = [some (.ref t), some (vn g), some (vn (covN g 0 0 (ms.take i))), some (vn (mirN g 0 (ms.take i))), y4] ∧ H' = H) ⟨none, rfl, rfl⟩ (fun i σ H' _ ⟨_, _, e⟩ => e ▸ ht) ?_ ?_
    · rintro i x σ H2 H3 hi ⟨y4, rfl, rfl⟩ ⟨rfl, hx⟩
      obtain ⟨n, hn, gn, rfl⟩ := vn_at hx
      have hng := hle n hn
      have hw := mirN_lt g (ms.take i) 0 (Nat.pow_pos (by decide))
      have hw2 : mirN g 0 (ms.take i) < 2 ^ 40000 := pow_up hw (by omega)
      refine ⟨_, rfl, _, rfl, _, rfl, _, _, rfl, rfl, wide_mul (a := 10) (b := 20) (by decide) (by omega) (by decide) (by decide) (by decide), _, rfl, _, _, rfl, rfl, _, _, rfl, hw2, by omega, ?_⟩
      rw [mvI_eq]
      refine ⟨_, _, rfl, rfl, trivial, ?_⟩
      refine ⟨_, rfl, _, rfl, _, rfl, _, _, rfl, rfl, hng, 1, g - n, rfl, rfl, ⟨1, by decide, by omega⟩, _, _, rfl, rfl, trivial, ⟨some (vn n), ?_, rfl⟩⟩
      rw [List.take_succ, gn]
      show _ = [some (.ref t), some (vn g), some (vn (covN g 0 0 (ms.take i ++ [n]))), some (vn (mirN g 0 (ms.take i ++ [n]))), _]
      rw [covN_snoc, mirN_snoc, ← Nat.one_mul (2 ^ (g - n))]
      rfl
    · rintro σ H2 ⟨y2, rfl, rfl⟩
      rw [hlen, List.take_length]
      exact ⟨_, rfl, q⟩
end
end K14

/-! M24: a number as a sum of two plain ones: by its digits (lowest first) and a number n whose bits say who takes the ones -/
namespace TM
def LO : List Nat → Nat → Nat
  | [], _ => 0
  | d :: ds, n => if d = 1 then n % 2 + 3 * LO ds (n / 2) else tw d + 3 * LO ds n
def HI : List Nat → Nat → Nat
  | [], _ => 0
  | d :: ds, n => if d = 1 then 1 - n % 2 + 3 * HI ds (n / 2) else tw d + 3 * HI ds n
def on : List Nat → Nat
  | [] => 0
  | d :: ds => if d = 1 then on ds + 1 else on ds
theorem tw_le (d : Nat) : tw d ≤ 1 := by unfold tw; split <;> omega
theorem LO_HI : ∀ (ds : List Nat) (n : Nat), (∀ d ∈ ds, d < 3) → LO ds n + HI ds n = rd 3 ds
  | [], _, _ => rfl
  | d :: ds, n, h => by
    have h0 := h d List.mem_cons_self
    have hr := fun m => LO_HI ds m fun x hx => h x (List.mem_cons_of_mem _ hx)
    simp only [LO, HI, rd]
    by_cases e : d = 1
    · rw [if_pos e, if_pos e]
      have := hr (n / 2)
      omega
    · rw [if_neg e, if_neg e]
      have := hr n
      have ht : 2 * tw d = d := by
        unfold tw
        rcases (show d = 0 ∨ d = 2 by omega) with rfl | rfl <;> rfl
      omega
theorem LO_plain : ∀ (ds : List Nat) (n : Nat), plain (LO ds n)
  | [], _ => plain_zero
  | d :: ds, n => by
    simp only [LO]
    by_cases e : d = 1
    · rw [if_pos e]
      exact (plain_step (Nat.mod_lt _ (by decide))).mpr (LO_plain ds _)
    · rw [if_neg e]
      exact (plain_step (Nat.lt_succ_of_le (tw_le d))).mpr (LO_plain ds _)
theorem HI_plain : ∀ (ds : List Nat) (n : Nat), plain (HI ds n)
  | [], _ => plain_zero
  | d :: ds, n => by
    simp only [HI]
    by_cases e : d = 1
    · rw [if_pos e]
      exact (plain_step (by omega)).mpr (HI_plain ds _)
    · rw [if_neg e]
      exact (plain_step (Nat.lt_succ_of_le (tw_le d))).mpr (HI_plain ds _)
theorem LO_lt : ∀ (ds : List Nat) (n n' : Nat), n < n' → n' < 2 ^ on ds → LO ds n < LO ds n'
  | [], n, n', h, h' => by
    simp only [on, Nat.pow_zero] at h'
    omega
  | d :: ds, n, n', h, h' => by
    simp only [LO]
    by_cases e : d = 1
    · simp only [on, if_pos e, Nat.pow_succ] at h'
      rw [if_pos e, if_pos e]
      by_cases e2 : n / 2 = n' / 2
      · rw [e2]
        omega
      · have := LO_lt ds (n / 2) (n' / 2) (by omega) (by omega)
        omega
    · simp only [on, if_neg e] at h'
      rw [if_neg e, if_neg e]
      have := LO_lt ds n n' h h'
      omega
theorem plain_parts {a : Nat} (h : plain a) : a % 3 < 2 ∧ plain (a / 3) := by
  have e : a = a % 3 + 3 * (a / 3) := by omega
  by_cases h2 : a % 3 < 2
  · rw [e] at h
    exact ⟨h2, (plain_step h2).mp h⟩
  · have e2 : a = 2 + 3 * (a / 3) := by omega
    rw [e2] at h
    exact absurd h not_plain_two
theorem LO_all : ∀ (ds : List Nat) (a b : Nat), (∀ d ∈ ds, d < 3) → plain a → plain b → a + b = rd 3 ds → ∃ n, n < 2 ^ on ds ∧ LO ds n = a ∧ HI ds n = b
  | [], a, b, _, _, _, h => by
    simp only [rd] at h
    exact ⟨0, by decide, by simp only [LO]; omega, by simp only [HI]; omega⟩
  | d :: ds, a, b, hd, ha, hb, h => by
    obtain ⟨a1, a2⟩ := plain_parts ha
    obtain ⟨b1, b2⟩ := plain_parts hb
    have hd0 := hd d List.mem_cons_self
    simp only [rd] at h
    obtain ⟨n, h1, h2, h3⟩ := LO_all ds (a / 3) (b / 3) (fun x hx => hd x (List.mem_cons_of_mem _ hx)) a2 b2 (by omega)
    by_cases e : d = 1
    · refine ⟨a % 3 + 2 * n, ?_, ?_, ?_⟩
      · simp only [on, if_pos e, Nat.pow_succ]
        omega
      · simp only [LO, if_pos e]
        rw [show (a % 3 + 2 * n) / 2 = n by omega, h2]
        omega
      · simp only [HI, if_pos e]
        rw [show (a % 3 + 2 * n) / 2 = n by omega, h3]
        omega
    · refine ⟨n, by simp only [on, if_neg e]; exact h1, ?_, ?_⟩
      · simp only [LO, if_neg e, h2, tw]
        rcases (show d = 0 ∨ d = 2 by omega) with rfl | rfl <;> simp <;> omega
      · simp only [HI, if_neg e, h3, tw]
        rcases (show d = 0 ∨ d = 2 by omega) with rfl | rfl <;> simp <;> omega
/-- the place of one number t -/
def ep : List Nat → Nat → Nat
  | [], _ => 0
  | d :: ds, t => if d = 1 then (if t = 0 then 0 else 1 + ep ds (t - 1)) else 1 + ep ds t
/-- the lesser ones' sum -/
def ls (ds : List Nat) : Nat → Nat
  | 0 => 0
  | t + 1 => ls ds t + 3 ^ ep ds t
theorem ls_other {d : Nat} {ds : List Nat} (e : d ≠ 1) : ∀ t, ls (d :: ds) t = 3 * ls ds t
  | 0 => rfl
  | t + 1 => by
    simp only [ls, ls_other e t, ep, if_neg e, Nat.pow_add, Nat.pow_one, Nat.mul_add]
theorem ls_one {ds : List Nat} : ∀ t, ls (1 :: ds) (t + 1) = 1 + 3 * ls ds t
  | 0 => by simp [ls, ep]
  | t + 1 => by
    rw [ls, ls_one t]
    simp only [ls, ep, if_true, if_neg (Nat.succ_ne_zero t), Nat.add_sub_cancel, Nat.pow_add, Nat.pow_one, Nat.mul_add]
    omega
theorem LO_step : ∀ (ds : List Nat) (n : Nat), 0 < n → n < 2 ^ on ds → LO ds n + ls ds (ev n) = LO ds (n - 1) + 3 ^ ep ds (ev n) ∧ ev n < on ds
  | [], n, h, h' => by
    simp only [on, Nat.pow_zero] at h'
    omega
  | d :: ds, n, h, h' => by
    by_cases e : d = 1
    · subst e
      simp only [on, if_true, Nat.pow_succ] at h'
      rcases (show n % 2 = 1 ∨ n % 2 = 0 by omega) with ho | he
      · have en : ev n = 0 := by rw [show n = 1 + 2 * (n / 2) by omega, ev_odd]
        rw [en]
        simp only [LO, if_true, ls, ep, on]
        rw [show (n - 1) / 2 = n / 2 by omega]
        omega
      · have hm : 0 < n / 2 := by omega
        have en : ev n = ev (n / 2) + 1 := by
          conv => lhs; rw [show n = 2 * (n / 2) by omega]
          exact ev_even hm
        obtain ⟨i1, i2⟩ := LO_step ds (n / 2) hm (by omega)
        rw [en]
        simp only [LO, if_true, ls_one, ep, if_neg (Nat.succ_ne_zero _), Nat.add_sub_cancel, on, Nat.pow_add, Nat.pow_one]
        rw [show (n - 1) / 2 = n / 2 - 1 by omega]
        exact ⟨by omega, by omega⟩
    · simp only [on, if_neg e] at h'
      obtain ⟨i1, i2⟩ := LO_step ds n h h'
      simp only [LO, if_neg e, ls_other e, ep, on, Nat.pow_add, Nat.pow_one]
      exact ⟨by omega, i2⟩
theorem LO_zero : ∀ ds : List Nat, LO ds 0 = rd 3 (ds.map tw)
  | [] => rfl
  | d :: ds => by
    simp only [LO, List.map_cons, rd, Nat.zero_mod, Nat.zero_div]
    by_cases e : d = 1
    · subst e
      rw [if_pos rfl, LO_zero ds]
      rfl
    · rw [if_neg e, LO_zero ds]
theorem ep_mono : ∀ (ds : List Nat) (t : Nat), t + 1 < on ds → ep ds t < ep ds (t + 1)
  | [], t, h => by simp only [on] at h; omega
  | d :: ds, t, h => by
    by_cases e : d = 1
    · simp only [on, if_pos e] at h
      simp only [ep, if_pos e, if_neg (Nat.succ_ne_zero t), Nat.add_sub_cancel]
      by_cases h0 : t = 0
      · rw [if_pos h0]; omega
      · rw [if_neg h0]
        have := ep_mono ds (t - 1) (by omega)
        rw [show t - 1 + 1 = t by omega] at this
        omega
    · simp only [on, if_neg e] at h
      simp only [ep, if_neg e]
      have := ep_mono ds t h
      omega
/-- where they stand -/
theorem ep_get : ∀ (ds : List Nat) (t : Nat), t < on ds → ds[ep ds t]? = some 1 ∧ (ds.take (ep ds t)).count 1 = t
  | [], t, h => by simp only [on] at h; omega
  | d :: ds, t, h => by
    by_cases e : d = 1
    · subst e
      simp only [on, if_true] at h
      simp only [ep, if_true]
      by_cases h0 : t = 0
      · rw [if_pos h0, h0]
        exact ⟨rfl, rfl⟩
      · rw [if_neg h0]
        obtain ⟨i1, i2⟩ := ep_get ds (t - 1) (by omega)
        rw [Nat.add_comm 1]
        refine ⟨by rw [List.getElem?_cons_succ]; exact i1, ?_⟩
        rw [List.take_succ_cons, List.count_cons_self, i2]
        omega
    · simp only [on, if_neg e] at h
      simp only [ep, if_neg e]
      obtain ⟨i1, i2⟩ := ep_get ds t h
      rw [Nat.add_comm 1]
      refine ⟨by rw [List.getElem?_cons_succ]; exact i1, ?_⟩
      rw [List.take_succ_cons, List.count_cons_of_ne (by omega), i2]
theorem on_count : ∀ ds : List Nat, on ds = ds.count 1
  | [] => rfl
  | d :: ds => by
    by_cases e : d = 1
    · subst e
      simp only [on, if_true, List.count_cons_self, on_count ds]
    · simp only [on, if_neg e, List.count_cons_of_ne (show d ≠ 1 from e), on_count ds]
end TM

/-! M25: all sums of two plain numbers, in order -/
namespace TM
theorem sorted_ext : ∀ {a b : List Nat}, a.Pairwise (· < ·) → b.Pairwise (· < ·) → (∀ x, x ∈ a ↔ x ∈ b) → a = b
  | [], [], _, _, _ => rfl
  | [], y :: b, _, _, h => absurd ((h y).mpr List.mem_cons_self) List.not_mem_nil
  | x :: a, [], _, _, h => absurd ((h x).mp List.mem_cons_self) List.not_mem_nil
  | x :: a, y :: b, ha, hb, h => by
    obtain ⟨a1, a2⟩ := List.pairwise_cons.mp ha
    obtain ⟨b1, b2⟩ := List.pairwise_cons.mp hb
    have e : x = y := by
      rcases Nat.lt_trichotomy x y with z | z | z
      · rcases List.mem_cons.mp ((h x).mp List.mem_cons_self) with q | q
        · exact q
        · have := b1 x q
          omega
      · exact z
      · rcases List.mem_cons.mp ((h y).mpr List.mem_cons_self) with q | q
        · exact q.symm
        · have := a1 y q
          omega
    subst e
    congr 1
    refine sorted_ext a2 b2 fun u => ⟨fun hu => ?_, fun hu => ?_⟩
    · rcases List.mem_cons.mp ((h u).mp (List.mem_cons_of_mem _ hu)) with q | q
      · have := a1 u hu
        omega
      · exact q
    · rcases List.mem_cons.mp ((h u).mpr (List.mem_cons_of_mem _ hu)) with q | q
      · have := b1 u hu
        omega
      · exact q
theorem rd_self (m : Nat) : rd 3 (digs 3 m) = m := rd_digs (by decide) m m (Nat.le_refl _)
theorem LO_sum (m i : Nat) : LO (digs 3 m) i + HI (digs 3 m) i = m := by rw [LO_HI _ _ (digs_lt3 m), rd_self]
/-- the first parts, in order -/
def los (m : Nat) : List Nat := (List.range (2 ^ on (digs 3 m))).map (LO (digs 3 m))
theorem los_sorted (m : Nat) : (los m).Pairwise (· < ·) := by
  unfold los
  rw [List.pairwise_map]
  have h : (List.range (2 ^ on (digs 3 m))).Pairwise (· < ·) := List.pairwise_lt_range
  refine List.Pairwise.imp_of_mem (fun {a b} ha hb hab => ?_) h
  exact LO_lt _ a b hab (List.mem_range.mp hb)
theorem los_mem (m x : Nat) : x ∈ los m ↔ x ≤ m ∧ plain x ∧ plain (m - x) := by
  constructor
  · intro h
    obtain ⟨i, _, rfl⟩ := List.mem_map.mp h
    have := LO_sum m i
    refine ⟨by omega, LO_plain _ _, ?_⟩
    rw [show m - LO (digs 3 m) i = HI (digs 3 m) i by omega]
    exact HI_plain _ _
  · rintro ⟨h1, h2, h3⟩
    obtain ⟨i, hi, e1, _⟩ := LO_all (digs 3 m) x (m - x) (digs_lt3 m) h2 h3 (by rw [rd_self]; omega)
    exact List.mem_map.mpr ⟨i, List.mem_range.mpr hi, e1⟩
theorem los_eq (m : Nat) : ((List.range (m + 1)).filter fun a => decide (plain a) && decide (plain (m - a))) = los m := by
  refine sorted_ext ?_ (los_sorted m) fun x => ?_
  · exact List.Pairwise.filter _ List.pairwise_lt_range
  · rw [los_mem, List.mem_filter, List.mem_range]
    simp only [Bool.and_eq_true, decide_eq_true_eq]
    constructor <;> rintro ⟨h1, h2⟩ <;> exact ⟨by omega, h2⟩
end TM

/-! [g(x) for x in numbers if test], over a list or a tuple -/
namespace TF
open PySem PySem.Spec PyProof.Rows L2 TM
theorem lc_fmW {J : It} {n : Nat} {G : Hp → Prop} {l : List Nat} (w : Walk J n G (fun i H v H' => H' = H ∧ (l.map vn)[i]? = some v)) (hn : n = l.length) {D : Addr} {f : Nat → Bool} {g : Nat → V} {k : Nat} {tt : TT} {te : TE} {vs : List Nat} {σ : L2.St} {H1 : Hp} {Qd : Hp → Prop}
    (hG : ∀ H', Same H1 H' → G H') (hD : H1 D = none) (hl : l.length ≤ 16000) (hw : ∀ x, wipe ((wipe σ vs).set k (some x)) vs = wipe σ vs)
    (ht : ∀ d ∈ l, ∀ (H' : Hp) (G : Bool → Hp → Prop), Same H1 H' → G (f d) H' → tt ((wipe σ vs).set k (some (vn d))) H' G)
    (hs : ∀ d ∈ l, f d = true → ∀ (H' : Hp) (E : V → Hp → Prop), Same H1 H' → E (g d) H' → te ((wipe σ vs).set k (some (vn d))) H' E) (hd : ∀ H', Same H1 H' → H' D = some (.lst ((l.filter f).map g)) → Qd H') :
    ∃ W : Nat → Nat → Hp → Prop, (∃ m, W 0 m (upd H1 D (.lst []))) ∧ ∀ i m H, W i m H →
      (J.stop i H ∧ Qd H) ∨ (J.go i H ∧ ∃ Nx : Hp → Prop, (∀ H', Nx H' → ∃ m', m' < m ∧ W (i + 1) m' H') ∧ ∀ x H', J.yld i H x H' → gName k x (wipe σ vs) H' fun σ2 H2 => wipe σ2 vs = wipe σ vs ∧ tt σ2 H2 fun b H3 =>
        if b = true then te σ2 H3 fun y H4 => ∃ acc, H4 D = some (.lst acc) ∧ acc.length < sizeLine ∧ Nx (upd H4 D (.lst (acc ++ [y]))) else Nx H3) := by
  refine lc_it w (fun i H' => H' D = some (.lst (((l.take i).filter f).map g)) ∧ Same H1 H') ⟨upd_same, same_new hD⟩ (fun i H' _ h => hG _ h.2) ?_ ?_
  · rintro i x H2 H3 hi ⟨e1, s1⟩ ⟨rfl, hx⟩
    rw [hn] at hi
    have gg := List.getElem?_eq_getElem hi
    have ex : x = vn l[i] := by
      rw [List.getElem?_map, gg] at hx
      exact (Option.some.inj hx).symm
    subst ex
    have et : (l.take (i + 1)).filter f = (l.take i).filter f ++ (if f l[i] = true then [l[i]] else []) := by
      rw [List.take_succ, gg, List.filter_append]
      by_cases h : f l[i] = true <;> simp [h]
    refine ⟨hw _, ht _ (List.getElem_mem hi) _ _ s1 ?_⟩
    by_cases h : f l[i] = true
    · rw [if_pos h] at et
      rw [h]
      refine iteT (hs _ (List.getElem_mem hi) h _ _ s1 ⟨_, e1, ?_, ?_, Same.mut s1 hD⟩)
      · rw [List.length_map]
        refine Nat.lt_of_le_of_lt (Nat.le_trans (List.length_filter_le _ _) (Nat.le_trans (List.length_take_le _ _) (Nat.le_trans (Nat.le_of_lt hi) hl))) ?_
        rw [sizeLine_eq]
        decide
      · rw [upd_same, et, List.map_append]
        rfl
    · rw [if_neg h, List.append_nil] at et
      rw [show f l[i] = false from Bool.eq_false_iff.mpr h]
      exact iteF ⟨by rw [et]; exact e1, s1⟩
  · rintro H2 ⟨e1, s1⟩
    rw [hn, List.take_length] at e1
    exact hd _ s1 e1
theorem lc_fmI {J : It} {n : Nat} {G : Hp → Prop} {l : List Int} (w : Walk J n G (fun i H v H' => H' = H ∧ (l.map V.int)[i]? = some v)) (hn : n = l.length) {D : Addr} {f : Int → Bool} {g : Int → V} {k : Nat} {tt : TT} {te : TE} {vs : List Nat} {σ : L2.St} {H1 : Hp} {Qd : Hp → Prop}
    (hG : ∀ H', Same H1 H' → G H') (hD : H1 D = none) (hl : l.length ≤ 16000) (hw : ∀ x, wipe ((wipe σ vs).set k (some x)) vs = wipe σ vs)
    (ht : ∀ d ∈ l, ∀ (H' : Hp) (G : Bool → Hp → Prop), Same H1 H' → G (f d) H' → tt ((wipe σ vs).set k (some (V.int d))) H' G)
    (hs : ∀ d ∈ l, f d = true → ∀ (H' : Hp) (E : V → Hp → Prop), Same H1 H' → E (g d) H' → te ((wipe σ vs).set k (some (V.int d))) H' E) (hd : ∀ H', Same H1 H' → H' D = some (.lst ((l.filter f).map g)) → Qd H') :
    ∃ W : Nat → Nat → Hp → Prop, (∃ m, W 0 m (upd H1 D (.lst []))) ∧ ∀ i m H, W i m H →
      (J.stop i H ∧ Qd H) ∨ (J.go i H ∧ ∃ Nx : Hp → Prop, (∀ H', Nx H' → ∃ m', m' < m ∧ W (i + 1) m' H') ∧ ∀ x H', J.yld i H x H' → gName k x (wipe σ vs) H' fun σ2 H2 => wipe σ2 vs = wipe σ vs ∧ tt σ2 H2 fun b H3 =>
        if b = true then te σ2 H3 fun y H4 => ∃ acc, H4 D = some (.lst acc) ∧ acc.length < sizeLine ∧ Nx (upd H4 D (.lst (acc ++ [y]))) else Nx H3) := by
  refine lc_it w (fun i H' => H' D = some (.lst (((l.take i).filter f).map g)) ∧ Same H1 H') ⟨upd_same, same_new hD⟩ (fun i H' _ h => hG _ h.2) ?_ ?_
  · rintro i x H2 H3 hi ⟨e1, s1⟩ ⟨rfl, hx⟩
    rw [hn] at hi
    have gg := List.getElem?_eq_getElem hi
    have ex : x = V.int l[i] := by
      rw [List.getElem?_map, gg] at hx
      exact (Option.some.inj hx).symm
    subst ex
    have et : (l.take (i + 1)).filter f = (l.take i).filter f ++ (if f l[i] = true then [l[i]] else []) := by
      rw [List.take_succ, gg, List.filter_append]
      by_cases h : f l[i] = true <;> simp [h]
    refine ⟨hw _, ht _ (List.getElem_mem hi) _ _ s1 ?_⟩
    by_cases h : f l[i] = true
    · rw [if_pos h] at et
      rw [h]
      refine iteT (hs _ (List.getElem_mem hi) h _ _ s1 ⟨_, e1, ?_, ?_, Same.mut s1 hD⟩)
      · rw [List.length_map]
        refine Nat.lt_of_le_of_lt (Nat.le_trans (List.length_filter_le _ _) (Nat.le_trans (List.length_take_le _ _) (Nat.le_trans (Nat.le_of_lt hi) hl))) ?_
        rw [sizeLine_eq]
        decide
      · rw [upd_same, et, List.map_append]
        rfl
    · rw [if_neg h, List.append_nil] at et
      rw [show f l[i] = false from Bool.eq_false_iff.mpr h]
      exact iteF ⟨by rw [et]; exact e1, s1⟩
  · rintro H2 ⟨e1, s1⟩
    rw [hn, List.take_length] at e1
    exact hd _ s1 e1
theorem ints_ext : ∀ {a : List Int} {l : List Nat}, a.Pairwise (· < ·) → l.Pairwise (· < ·) → (∀ x : Int, x ∈ a ↔ ∃ n ∈ l, (n : Int) = x) → a = l.map fun n : Nat => (n : Int) := by
  intro a l ha hl h
  have h0 : ∀ x ∈ a, 0 ≤ x := fun x hx => by
    obtain ⟨n, _, e⟩ := (h x).mp hx
    omega
  have e : (a.map Int.toNat) = l := by
    refine sorted_ext (List.pairwise_map.mpr (ha.imp_of_mem fun {x y} hx hy hxy => ?_)) hl fun n => ?_
    · have := h0 x hx
      have := h0 y hy
      omega
    · rw [List.mem_map]
      constructor
      · rintro ⟨x, hx, rfl⟩
        obtain ⟨n, hn, e⟩ := (h x).mp hx
        have : x.toNat = n := by omega
        exact this ▸ hn
      · exact fun hn => ⟨(n : Int), (h _).mpr ⟨n, hn, rfl⟩, rfl⟩
  rw [← e, List.map_map]
  conv => lhs; rw [← List.map_id a]
  refine List.map_congr_left fun x hx => ?_
  have := h0 x hx
  show x = ((x.toNat : Nat) : Int)
  omega
/-- a set of numbers, of a tuple or of a list -/
theorem set_both {K : PySem.W.Frag} {w : World} {H : Hp} {Q : VK} {p : Addr} {ns : List Nat} (hp : H p = some (.tup (ns.map vn)) ∨ H p = some (.lst (ns.map vn))) (hl : ns.length ≤ 2000)
    (k : ∀ (a : Addr) (c : Nat), H a = none → c ≤ ns.length → Q (.ref a) (upd H a (SetO w a (fun j => decide (j ∈ ns.map (fun n : Nat => (n : Int)))) c))) : rSetTI K w [.ref p] H Q ∨ rSetLong K w [.ref p] H Q := by
  have e : (ns.map (fun n : Nat => (n : Int))).map V.int = ns.map vn := by rw [List.map_map]; rfl
  rcases hp with hp | hp
  · exact .inl ⟨p, ns.map (fun n : Nat => (n : Int)), rfl, by rw [e]; exact SqT.of hp, by rw [List.length_map]; omega, fun a c h1 h2 => k a c h1 (by rw [List.length_map] at h2; exact h2)⟩
  · exact .inr ⟨p, ns.map (fun n : Nat => (n : Int)), rfl, by rw [e]; exact SqL.of hp, by rw [List.length_map]; omega, fun a c h1 h2 => k a c h1 (by rw [List.length_map] at h2; exact h2)⟩
theorem cut_from (xs : List V) (i : Nat) : cutV xs (some (i : Int)) none = xs.drop i := by
  unfold cutV
  rw [HT.sIx_nat, HT.sIx_none]
  rcases Nat.lt_or_ge i xs.length with h | h
  · rw [Nat.min_eq_left (Nat.le_of_lt h), List.take_of_length_le (by rw [List.length_drop]; exact Nat.le_refl _)]
  · rw [Nat.min_eq_right h, List.drop_length, List.drop_eq_nil_of_le h, List.take_nil]
theorem cut_to (xs : List V) (i : Nat) : cutV xs none (some (i : Int)) = xs.take i := by
  unfold cutV
  rw [HT.sIx_nat, HT.sIx_none, List.drop_zero, Nat.sub_zero]
  rcases Nat.lt_or_ge i xs.length with h | h
  · rw [Nat.min_eq_left (Nat.le_of_lt h)]
  · rw [Nat.min_eq_right h, List.take_length, List.take_of_length_le h]
theorem sl_tupK {X : Cx} (K : PySem.W.Frag) (h : X.K = K := by rfl) : SlR X (rSlT K) := by
  subst h
  exact sl_tup
theorem pe_cvalK {X : Cx} {e : Expr} {f : Str} {pos : Pos} {ta : TE} (K : PySem.W.Frag) (he : PE X e ta) (h : X.K = K := by rfl) (hb : attributeBase e f X.env (eval e X.env) = eval e X.env := by rfl) : PE X (.Attribute e f pos) (ClX.tCVal K ta f) := by
  subst h
  exact ClX.pe_cval he hb
/-- in a set, within a comprehension -/
theorem op_sinW {X : Cx} (w : World) (h : X.w = w := by rfl) : OpR X (compareOp .In) (rSIn w) := by
  subst h
  exact or_sin
end TF

/-! the smallest triple; what a start covers -/
namespace GS
open TM
variable {S : List Nat} {L : Nat}
def trp (all : List Nat) : List Nat → Option (Nat × Nat)
  | [] => none
  | y :: r => match r.filter (fun z => decide (2 * z - y ∈ all)) with
    | z :: _ => some (y, z)
    | [] => trp all r
theorem trp_free {all : List Nat} (hf : Free all) : ∀ {l : List Nat}, l.Pairwise (· < ·) → (∀ x ∈ l, x ∈ all) → trp all l = none
  | [], _, _ => rfl
  | y :: r, ha, hs => by
    obtain ⟨h1, h2⟩ := List.pairwise_cons.mp ha
    have e : r.filter (fun z => decide (2 * z - y ∈ all)) = [] := by
      rw [List.filter_eq_nil_iff]
      intro z hz c
      have c := of_decide_eq_true c
      have := h1 z hz
      exact hf _ c ⟨y, z, hs y List.mem_cons_self, hs z (List.mem_cons_of_mem _ hz), this, by omega⟩
    unfold trp
    rw [e]
    exact trp_free hf h2 fun x hx => hs x (List.mem_cons_of_mem _ hx)
theorem Free.shift {l : List Nat} {lo : Nat} (h : ∀ x ∈ l, lo ≤ x) (hf : Free (l.map fun x => x - lo)) : Free l := by
  intro x hx ⟨y, z, hy, hz, hyz, e⟩
  have h1 := h x hx
  have h2 := h y hy
  have h3 := h z hz
  exact hf (x - lo) (List.mem_map.mpr ⟨x, hx, rfl⟩) ⟨y - lo, z - lo, List.mem_map.mpr ⟨y, hy, rfl⟩, List.mem_map.mpr ⟨z, hz, rfl⟩, by omega, by omega⟩
theorem Free.of_and {ds : List Nat} {N : Nat} (hu : up N 0 ds = true) (h : (covN (ds.getD (ds.length - 1) 0) 0 0 ds &&& bitsN 0 ds) = 0) : Free ds := by
  intro x hx ⟨y, z, hy, hz, hyz, e⟩
  have b : (covN (ds.getD (ds.length - 1) 0) 0 0 ds &&& bitsN 0 ds).testBit x = true := by
    rw [Nat.testBit_and, Bool.and_eq_true, bit_ms, bit_covered hu]
    exact ⟨⟨y, z, hy, hz, hyz, by omega⟩, decide_eq_true hx⟩
  rw [h, Nat.zero_testBit] at b
  cases b
theorem shift_up {l : List Nat} {lo N : Nat} (ha : l.Pairwise (· < ·)) (h : ∀ x ∈ l, lo ≤ x ∧ x < lo + N) : up N 0 (l.map fun x => x - lo) = true := by
  refine up_of (List.pairwise_map.mpr (ha.imp_of_mem fun {a b} ha hb hab => ?_)) fun a ha => ?_
  · have := h a ha
    have := h b hb
    omega
  · obtain ⟨x, hx, rfl⟩ := List.mem_map.mp ha
    have := h x hx
    omega
theorem Start.getLast (h : Start S L) : S.getD (S.length - 1) 0 = L := by
  obtain ⟨i, hi, e⟩ := List.getElem_of_mem h.mem
  have hl : S.length - 1 < S.length := by omega
  have e2 : S.getD (S.length - 1) 0 = S[S.length - 1] := by rw [List.getD_eq_getElem?_getD, List.getElem?_eq_getElem hl, Option.getD_some]
  rw [e2]
  have h1 := h.le _ (List.getElem_mem hl)
  rcases Nat.lt_or_ge i (S.length - 1) with z | z
  · have := List.pairwise_iff_getElem.mp h.asc i (S.length - 1) hi hl z
    omega
  · have : i = S.length - 1 := by omega
    subst this
    omega
theorem Start.pos (h : Start S L) : 0 < S.length := List.length_pos_of_mem h.mem
theorem Start.ge (h : Start S L) : ∀ x ∈ S, S.getD 0 0 ≤ x := by
  intro x hx
  obtain ⟨i, hi, rfl⟩ := List.getElem_of_mem hx
  have e2 : S.getD 0 0 = S[0] := by rw [List.getD_eq_getElem?_getD, List.getElem?_eq_getElem h.pos, Option.getD_some]
  rw [e2]
  rcases Nat.eq_zero_or_pos i with z | z
  · subst z; exact Nat.le_refl _
  · exact Nat.le_of_lt (List.pairwise_iff_getElem.mp h.asc 0 i h.pos hi z)
/-- covered numbers behind the start, near -/
theorem near_bits (h : Start S L) {N : Nat} (hu : up N 0 (S.map fun x => x - S.getD 0 0) = true) (d : Nat) :
    (covN ((S.map fun x => x - S.getD 0 0).getD ((S.map fun x => x - S.getD 0 0).length - 1) 0) 0 0 (S.map fun x => x - S.getD 0 0) / 2 ^ (L - S.getD 0 0)).testBit d = true ↔ Cv S (L + d) := by
  have hg := h.ge
  generalize S.getD 0 0 = lo at hu hg ⊢
  rw [Nat.testBit_div_two_pow, bit_covered hu]
  have hL := hg L h.mem
  constructor
  · rintro ⟨y, z, hy, hz, hyz, e⟩
    obtain ⟨y', hy', rfl⟩ := List.mem_map.mp hy
    obtain ⟨z', hz', rfl⟩ := List.mem_map.mp hz
    have := hg y' hy'
    have := hg z' hz'
    exact ⟨y', z', hy', hz', by omega, by omega⟩
  · rintro ⟨y, z, hy, hz, hyz, e⟩
    have := hg y hy
    have := hg z hz
    exact ⟨y - lo, z - lo, List.mem_map.mpr ⟨y, hy, rfl⟩, List.mem_map.mpr ⟨z, hz, rfl⟩, by omega, by omega⟩
/-- the distances of all pairs -/
def dl (S : List Nat) (L : Nat) : List Int := (List.range S.length).flatMap fun p => (S.take p).map fun y : Nat => 2 * ((S.getD p 0 : Nat) : Int) - (y : Int) - (L : Int)
/-- those that are asked -/
def dlN (S : List Nat) (L : Nat) : List Nat := ((dl S L).filter fun d => decide (0 ≤ d ∧ d ≤ 2000)).map Int.toNat
theorem far_bits (h : Start S L) {d : Nat} (hd : d ≤ 2000) : (bitsN 0 (dlN S L)).testBit d = true ↔ Cv S (L + d) := by
  rw [bit_ms, decide_eq_true_eq]
  unfold dlN dl
  simp only [List.mem_map, List.mem_filter, List.mem_flatMap, List.mem_range, decide_eq_true_eq]
  constructor
  · rintro ⟨e, ⟨⟨p, hp, y, hy, rfl⟩, h1, h2⟩, h3⟩
    have hz : S.getD p 0 = S[p] := by rw [List.getD_eq_getElem?_getD, List.getElem?_eq_getElem hp, Option.getD_some]
    rw [hz] at h1 h2 h3
    obtain ⟨i, hi, rfl⟩ := List.getElem_of_mem hy
    rw [List.length_take] at hi
    rw [List.getElem_take] at h1 h2 h3
    have := List.pairwise_iff_getElem.mp h.asc i p (by omega) hp (by omega)
    exact ⟨S[i], S[p], List.getElem_mem _, List.getElem_mem _, this, by omega⟩
  · rintro ⟨y, z, hy, hz, hyz, e⟩
    obtain ⟨p, hp, rfl⟩ := List.getElem_of_mem hz
    obtain ⟨i, hi, rfl⟩ := List.getElem_of_mem hy
    have hz : S.getD p 0 = S[p] := by rw [List.getD_eq_getElem?_getD, List.getElem?_eq_getElem hp, Option.getD_some]
    have hip : i < p := by
      rcases Nat.lt_or_ge i p with q | q
      · exact q
      · rcases Nat.lt_or_ge p i with q2 | q2
        · have := List.pairwise_iff_getElem.mp h.asc p i hp hi q2
          omega
        · have : i = p := by omega
          subst this
          omega
    refine ⟨(d : Int), ⟨⟨p, hp, S[i], ?_, ?_⟩, by omega, by omega⟩, by omega⟩
    · rw [List.mem_iff_getElem]
      exact ⟨i, by rw [List.length_take]; omega, by rw [List.getElem_take]⟩
    · rw [hz]
      omega
theorem dlN_lt : ∀ a ∈ dlN S L, a < 2001 := by
  intro a ha
  unfold dlN at ha
  obtain ⟨e, he, rfl⟩ := List.mem_map.mp ha
  have := of_decide_eq_true (List.mem_filter.mp he).2
  omega
/-- the start's members, seen from behind -/
def mrN (S : List Nat) (L : Nat) : List Nat := (S.filter fun y => decide (L ≤ y + 2000)).map fun y => L + 2000 - y
theorem Gw.init (h : Start S L) {cb : Nat} (hcb : ∀ d, d ≤ 2000 → (cb.testBit d = true ↔ Cv S (L + d))) : Gw S L S ((cb ||| 1) &&& (2 ^ 2001 - 1)) (bitsN 0 (mrN S L)) := by
  refine ⟨⟨0, Nat.zero_le _, rfl⟩, fun d => ?_, fun k => ?_⟩
  · rw [Nat.testBit_and, Nat.testBit_or, Nat.testBit_two_pow_sub_one, show (1 : Nat) = 2 ^ 0 from rfl, Nat.testBit_two_pow]
    simp only [Bool.or_eq_true, Bool.and_eq_true, decide_eq_true_eq]
    constructor
    · rintro ⟨a | a, b⟩
      · exact ⟨by omega, .inr (.inr ((hcb d (by omega)).mp a))⟩
      · exact ⟨by omega, .inl a.symm⟩
    · rintro ⟨b, a | a | a⟩
      · exact ⟨.inr a.symm, by omega⟩
      · have := h.le _ a
        exact ⟨.inr (by omega), by omega⟩
      · exact ⟨.inl ((hcb d b).mpr a), by omega⟩
  · rw [bit_ms, decide_eq_true_eq]
    unfold mrN
    simp only [List.mem_map, List.mem_filter, decide_eq_true_eq]
    constructor
    · rintro ⟨y, ⟨hy, h1⟩, rfl⟩
      have := h.le y hy
      exact ⟨by omega, y, hy, by omega⟩
    · rintro ⟨h1, y, hy, e⟩
      exact ⟨y, ⟨hy, by omega⟩, by omega⟩
theorem mrN_lt (h : Start S L) : ∀ a ∈ mrN S L, a < 4001 := by
  intro a ha
  obtain ⟨y, hy, rfl⟩ := List.mem_map.mp ha
  have := of_decide_eq_true (List.mem_filter.mp hy).2
  omega
theorem gl_len_le (S : List Nat) (L : Nat) : ∀ t, (gl S L t).length ≤ S.length + t
  | 0 => Nat.le_refl _
  | t + 1 => by
    have := gl_len_le S L t
    rw [gl_succ]
    split
    · omega
    · rw [List.length_append, List.length_singleton]
      omega
theorem Gw.len {ms : List Nat} {dec mir : Nat} (g : Gw S L ms dec mir) : ms.length ≤ S.length + 2000 := by
  obtain ⟨t, ht, rfl⟩ := g.at_
  have := gl_len_le S L t
  omega
theorem Gw.pos (h : Start S L) {ms : List Nat} {dec mir : Nat} (g : Gw S L ms dec mir) : 0 < ms.length := by
  obtain ⟨t, ht, rfl⟩ := g.at_
  have := gl_last h t
  omega
theorem Gw.lt (h : Start S L) {ms : List Nat} {dec mir : Nat} (g : Gw S L ms dec mir) : ∀ x ∈ ms, x ≤ L + 2000 := by
  obtain ⟨t, ht, rfl⟩ := g.at_
  intro x hx
  have := gl_le h.le t x hx
  omega
theorem gl_prefix (S : List Nat) (L t : Nat) : ∀ k, gl S L t <+: gl S L (t + k)
  | 0 => List.prefix_refl _
  | k + 1 => by
    have := gl_prefix S L t k
    show _ <+: gl S L ((t + k) + 1)
    rw [gl_succ]
    split
    · exact this
    · exact this.trans (List.prefix_append _ _)
theorem gl_pre {t u : Nat} (h : t ≤ u) : gl S L t <+: gl S L u := by
  obtain ⟨k, rfl⟩ := Nat.le.dest h
  exact gl_prefix S L t k
/-- what has been asked for has been found, or all -/
def Done (S : List Nat) (L : Nat) (ms : List Nat) (limit count : Nat) : Prop := (limit ≤ ms.getD (ms.length - 1) 0 ∧ count ≤ ms.length) ∨ ms = gl S L 2000
theorem last_le (h : Start S L) (t : Nat) : (gl S L t).getD ((gl S L t).length - 1) 0 ≤ L + t := by
  have h1 := gl_last h t
  have hl : (gl S L t).length - 1 < (gl S L t).length := by omega
  rw [List.getD_eq_getElem?_getD, List.getElem?_eq_getElem hl, Option.getD_some]
  exact gl_le h.le t _ (List.getElem_mem hl)
theorem Done.mem (h : Start S L) {ms : List Nat} (ha : ∃ t, t ≤ 2000 ∧ ms = gl S L t) {x c : Nat} (d : Done S L ms x c) {y : Nat} (hy : y ≤ x) : y ∈ ms ↔ y ∈ gl S L 2000 := by
  obtain ⟨t, ht, rfl⟩ := ha
  rcases d with ⟨h1, _⟩ | h1
  · have := last_le h t
    exact (gl_low2 h.le (by omega) ht).symm
  · rw [h1]
theorem Done.take {ms : List Nat} (ha : ∃ t, t ≤ 2000 ∧ ms = gl S L t) {x c : Nat} (d : Done S L ms x c) : ms.take c = (gl S L 2000).take c := by
  obtain ⟨t, ht, rfl⟩ := ha
  rcases d with ⟨_, h1⟩ | h1
  · obtain ⟨r, hr⟩ := gl_pre (S := S) (L := L) ht
    rw [← hr, List.take_append_of_le_length h1]
  · rw [h1]
/-- the pairs that cover x, ascending -/
def cvl (G : List Nat) (x : Nat) : List (Nat × Nat) := (G.filter fun y => decide (y < x ∧ (y + x) % 2 = 0 ∧ (y + x) / 2 ∈ G)).map fun y => (y, (y + x) / 2)
theorem Done.cvl (h : Start S L) {ms : List Nat} (ha : ∃ t, t ≤ 2000 ∧ ms = gl S L t) {x c : Nat} (d : Done S L ms x c) : cvl ms x = cvl (gl S L 2000) x := by
  have hm := fun y => Done.mem h ha d (y := y)
  obtain ⟨t, ht, rfl⟩ := ha
  rcases d with ⟨h1, _⟩ | h1
  · obtain ⟨r, hr⟩ := gl_pre (S := S) (L := L) ht
    have h2 := last_le h t
    have hr2 : ∀ y ∈ r, x ≤ y := fun y hy => by
      apply Classical.byContradiction
      intro z
      have h3 : y ∈ gl S L 2000 := by rw [← hr]; exact List.mem_append_right _ hy
      have h4 := (hm y (by omega)).mpr h3
      have h5 := gl_asc h 2000
      rw [← hr] at h5
      have := (List.pairwise_append.mp h5).2.2 y h4 y hy
      omega
    unfold GS.cvl
    rw [← hr]
    congr 1
    rw [List.filter_append]
    have e2 : r.filter (fun y => decide (y < x ∧ (y + x) % 2 = 0 ∧ (y + x) / 2 ∈ gl S L t ++ r)) = [] := by
      rw [List.filter_eq_nil_iff]
      intro y hy c
      have := hr2 y hy
      have := (of_decide_eq_true c).1
      omega
    rw [e2, List.append_nil]
    refine List.filter_congr fun y hy => ?_
    rw [decide_eq_decide]
    constructor
    · exact fun ⟨a, b, c⟩ => ⟨a, b, List.mem_append_left _ c⟩
    · rintro ⟨a, b, c⟩
      refine ⟨a, b, ?_⟩
      rcases List.mem_append.mp c with c | c
      · exact c
      · have := hr2 _ c
        omega
  · rw [h1]
/-- there is such a pair exactly if x is covered -/
theorem cvl_nil {G : List Nat} {x : Nat} : cvl G x = [] ↔ ¬ Cv G x := by
  unfold cvl
  rw [List.map_eq_nil_iff, List.filter_eq_nil_iff]
  constructor
  · rintro h ⟨y, z, hy, hz, hyz, e⟩
    refine h y hy (decide_eq_true ⟨by omega, by omega, ?_⟩)
    rw [show (y + x) / 2 = z by omega]
    exact hz
  · intro h y hy c
    obtain ⟨h1, h2, h3⟩ := of_decide_eq_true c
    exact h ⟨y, (y + x) / 2, hy, h3, by omega, by omega⟩
end GS

namespace K14
open PySem PySem.Spec PyProof.Rows L2 TM TF GS
section
variable {P : Program} {w : World} {K : PySem.W.Frag} {mg : Str → Option Value} {base : Heap}
theorem ints_mem {ns : List Nat} {n : Nat} : ((n : Nat) : Int) ∈ ns.map (fun n : Nat => (n : Int)) ↔ n ∈ ns := by
  rw [List.mem_map]
  constructor
  · rintro ⟨m, hm, e⟩
    have : m = n := by omega
    exact this ▸ hm
  · exact fun h => ⟨n, h, rfl⟩
theorem at_last {xs : List Nat} (h : 0 < xs.length) : atI (xs.map vn) (-1) = some (vn (xs.getD (xs.length - 1) 0)) := by
  unfold atI ixN
  have hlen : (xs.map vn).length = xs.length := List.length_map ..
  rw [if_neg (by decide), if_pos (by rw [hlen]; omega), hlen]
  show (xs.map vn)[((-1 : Int) + (xs.length : Int)).toNat]? = _
  rw [show ((-1 : Int) + (xs.length : Int)).toNat = xs.length - 1 by omega, List.getElem?_map, List.getElem?_eq_getElem (by omega), List.getD_eq_getElem?_getD, List.getElem?_eq_getElem (by omega)]
  rfl
theorem last_of {xs : List Nat} (hp : xs.Pairwise (· < ·)) (h : 0 < xs.length) : ∀ x ∈ xs, xs.getD 0 0 ≤ x ∧ x ≤ xs.getD (xs.length - 1) 0 := by
  intro x hx
  obtain ⟨i, hi, rfl⟩ := List.getElem_of_mem hx
  have e1 : xs.getD 0 0 = xs[0] := by rw [List.getD_eq_getElem?_getD, List.getElem?_eq_getElem h, Option.getD_some]
  have e2 : xs.getD (xs.length - 1) 0 = xs[xs.length - 1] := by rw [List.getD_eq_getElem?_getD, List.getElem?_eq_getElem (by omega), Option.getD_some]
  rw [e1, e2]
  refine ⟨?_, ?_⟩
  · rcases Nat.eq_zero_or_pos i with z | z
    · subst z; exact Nat.le_refl _
    · exact Nat.le_of_lt (List.pairwise_iff_getElem.mp hp 0 i h hi z)
  · rcases Nat.lt_or_ge i (xs.length - 1) with z | z
    · exact Nat.le_of_lt (List.pairwise_iff_getElem.mp hp i _ hi (by omega) z)
    · have : i = xs.length - 1 := by omega
      subst this
      exact Nat.le_refl _
/-- what stands behind a comprehension of numbers -/
def Trp (l : List Nat) (H : Hp) (Q : VK) : Prop := (trp l l = none → ∀ H', Same H H' → Q .non H') ∧ (∀ y z, trp l l = some (y, z) → ∀ H' t, Same H H' → H' t = some (.tup [vn y, vn z, vn (2 * z - y)]) → Q (.ref t) H')
def sp_least_triple (K : PySem.W.Frag) : Sp := fun vs H Q _ => ∃ (p : Addr) (ns l : List Nat), vs = [.ref p] ∧ (H p = some (.tup (ns.map vn)) ∨ H p = some (.lst (ns.map vn))) ∧ ns.length ≤ 2000 ∧ (∀ x ∈ ns, x < 2 ^ 40) ∧ l.Pairwise (· < ·) ∧ (∀ x, x ∈ l ↔ x ∈ ns) ∧ Trp l H Q
theorem trp_drop {all : List Nat} : ∀ (l : List Nat) (i : Nat), (∀ j b, j < i → l[j]? = some b → (l.drop (j + 1)).filter (fun z => decide (2 * z - b ∈ all)) = []) → trp all l = trp all (l.drop i)
  | l, 0, _ => rfl
  | [], i + 1, _ => rfl
  | y :: r, i + 1, h => by
    have e := h 0 y (Nat.succ_pos _) rfl
    rw [List.drop_succ_cons] at e ⊢
    rw [← trp_drop r i fun j b hj hb => h (j + 1) b (by omega) (by rw [List.getElem?_cons_succ]; exact hb)]
    have e : r.filter (fun z => decide (2 * z - y ∈ all)) = [] := e
    conv => lhs; unfold trp
    rw [e]
theorem ok_least_triple (T : Txt K mg) : FnOk P w K mg base CX0 3 T.f_least_triple T.fd_least_triple ["numbers"] (sp_least_triple K) := by
  have nd := sc_least_triple.nd
  refine T.F_least_triple.ok sc_least_triple (fun vs H Q E h => ?_) (fun cdv A outer s H vs Q E hr h => ?_)
  · obtain ⟨p, ns, l, rfl, _⟩ := h
    rfl
  · obtain ⟨p, ns, l, rfl, hp, hn, hb, hl, hm, hT⟩ := h
    refine ⟨_, (pss_cons (ps_set (i := 1) nd rfl (.inr rfl) (pe_callTy (cr_setB rfl) (by rfl) T.m_set (by decide +kernel) (pa_cons (pv 0) pa_nil)))
      (pss_cons (ps_set (i := 2) nd rfl (.inr rfl) (pe_callB (cr_sortedSetI rfl) (by rfl) T.m_sorted (by decide +kernel) (pa_cons (pv 1) pa_nil)))
      (pss_cons (ps_if (PW.pt (pw_and (pt_truth (pv 2) (by intro _; rfl)) (pw_and1 (pt_cmpR op_le (pe_op nSub (pe_ix (ix_listK K) (pv 2) (pe_un un_neg pe_int) (fun _ _ => rfl)) (pe_ix (ix_listK K) (pv 2) pe_int (fun _ _ => rfl))) (pe_glob (v := .int 10000) rfl T.g_NEAR ⟨_, rfl⟩) (nomark _))))) (pss_cons (ps_setLc (i := 3) (own := [("x", 7)]) (g := gName 7) (tt := tYes) rfl nd rfl rfl (sw_true rfl rfl rfl (by decide +kernel)) (pi_list (pv 2)) (blkOk_by (own := [("x", 7)]) (N := N_least_triple) (sc := defScope s_least_triple) (by decide +kernel)) (fun _ _ _ _ _ => pg_name (i := 7) nd rfl (Or.inl rfl)) (fun _ _ _ _ _ => pts_nil) (fun _ _ _ _ _ => (pe_op nSub (pv 7) (pe_ix (ix_listK K) (pv 2) pe_int (fun _ _ => rfl)))))
      (pss_one (ps_if (pt_cmpR op_eq (pe_op nAnd (pe_call (ok_covered_bits T) (hr.mono (by decide)) rfl T.g_covered_bits T.F_covered_bits.kp T.b_covered_bits .nil pass0 (pa_cons (pv 3) pa_nil)) (pe_call (ok_bits_of T) (hr.mono (by decide)) rfl T.g_bits_of T.F_bits_of.kp T.b_bits_of .nil pass0 (pa_cons (pv 3) pa_nil))) pe_int (nomark _)) (pss_one (ps_ret pe_non)) pss_nil))) pss_nil)
      (pss_cons (ps_for PassesOwn.never rfl (pi_enum rfl T.m_enumerate (pa_cons (pv 2) pa_nil)) (pg_tup rfl (pgs_cons (pg_name (i := 4) nd rfl (.inl rfl)) (pgs_cons (pg_name (i := 5) nd rfl (.inr rfl)) pgs_nil))) (pss_cons (ps_setLc (i := 6) (own := [("z", 8)]) (g := gName 8) (tt := _) rfl nd rfl rfl (sw_true rfl rfl rfl (by decide +kernel)) (pi_list (pe_slice (sl_listK K) (pv 2) (po_some (pe_op nAdd (pv 4) pe_int)) po_none)) (blkOk_by (own := [("z", 8)]) (N := N_least_triple) (sc := defScope s_least_triple) (by decide +kernel)) (fun _ _ _ _ _ => pg_name (i := 8) nd rfl (Or.inl rfl)) (fun _ _ _ _ _ => (pts_one (pt_cmpR (op_sinW w) (pe_op nSub (pe_op nMul pe_int (pv 8)) (pv 5)) (pv 1) rfl))) (fun _ _ _ _ _ => (pv 8)))
      (pss_one (ps_if (pt_truth (pv 6) (by intro _; rfl)) (pss_one (ps_ret (pe_tup (pa_cons (pv 5) (pa_cons (pe_ix (ix_listK K) (pv 6) pe_int (fun _ _ => rfl)) (pa_cons (pe_op nSub (pe_op nMul pe_int (pe_ix (ix_listK K) (pv 6) pe_int (fun _ _ => rfl))) (pv 5)) pa_nil)))))) pss_nil))))
      (pss_one (ps_ret pe_non)))))), ?_⟩
    have ll : l.length ≤ ns.length := nd_len l ns (hl.imp fun h => Nat.ne_of_lt h) fun x hx => (hm x).mp hx
    refine ⟨_, rfl, set_both hp hn fun a c ha hc => ?_⟩
    have s1 := same_new (o := SetO w a (fun j => decide (j ∈ ns.map (fun n : Nat => (n : Int)))) c) ha
    have ea : upd H a (SetO w a (fun j => decide (j ∈ ns.map (fun n : Nat => (n : Int)))) c) a = some (SetO w a (fun j => decide (j ∈ ns.map (fun n : Nat => (n : Int)))) c) := upd_same
    show gName 1 (.ref a) _ (upd H a (SetO w a (fun j => decide (j ∈ ns.map (fun n : Nat => (n : Int)))) c)) _
    generalize upd H a (SetO w a (fun j => decide (j ∈ ns.map (fun n : Nat => (n : Int)))) c) = H1 at s1 ea ⊢
    refine ⟨_, rfl, a, _, c, rfl, ea, small_ok (b := 2000) (by omega), fun ks q hks hkm hkl hq => ?_⟩
    have ek : ks = l.map fun n : Nat => (n : Int) := ints_ext hks hl fun x => by
      rw [hkm, decide_eq_true_eq, List.mem_map]
      exact ⟨fun ⟨n, h1, h2⟩ => ⟨n, (hm n).mpr h1, h2⟩, fun ⟨n, h1, h2⟩ => ⟨n, (hm n).mp h1, h2⟩⟩
    have ek2 : ks.map V.int = l.map vn := by rw [ek, List.map_map]; rfl
    rw [ek2]
    have s2 := same_new (o := .lst (l.map vn)) hq
    have eq2 : upd H1 q (.lst (l.map vn)) q = some (.lst (l.map vn)) := upd_same
    have ea2 := s2 _ _ ea
    have s12 := s1.trans s2
    show gName 2 (.ref q) _ (upd H1 q (.lst (l.map vn))) _
    generalize upd H1 q (.lst (l.map vn)) = H2 at s2 eq2 ea2 s12 ⊢
    have hlen : (l.map vn).length = l.length := List.length_map ..
    have hbl : ∀ x ∈ l, x < 2 ^ 40 := fun x hx => hb x ((hm x).mp hx)
    refine ⟨_, rfl, (!(l.map vn).isEmpty), .inl ⟨_, SqL.of eq2, rfl⟩, ite2 (fun hne => ?near) (fun hne => ?empty)⟩
    case' near =>
      have h0 : 0 < l.length := by
        cases l with
        | nil => exact absurd hne (by decide)
        | cons x r => exact Nat.succ_pos _
      have lo := last_of hl h0
      have hle : l.getD 0 0 ≤ l.getD (l.length - 1) 0 := (lo _ (by rw [List.getD_eq_getElem?_getD, List.getElem?_eq_getElem (show l.length - 1 < l.length by omega), Option.getD_some]; exact List.getElem_mem _)).1
      refine ⟨_, rfl, _, rfl, q, _, _, _, rfl, rfl, SqL.of eq2, at_last h0, _, rfl, q, _, _, _, rfl, rfl, SqL.of eq2, vn_get (i := 0) h0, _, _, rfl, rfl, hle, _, _, rfl, rfl, _, rfl, ite2 (fun hc => ?close) (fun hc => ?far)⟩
    case' close =>
      have hc1 : l.getD (l.length - 1) 0 - l.getD 0 0 ≤ 10000 := by
        have h1 : ((l.getD (l.length - 1) 0 - l.getD 0 0 : Nat) : Int) ≤ 10000 := of_decide_eq_true hc
        omega
      generalize hlo : l.getD 0 0 = lo0 at lo hle hc1
      have hbd : ∀ x ∈ l, lo0 ≤ x ∧ x < lo0 + 10001 := fun x hx => by have := lo x hx; omega
      have hup := shift_up hl hbd
      refine ⟨_, rfl, q, rfl, ⟨_, SqL.of eq2⟩, fun D hD => ?_⟩
      refine lc_map (f := fun x : Nat => vn (x - lo0)) eq2 hD (by omega) (fun _ => rfl) (fun d hd H' E2 s' k => ⟨_, rfl, _, rfl, q, _, _, _, rfl, rfl, SqL.of (s' _ _ eq2), vn_get (i := 0) h0, d, l.getD 0 0, rfl, rfl, (by rw [hlo]; exact (hbd d hd).1), (by rw [hlo]; exact k)⟩) (fun H3 s3 e3 => ?_)
      have e3' : H3 D = some (.lst ((l.map fun x => x - lo0).map vn)) := by rw [e3, List.map_map]; rfl
      generalize hds : (l.map fun x => x - lo0) = ds at e3' hup
      have hdl : ds.length = l.length := by rw [← hds, List.length_map]
      have hdb : ∀ x ∈ ds, x < 10001 := fun x hx => (up_ge hup x hx).2
      refine ⟨_, rfl, D, ds, 10001, rfl, e3', hup, by omega, by omega, ?_⟩
      refine ⟨_, rfl, D, ds, rfl, .inr e3', fun x hx => by have := hdb x hx; omega, by omega, _, _, rfl, rfl, trivial, rfl, _, rfl, ite2 (fun hz => ?_) (fun hz => ?_)⟩
      have hz1 := V.int.inj (of_decide_eq_true hz)
      have hfree : Free l := Free.shift (fun x hx => (hbd x hx).1) (by rw [hds]; exact Free.of_and hup (Int.ofNat.inj hz1))
      exact hT.1 (trp_free hfree hl fun _ h => h) _ (s12.trans s3)
    case' close => have s23 : Same H2 H3 := s3
    case' far => have s23 : Same H2 H2 := Same.refl _
    case' empty =>
      have s23 : Same H2 H2 := Same.refl _
      refine iteF ?_
    all_goals
      refine ⟨_, rfl, q, _, rfl, SqL.of (s23 _ _ eq2), ?_⟩
      refine for_it walk_enum (fun i σ H' => ∃ y3 y4 y5 y6 : Option V, σ = [some (.ref p), some (.ref a), some (.ref q), y3, y4, y5, y6, none, none] ∧ Same H2 H' ∧ ∀ j b, j < i → l[j]? = some b → (l.drop (j + 1)).filter (fun z => decide (2 * z - b ∈ l)) = [])
        ⟨_, none, none, none, rfl, s23, fun j b hj => absurd hj (Nat.not_lt_zero j)⟩ (fun i σ H' _ ⟨_, _, _, _, _, s, _⟩ => SqL.of (s _ _ eq2)) ?_ ?_
      · rintro i x σ H4 H4' hi ⟨y3, y4, y5, y6, rfl, s4, hnone⟩ ⟨t1, x1, x2, rfl, nt, rfl, f1, f2⟩
        obtain ⟨y, hy, gy, rfl⟩ := vn_at f2
        obtain rfl : x1 = .int (i : Int) := (Option.some.inj f1).symm
        have s5 := Same.trans s4 (same_new (o := .tup [.int (i : Int), vn y]) nt)
        refine ⟨t1, [.int (i : Int), vn y], rfl, SqT.of upd_same, rfl, _, [_], rfl, _, [], rfl, rfl, ?_⟩
        generalize upd H4 t1 (.tup [.int (i : Int), vn y]) = H5 at s5 ⊢
        have hyb := hbl y hy
        have hdr : l.drop i = y :: l.drop (i + 1) := by
          rw [hlen] at hi
          have := List.drop_eq_getElem_cons hi
          rw [this]
          rw [List.getElem?_eq_getElem hi] at gy
          cases gy
          rfl
        have hgt : ∀ z ∈ l.drop (i + 1), y < z ∧ z < 2 ^ 40 := fun z hz => by
          have h1 := hl.sublist (List.drop_sublist i l)
          rw [hdr] at h1
          exact ⟨(List.pairwise_cons.mp h1).1 z hz, hbl z (List.mem_of_mem_drop hz)⟩
        refine ⟨_, rfl, _, rfl, i, 1, rfl, rfl, trivial, _, rfl, q, _, rfl, SqL.of (s5 _ _ eq2), fun pz hpz => ?_⟩
        have ecut : cutV (l.map vn) (some ((i + 1 : Nat) : Int)) none = (l.drop (i + 1)).map vn := by rw [cut_from, List.map_drop]
        rw [ecut]
        have n6 := same_new (o := .lst ((l.drop (i + 1)).map vn)) hpz
        have e6 : upd H5 pz (.lst ((l.drop (i + 1)).map vn)) pz = some (.lst ((l.drop (i + 1)).map vn)) := upd_same
        generalize upd H5 pz (.lst ((l.drop (i + 1)).map vn)) = H6 at n6 e6 ⊢
        have s6 := Same.trans s5 n6
        refine ⟨pz, rfl, ⟨_, SqL.of e6⟩, fun D hD => ?_⟩
        refine lc_fmW (walk_list (xs := (l.drop (i + 1)).map vn)) (List.length_map ..) (f := fun z => decide (2 * z - y ∈ l)) (g := vn) (fun H' s' => SqL.of (s' _ _ e6)) hD (by rw [List.length_drop]; omega) (fun _ => rfl) (fun d hd H' G s' k => ?_) (fun d hd hf H' E2 s' k => ⟨_, rfl, k⟩) (fun H7 s7 e7 => ?_)
        · obtain ⟨hyd, hd40⟩ := hgt d hd
          refine ⟨_, rfl, 2, d, rfl, rfl, ⟨2, 41, by decide, pow_up hd40 (by decide), by decide, by decide, by decide⟩, _, rfl, 2 * d, y, rfl, rfl, (show y ≤ 2 * d by omega), _, rfl, _, a, _, c, rfl, rfl, s' _ _ (s6 _ _ ea2), _, rfl, ?_⟩
          have ed : decide (((2 * d - y : Nat) : Int) ∈ ns.map (fun n : Nat => (n : Int))) = decide (2 * d - y ∈ l) := by
            rw [decide_eq_decide, ints_mem, hm]
          rw [ed]
          exact k
        · have s8 := Same.trans s6 s7
          generalize hfl : (l.drop (i + 1)).filter (fun z => decide (2 * z - y ∈ l)) = fl at e7
          refine ⟨_, rfl, (!(fl.map vn).isEmpty), .inl ⟨_, SqL.of e7, rfl⟩, ?_⟩
          cases fl with
          | nil =>
            refine iteF ⟨_, _, _, _, rfl, s8, fun j b hj hb => ?_⟩
            rcases Nat.lt_succ_iff_lt_or_eq.mp hj with z | z
            · exact hnone j b z hb
            · subst z
              rw [gy] at hb
              cases hb
              exact hfl
          | cons z r =>
            refine iteT ?_
            have hz := hgt z (List.mem_filter.mp (show z ∈ (l.drop (i + 1)).filter (fun z => decide (2 * z - y ∈ l)) by rw [hfl]; exact List.mem_cons_self)).1
            refine ⟨_, rfl, _, rfl, D, _, _, _, rfl, rfl, SqL.of e7, atI_nat (j := 0) rfl, _, rfl, D, _, _, _, rfl, rfl, SqL.of e7, atI_nat (j := 0) rfl, 2, z, rfl, rfl, ⟨2, 41, by decide, pow_up hz.2 (by decide), by decide, by decide, by decide⟩, _, rfl, 2 * z, y, rfl, rfl, (show y ≤ 2 * z by omega), (by show 3 ≤ sizeLine; decide), fun t ht => ?_⟩
            have e := trp_drop (all := l) l i hnone
            rw [hdr] at e
            refine hT.2 y z (e.trans ?_) _ t (Same.trans s12 (Same.trans s8 (same_new ht))) upd_same
            unfold trp
            rw [hfl]
      · rintro σ H4 ⟨y3, y4, y5, y6, rfl, s4, hnone⟩
        rw [hlen] at hnone
        have e := trp_drop (all := l) l l.length hnone
        rw [List.drop_length] at e
        exact hT.1 (e.trans rfl) _ (s12.trans s4)
end
end K14

/-! a list comprehension with two fors: the outer loop, the inner loop -/
namespace L2
open PySem PySem.Spec PyProof.Rows
theorem pi_listK {X : Cx} {tg l : Expr} {tl : TE} (K : PySem.W.Frag) (hl : PE X l tl) (h : X.K = K := by rfl) : PI X tg l (iList K tl) := by
  subst h
  exact pi_list hl
theorem pi_tupK {X : Cx} {tg l : Expr} {tl : TE} (K : PySem.W.Frag) (hl : PE X l tl) (h : X.K = K := by rfl) : PI X tg l (iTup K tl) := by
  subst h
  exact pi_tup hl
section
variable {J J1 : It} {n : Nat} {G : Hp → Prop} {Y : Nat → Hp → V → Hp → Prop}
def In2 (g1 : TG) (tt1 : TT) (te : TE) (D : Addr) (vs1 : List Nat) (J1 : It) (σ2 : L2.St) (H4 : Hp) (Nx : Hp → Prop) : Prop :=
  ∃ W1 : Nat → Nat → Hp → Prop, (∃ m, W1 0 m H4) ∧ ∀ j k H, W1 j k H → (J1.stop j H ∧ Nx H) ∨ (J1.go j H ∧ ∃ Nx1 : Hp → Prop, (∀ H', Nx1 H' → ∃ k', k' < k ∧ W1 (j + 1) k' H') ∧ ∀ x H', J1.yld j H x H' → g1 x (wipe σ2 vs1) H' fun σ3 H5 => wipe σ3 vs1 = wipe σ2 vs1 ∧ tt1 σ3 H5 fun b H6 => if b = true then te σ3 H6 fun y H7 => ∃ acc, H7 D = some (.lst acc) ∧ acc.length < sizeLine ∧ Nx1 (upd H7 D (.lst (acc ++ [y]))) else Nx1 H6)
theorem lc2_out (w : Walk J n G Y) {g : TG} {tt : TT} {wi1 : TI} {g1 : TG} {tt1 : TT} {te : TE} {vs vs1 : List Nat} {σ : L2.St} {H1 : Hp} {D : Addr} {Qd : Hp → Prop} (Pv : Nat → Hp → Prop) (h0 : Pv 0 (upd H1 D (.lst []))) (hG : ∀ i H, i ≤ n → Pv i H → G H)
    (hs : ∀ i x H H', i < n → Pv i H → Y i H x H' → g x (wipe σ vs) H' fun σ2 H2 => wipe σ2 vs = wipe σ vs ∧ tt σ2 H2 fun b H3 => if b = true then wi1 σ2 H3 fun J1 H4 => In2 g1 tt1 te D vs1 J1 σ2 H4 (Pv (i + 1)) else Pv (i + 1) H3) (hd : ∀ H, Pv n H → Qd H) :
    ∃ W : Nat → Nat → Hp → Prop, (∃ m, W 0 m (upd H1 D (.lst []))) ∧ ∀ i m H, W i m H →
      (J.stop i H ∧ Qd H) ∨ (J.go i H ∧ ∃ Nx : Hp → Prop, (∀ H', Nx H' → ∃ m', m' < m ∧ W (i + 1) m' H') ∧ ∀ x H', J.yld i H x H' → g x (wipe σ vs) H' fun σ2 H2 => wipe σ2 vs = wipe σ vs ∧ tt σ2 H2 fun b H3 => if b = true then wi1 σ2 H3 fun J1 H4 => ∃ W1 : Nat → Nat → Hp → Prop, (∃ m, W1 0 m H4) ∧ ∀ j k H, W1 j k H → (J1.stop j H ∧ Nx H) ∨ (J1.go j H ∧ ∃ Nx1 : Hp → Prop, (∀ H', Nx1 H' → ∃ k', k' < k ∧ W1 (j + 1) k' H') ∧ ∀ x H', J1.yld j H x H' → g1 x (wipe σ2 vs1) H' fun σ3 H5 => wipe σ3 vs1 = wipe σ2 vs1 ∧ tt1 σ3 H5 fun b H6 => if b = true then te σ3 H6 fun y H7 => ∃ acc, H7 D = some (.lst acc) ∧ acc.length < sizeLine ∧ Nx1 (upd H7 D (.lst (acc ++ [y]))) else Nx1 H6) else Nx H3) := by
  refine ⟨fun i m H => m = n - i ∧ i ≤ n ∧ Pv i H, ⟨n, by simp, Nat.zero_le _, h0⟩, ?_⟩
  rintro i m H ⟨rfl, hi, p⟩
  have q := hG i H hi p
  by_cases hlt : i < n
  · refine .inr ⟨w.goes i H hlt q, Pv (i + 1), fun H' p' => ⟨n - (i + 1), by omega, rfl, hlt, p'⟩, fun x H' y => hs i x H H' hlt p (w.yields i H x H' hlt q y)⟩
  · have e : i = n := by omega
    subst e
    exact .inl ⟨w.stops H q, hd H p⟩
theorem lc2_in (w : Walk J1 n G Y) {g1 : TG} {tt1 : TT} {te : TE} {D : Addr} {vs1 : List Nat} {σ2 : L2.St} {H4 : Hp} {Nx : Hp → Prop} (Pv : Nat → Hp → Prop) (h0 : Pv 0 H4) (hG : ∀ i H, i ≤ n → Pv i H → G H)
    (hs : ∀ i x H H', i < n → Pv i H → Y i H x H' → g1 x (wipe σ2 vs1) H' fun σ3 H5 => wipe σ3 vs1 = wipe σ2 vs1 ∧ tt1 σ3 H5 fun b H6 => if b = true then te σ3 H6 fun y H7 => ∃ acc, H7 D = some (.lst acc) ∧ acc.length < sizeLine ∧ Pv (i + 1) (upd H7 D (.lst (acc ++ [y]))) else Pv (i + 1) H6) (hd : ∀ H, Pv n H → Nx H) :
    In2 g1 tt1 te D vs1 J1 σ2 H4 Nx := by
  refine ⟨fun i m H => m = n - i ∧ i ≤ n ∧ Pv i H, ⟨n, by simp, Nat.zero_le _, h0⟩, ?_⟩
  rintro i m H ⟨rfl, hi, p⟩
  have q := hG i H hi p
  by_cases hlt : i < n
  · refine .inr ⟨w.goes i H hlt q, Pv (i + 1), fun H' p' => ⟨n - (i + 1), by omega, rfl, hlt, p'⟩, fun x H' y => hs i x H H' hlt p (w.yields i H x H' hlt q y)⟩
  · have e : i = n := by omega
    subst e
    exact .inl ⟨w.stops H q, hd H p⟩
end
end L2

namespace K14
open PySem PySem.Spec PyProof.Rows L2 TM TF GS
section
variable {P : Program} {w : World} {K : PySem.W.Frag} {mg : Str → Option Value} {base : Heap}
def sp_smallest_triple (K : PySem.W.Frag) : Sp := fun vs H Q _ => ∃ (p : Addr) (ns l : List Nat), vs = [.ref p] ∧ H p = some (.tup (ns.map vn)) ∧ ns.length ≤ 2000 ∧ (∀ x ∈ ns, x < 2 ^ 40) ∧ l.Pairwise (· < ·) ∧ (∀ x, x ∈ l ↔ x ∈ ns) ∧ Trp l H Q
theorem ok_smallest_triple (T : Txt K mg) : FnR P w K mg base CX0 4 T.f_smallest_triple (starSp (sp_smallest_triple K)) := by
  have nd := sc_smallest_triple.nd
  refine T.F_smallest_triple.sok sc_smallest_triple T.b_smallest_triple (fun cdv A outer s H vs Q E hr h => ?_)
  · obtain ⟨p, ns, l, rfl, hp, hn, hb, hl, hm, hT⟩ := h
    refine ⟨_, (pss_cons (ps_for PassesOwn.never rfl (pi_tup (pv 0)) (pg_name (i := 1) nd rfl (.inl rfl)) (pss_one (ps_expr (pe_call (ok_check_number T) (hr.mono (by decide)) rfl T.g_check_number T.F_check_number.kp T.b_check_number .nil pass0 (pa_cons (pv 1) pa_nil)))))
      (pss_one (ps_ret (pe_call (ok_least_triple T) (hr.mono (by decide)) rfl T.g_least_triple T.F_least_triple.kp T.b_least_triple .nil pass0 (pa_cons (pv 0) pa_nil))))), ?_⟩
    refine ⟨_, rfl, p, rfl, ⟨_, SqT.of hp⟩, ?_⟩
    refine for_it (walk_tup (xs := ns.map vn)) (fun i σ H' => ∃ y1 : Option V, σ = [some (.ref p), y1] ∧ H' = H) ⟨none, rfl, rfl⟩ (fun i σ H' _ ⟨_, _, e⟩ => by rw [e]; exact SqT.of hp) ?_ ?_
    · rintro i x σ H2 H3 hi ⟨y1, rfl, rfl⟩ ⟨rfl, hx⟩
      obtain ⟨n, hn, gn, rfl⟩ := vn_at hx
      exact ⟨_, rfl, n, rfl, _, rfl, rfl⟩
    · rintro σ H2 ⟨y1, rfl, rfl⟩
      exact ⟨_, rfl, p, ns, l, rfl, .inl hp, hn, hb, hl, hm, hT⟩
/-- a start's numbers in a tuple or a list -/
def sp_checked_start (T : Txt K mg) : Sp := fun vs H Q _ => ∃ (p : Addr) (S : List Nat) (L : Nat), vs = [.ref p] ∧ (H p = some (.tup (S.map vn)) ∨ H p = some (.lst (S.map vn))) ∧ Start S L ∧ S.length ≤ 40 ∧ L ≤ 1000000 ∧ ∀ H' t, Same H H' → H' t = some (.tup (S.map vn)) → Q (.ref t) H'
theorem ok_checked_start (T : Txt K mg) : FnOk P w K mg base CX0 4 T.f_checked_start T.fd_checked_start ["value"] (sp_checked_start T) := by
  have nd := sc_checked_start.nd
  refine T.F_checked_start.ok sc_checked_start (fun vs H Q E h => ?_) (fun cdv A outer s H vs Q E hr h => ?_)
  · obtain ⟨p, S, L, rfl, _⟩ := h
    rfl
  · obtain ⟨p, S, L, rfl, hp, st, h40, hL, q⟩ := h
    have hlen : (S.map vn).length = S.length := List.length_map ..
    have h0 := st.pos
    refine ⟨_, (pss_cons (ps_if (PW.pt (pw_or (pt_not (pt_val (pe_callB call_isiT (by rfl) T.m_isinstance (by decide +kernel) (pa_cons (pv 0) (pa_cons (pe_tup (pa_cons (pe_bltn (v := .ty "tuple") (by rfl) T.m_tuple (by decide +kernel) rfl) (pa_cons (pe_bltn (v := .ty "list") (by rfl) T.m_list (by decide +kernel) rfl) pa_nil))) pa_nil))))) (pw_or1 (pt_not (pt_chain op_le op_le pe_int (pe_callB call_len_seq (by rfl) T.m_len PySem.boot_len (pa_cons (pv 0) pa_nil)) (ClX.pe_cval (pe_glob (v := .ref T.C_GreedySequence) rfl T.g_GreedySequence rfl))))))) (pss_one ps_never) pss_nil)
      (pss_cons (ps_set (i := 1) nd rfl (.inl rfl) pe_int)
      (pss_cons (ps_for PassesOwn.never rfl (pi_both (pi_enumT rfl T.m_enumerate (pa_cons (pv 0) pa_nil)) (pi_enum rfl T.m_enumerate (pa_cons (pv 0) pa_nil))) (pg_tup rfl (pgs_cons (pg_name (i := 2) nd rfl (.inl rfl)) (pgs_cons (pg_name (i := 3) nd rfl (.inl rfl)) pgs_nil))) (pss_cons (ps_if (pt_not (pt_val (pe_call (ok_is_between T) (hr.mono (by decide)) rfl T.g_is_between T.F_is_between.kp T.b_is_between .nil pass0 (pa_cons (pv 3) (pa_cons (pv 1) (pa_cons (ClX.pe_cval (pe_glob (v := .ref T.C_GreedySequence) rfl T.g_GreedySequence rfl)) pa_nil)))))) (pss_one ps_never) pss_nil)
      (pss_one (ps_set (i := 1) nd rfl (.inl rfl) (pe_op nAdd (pv 3) pe_int)))))
      (pss_cons (ps_set (i := 4) nd rfl (.inl rfl) (pe_call (ok_least_triple T) (hr.mono (by decide)) rfl T.g_least_triple T.F_least_triple.kp T.b_least_triple .nil pass0 (pa_cons (pv 0) pa_nil)))
      (pss_cons (ps_if (pt_cmpR op_notN (pv 4) pe_non (nomark _)) (pss_cons (ps_asg (pv 4) (pg_tup (by rfl) (pgs_cons (pg_name (i := 5) nd rfl (.inl rfl)) (pgs_cons (pg_name (i := 6) nd rfl (.inl rfl)) (pgs_cons (pg_name (i := 7) nd rfl (.inl rfl)) pgs_nil)))))
      (pss_one ps_never)) pss_nil)
      (pss_one (ps_ret (pe_callTy call_tuple_of (by rfl) T.m_tuple (by decide +kernel) (pa_cons (pv 0) pa_nil))))))))), ?_⟩
    refine ⟨_, rfl, (by show 2 ≤ sizeLine; decide), fun t ht => ?_⟩
    have s1 := same_new (o := .tup [.ty "tuple", .ty "list"]) ht
    have e1 : upd H t (.tup [.ty "tuple", .ty "list"]) t = some (.tup [.ty "tuple", .ty "list"]) := upd_same
    generalize upd H t (.tup [.ty "tuple", .ty "list"]) = H1 at s1 e1 ⊢
    have turn : ∀ (i : Nat) (lo n : Nat), S[i]? = some n → (∀ n, S[i]? = some n → lo ≤ n) → ((lo : Int) ≤ (n : Int) ∧ (n : Int) ≤ 1000000) ∧ ∀ m, S[i + 1]? = some m → n + 1 ≤ m := fun i lo n gn hlo => by
      have hb := st.le n (List.mem_of_getElem? gn)
      have := hlo n gn
      refine ⟨by omega, fun m hm => ?_⟩
      obtain ⟨hi, ei⟩ := List.getElem?_eq_some_iff.mp gn
      obtain ⟨hi1, ei1⟩ := List.getElem?_eq_some_iff.mp hm
      have h1 := List.pairwise_iff_getElem.mp st.asc i (i + 1) hi hi1 (by omega)
      omega
    rcases hp with hp | hp
    · have p1 := s1 _ _ hp
      refine ⟨.ref p, t, _, .type "tuple", [.type "tuple", .type "list"], true, rfl, e1, .cons (.ty _) (.cons (.ty _) .nil), .base (.tup p1), kitAny_cons (b := true) (kit_ty (by decide +kernel)) (fun z => nomatch z) (fun _ => rfl), true, rfl, iteF ?_⟩
      refine ⟨_, rfl, p, _, rfl, .inr (SqT.of p1), ?_⟩
      rw [hlen]
      refine ⟨_, _, rfl, rfl, _, rfl, ite2 (fun _ => ?_) (fun c => absurd (decide_eq_true (by omega)) c)⟩
      refine ⟨_, _, _, _, rfl, T.cr_GreedySequence, T.cv_GreedySequence_MAX_START, _, _, rfl, rfl, _, rfl, ?_⟩
      rw [decide_eq_true (show ((S.length : Nat) : Int) ≤ 40 by omega)]
      refine iteF ?_
      refine .inl ⟨_, rfl, p, S.map vn, rfl, SqT.of p1, ?_⟩
      refine for_it walk_enumT (fun i σ H' => ∃ (lo : Nat) (y3 y4 : Option V), σ = [some (.ref p), some (vn lo), y3, y4, none, none, none, none] ∧ Same H H' ∧ (∀ n, S[i]? = some n → lo ≤ n)) ⟨0, none, none, rfl, s1, fun _ _ => Nat.zero_le _⟩
        (fun i σ H' _ ⟨_, _, _, _, s, _⟩ => SqT.of (s _ _ hp)) ?_ ?_
      · rintro i x σ H2 H3 hi ⟨lo, y3, y4, rfl, s2, hlo⟩ ⟨t, x1, x2, rfl, nt, rfl, f1, f2⟩
        obtain ⟨n, hn, gn, rfl⟩ := vn_at f2
        obtain rfl : x1 = .int (i : Int) := (Option.some.inj f1).symm
        obtain ⟨a1, a2⟩ := turn i lo n gn hlo
        refine ⟨t, [.int (i : Int), vn n], rfl, SqT.of upd_same, rfl, _, [_], rfl, _, [], rfl, rfl, ?_⟩
        refine ⟨_, rfl, _, rfl, _, _, _, _, rfl, T.cr_GreedySequence, T.cv_GreedySequence_MAX_FIRST, (n : Int), (lo : Int), 1000000, rfl, true, ?_, iteF ?_⟩
        · rw [decide_eq_true a1]
        exact ⟨_, rfl, _, _, rfl, rfl, trivial, n + 1, _, _, rfl, Same.trans s2 (same_new nt), a2⟩
      · rintro σ H2 ⟨lo, y3, y4, rfl, s2, _⟩
        refine ⟨_, rfl, p, S, S, rfl, .inl (s2 _ _ hp), by omega, fun x hx => Nat.lt_of_le_of_lt (Nat.le_trans (st.le x hx) hL) (by decide), st.asc, fun _ => Iff.rfl, fun _ H3 s3 => ?_, fun y z e => ?_⟩
        · exact ⟨_, rfl, rfl, _, rfl, iteF ⟨_, rfl, p, _, rfl, .inr ⟨SqT.of (s3 _ _ (s2 _ _ hp)), q _ _ (Same.trans s2 s3) (s3 _ _ (s2 _ _ hp))⟩⟩⟩
        · rw [trp_free st.free st.asc fun _ h => h] at e
          cases e
    · have p1 := s1 _ _ hp
      refine ⟨.ref p, t, _, .type "list", [.type "tuple", .type "list"], true, rfl, e1, .cons (.ty _) (.cons (.ty _) .nil), .base (.lst p1), kitAny_cons (b := false) (kit_ty (by decide +kernel)) (fun _ => kitAny_cons (b := true) (kit_ty (by decide +kernel)) (fun z => nomatch z) (fun _ => rfl)) (fun z => nomatch z), true, rfl, iteF ?_⟩
      refine ⟨_, rfl, p, _, rfl, .inl (SqL.of p1), ?_⟩
      rw [hlen]
      refine ⟨_, _, rfl, rfl, _, rfl, ite2 (fun _ => ?_) (fun c => absurd (decide_eq_true (by omega)) c)⟩
      refine ⟨_, _, _, _, rfl, T.cr_GreedySequence, T.cv_GreedySequence_MAX_START, _, _, rfl, rfl, _, rfl, ?_⟩
      rw [decide_eq_true (show ((S.length : Nat) : Int) ≤ 40 by omega)]
      refine iteF ?_
      refine .inr ⟨_, rfl, p, S.map vn, rfl, SqL.of p1, ?_⟩
      refine for_it walk_enum (fun i σ H' => ∃ (lo : Nat) (y3 y4 : Option V), σ = [some (.ref p), some (vn lo), y3, y4, none, none, none, none] ∧ Same H H' ∧ (∀ n, S[i]? = some n → lo ≤ n)) ⟨0, none, none, rfl, s1, fun _ _ => Nat.zero_le _⟩
        (fun i σ H' _ ⟨_, _, _, _, s, _⟩ => SqL.of (s _ _ hp)) ?_ ?_
      · rintro i x σ H2 H3 hi ⟨lo, y3, y4, rfl, s2, hlo⟩ ⟨t, x1, x2, rfl, nt, rfl, f1, f2⟩
        obtain ⟨n, hn, gn, rfl⟩ := vn_at f2
        obtain rfl : x1 = .int (i : Int) := (Option.some.inj f1).symm
        obtain ⟨a1, a2⟩ := turn i lo n gn hlo
        refine ⟨t, [.int (i : Int), vn n], rfl, SqT.of upd_same, rfl, _, [_], rfl, _, [], rfl, rfl, ?_⟩
        refine ⟨_, rfl, _, rfl, _, _, _, _, rfl, T.cr_GreedySequence, T.cv_GreedySequence_MAX_FIRST, (n : Int), (lo : Int), 1000000, rfl, true, ?_, iteF ?_⟩
        · rw [decide_eq_true a1]
        exact ⟨_, rfl, _, _, rfl, rfl, trivial, n + 1, _, _, rfl, Same.trans s2 (same_new nt), a2⟩
      · rintro σ H2 ⟨lo, y3, y4, rfl, s2, _⟩
        refine ⟨_, rfl, p, S, S, rfl, .inr (s2 _ _ hp), by omega, fun x hx => Nat.lt_of_le_of_lt (Nat.le_trans (st.le x hx) hL) (by decide), st.asc, fun _ => Iff.rfl, fun _ H3 s3 => ?_, fun y z e => ?_⟩
        · exact ⟨_, rfl, rfl, _, rfl, iteF ⟨_, rfl, p, _, rfl, .inl ⟨SqL.of (s3 _ _ (s2 _ _ hp)), fun l hl => q _ _ (Same.trans (Same.trans s2 s3) (same_new hl)) upd_same⟩⟩⟩
        · rw [trp_free st.free st.asc fun _ h => h] at e
          cases e
def sp_window_of (K : PySem.W.Frag) : Sp := fun vs H Q _ => vs = [.int 2000] ∧ Q (vn (2 ^ 2001 - 1)) H
theorem ok_window_of (T : Txt K mg) : FnOk P w K mg base CX0 1 T.f_window_of T.fd_window_of ["reach"] (sp_window_of K) := by
  have nd := sc_window_of.nd
  refine T.F_window_of.ok sc_window_of (fun vs H Q E h => ?_) (fun cdv A outer s H vs Q E hr h => ?_)
  · obtain ⟨rfl, _⟩ := h
    rfl
  · obtain ⟨rfl, q⟩ := h
    refine ⟨_, (pss_one (ps_ret (pe_op nSub (pe_op nShl pe_int (pe_op nAdd (pv 0) pe_int)) pe_int))), ?_⟩
    refine ⟨_, rfl, 2000, 1, rfl, rfl, trivial, 1, 2001, rfl, rfl, ⟨1, by decide, by decide⟩, 1 * 2 ^ 2001, 1, rfl, rfl, (by show 1 ≤ 1 * 2 ^ 2001; exact Nat.le_trans Nat.one_le_two_pow (Nat.le_of_eq (Nat.one_mul _).symm)), ?_⟩
    rw [Nat.one_mul]
    exact q
end
end K14

namespace K14
open PySem PySem.Spec PyProof.Rows L2 TM TF GS
section
variable {P : Program} {w : World} {K : PySem.W.Frag} {mg : Str → Option Value} {base : Heap}
/-- the distances so far -/
def dlP (S : List Nat) (L j : Nat) : List Int := (List.range j).flatMap fun p => (S.take p).map fun y : Nat => 2 * ((S.getD p 0 : Nat) : Int) - (y : Int) - (L : Int)
theorem dlP_succ (S : List Nat) (L j : Nat) : dlP S L (j + 1) = dlP S L j ++ (S.take j).map fun y : Nat => 2 * ((S.getD j 0 : Nat) : Int) - (y : Int) - (L : Int) := by
  unfold dlP
  rw [List.range_succ, List.flatMap_append, List.flatMap_singleton]
theorem dlP_len (S : List Nat) (L : Nat) : ∀ j, (dlP S L j).length ≤ j * S.length
  | 0 => by unfold dlP; simp
  | j + 1 => by
    have := dlP_len S L j
    rw [dlP_succ, List.length_append, List.length_map, List.length_take, Nat.succ_mul]
    have := Nat.min_le_right j S.length
    omega
def sp_covered_behind (T : Txt K mg) : Sp := fun vs H Q _ => ∃ (t : Addr) (S : List Nat) (L : Nat), vs = [.ref t] ∧ H t = some (.tup (S.map vn)) ∧ Start S L ∧ S.length ≤ 40 ∧ L ≤ 1000000 ∧ ∀ H' cb, Same H H' → (∀ d, d ≤ 2000 → (Nat.testBit cb d = true ↔ GS.Cv S (L + d))) → Q (vn cb) H'
theorem ok_covered_behind (T : Txt K mg) : FnOk P w K mg base CX0 3 T.f_covered_behind T.fd_covered_behind ["start"] (sp_covered_behind T) := by
  have nd := sc_covered_behind.nd
  refine T.F_covered_behind.ok sc_covered_behind (fun vs H Q E h => ?_) (fun cdv A outer s H vs Q E hr h => ?_)
  · obtain ⟨t, S, L, rfl, _⟩ := h
    rfl
  · obtain ⟨t, S, L, rfl, ht, st, h40, hL, q⟩ := h
    have h0 := st.pos
    have hlen : (S.map vn).length = S.length := List.length_map ..
    have elast : atI (S.map vn) (-1) = some (vn L) := by rw [at_last h0, st.getLast]
    have hlo := st.ge L st.mem
    refine ⟨_, (pss_cons (ps_set (i := 1) nd rfl (.inr rfl) (pe_ix (ix_tupK K) (pv 0) (pe_un un_neg pe_int) (fun _ _ => rfl)))
      (pss_cons (ps_if (pt_cmpR op_le (pe_op nSub (pv 1) (pe_ix (ix_tupK K) (pv 0) pe_int (fun _ _ => rfl))) (pe_glob (v := .int 10000) rfl T.g_NEAR ⟨_, rfl⟩) (nomark _)) (pss_one (ps_ret (pe_op nShr (pe_call (ok_covered_bits T) (hr.mono (by decide)) rfl T.g_covered_bits T.F_covered_bits.kp T.b_covered_bits .nil pass0 (pa_cons (pe_lc (own := [("x", 7)]) (g := gName 7) (tt := tYes) rfl nd (pi_tup (pv 0)) (blkOk_by (own := [("x", 7)]) (N := N_covered_behind) (sc := defScope s_covered_behind) (by decide +kernel)) (fun _ _ _ _ _ => pg_name (i := 7) nd rfl (Or.inl rfl)) (fun _ _ _ _ _ => pts_nil) (fun _ _ _ _ _ => (pe_op nSub (pv 7) (pe_ix (ix_tupK K) (pv 0) pe_int (fun _ _ => rfl))))) pa_nil)) (pe_op nSub (pv 1) (pe_ix (ix_tupK K) (pv 0) pe_int (fun _ _ => rfl)))))) pss_nil)
      (pss_cons (ps_setLc2 (i := 2) (own := [("place", 3), ("z", 4), ("y", 5)]) (vs1 := [5]) (g := (gTup K 2 (gCons (gName 3) (gCons (gName 4) gNil)))) (tt := tYes) (g1 := gName 5) (tt1 := tYes) rfl nd rfl rfl (sw_true rfl rfl rfl (by decide +kernel)) (pi_enumT rfl T.m_enumerate (pa_cons (pv 0) pa_nil)) (blkOk_by (own := [("place", 3), ("z", 4), ("y", 5)]) (N := N_covered_behind) (sc := defScope s_covered_behind) (by decide +kernel)) (by decide) (fun _ _ _ _ _ => pg_tup rfl (pgs_cons (pg_name (i := 3) nd rfl (.inl rfl)) (pgs_cons (pg_name (i := 4) nd rfl (.inl rfl)) pgs_nil))) (fun _ _ _ _ _ => pts_nil) (fun _ _ _ _ _ => (pi_tupK K (pe_slice (sl_tupK K) (pv 0) po_none (po_some (pv 3))))) (fun _ _ _ _ _ => pg_name (i := 5) nd rfl (Or.inl rfl)) (fun _ _ _ _ _ => pts_nil) (fun _ _ _ _ _ => (pe_op op_sub (pe_op nSub (pe_op nMul pe_int (pv 4)) (pv 5)) (pv 1))))
      (pss_one (ps_ret (pe_call (ok_bits_of T) (hr.mono (by decide)) rfl T.g_bits_of T.F_bits_of.kp T.b_bits_of .nil pass0 (pa_cons (pe_lc (own := [("distance", 6)]) (g := gName 6) (tt := _) rfl nd (pi_list (pv 2)) (blkOk_by (own := [("distance", 6)]) (N := N_covered_behind) (sc := defScope s_covered_behind) (by decide +kernel)) (fun _ _ _ _ _ => pg_name (i := 6) nd rfl (Or.inl rfl)) (fun _ _ _ _ _ => (pts_one (pt_chain op_le op_le pe_int (pv 6) (pe_cvalK K (pe_glob (v := .ref T.C_GreedySequence) rfl T.g_GreedySequence rfl))))) (fun _ _ _ _ _ => (pv 6))) pa_nil))))))), ?_⟩
    refine ⟨_, rfl, _, rfl, t, _, _, _, rfl, rfl, SqT.of ht, elast, ?_⟩
    refine ⟨_, rfl, _, rfl, t, _, _, _, rfl, rfl, SqT.of ht, vn_get (i := 0) h0, L, S.getD 0 0, rfl, rfl, hlo, _, _, rfl, rfl, _, rfl, ite2 (fun c => ?_) (fun c => ?_)⟩
    · have hc1 : L - S.getD 0 0 ≤ 10000 := by
        have h1 : ((L - S.getD 0 0 : Nat) : Int) ≤ 10000 := of_decide_eq_true c
        omega
      have hbd : ∀ x ∈ S, S.getD 0 0 ≤ x ∧ x < S.getD 0 0 + 10001 := fun x hx => by
        have := st.ge x hx
        have := st.le x hx
        omega
      have hup := shift_up st.asc hbd
      have hnear := near_bits st hup
      refine ⟨_, rfl, t, rfl, ⟨_, SqT.of ht⟩, fun D hD => ?_⟩
      refine lc_fmW (walk_tup (xs := S.map vn)) hlen (f := fun _ => true) (g := fun x => vn (x - S.getD 0 0)) (fun H' s' => SqT.of (s' _ _ ht)) hD (by omega) (fun _ => rfl) (fun d hd H' G s' k => k) (fun d hd _ H' E2 s' k => ⟨_, rfl, _, rfl, t, _, _, _, rfl, rfl, SqT.of (s' _ _ ht), vn_get (i := 0) h0, d, S.getD 0 0, rfl, rfl, (hbd d hd).1, k⟩) (fun H3 s3 e3 => ?_)
      have ef : S.filter (fun _ => true) = S := List.filter_eq_self.mpr fun _ _ => rfl
      rw [ef] at e3
      have e3' : H3 D = some (.lst ((S.map fun x => x - S.getD 0 0).map vn)) := by rw [e3, List.map_map]; rfl
      have hdl : (S.map fun x => x - S.getD 0 0).length = S.length := List.length_map ..
      refine ⟨D, S.map fun x => x - S.getD 0 0, 10001, rfl, e3', hup, by omega, by omega, ?_⟩
      refine ⟨_, rfl, _, rfl, t, _, _, _, rfl, rfl, SqT.of (s3 _ _ ht), vn_get (i := 0) h0, L, S.getD 0 0, rfl, rfl, hlo, _, _, rfl, rfl, trivial, ?_⟩
      exact q _ _ s3 fun d _ => hnear d
    · refine ⟨_, rfl, t, _, rfl, SqT.of ht, fun D hD => ?_⟩
      refine lc2_out walk_enumT (fun j H' => Same H H' ∧ H' D = some (.lst ((dlP S L j).map V.int))) ⟨same_new hD, upd_same⟩ (fun j H' _ h => SqT.of (h.1 _ _ ht)) ?_ ?_
      · rintro j x H2 H3 hj ⟨s2, e2⟩ ⟨t1, x1, x2, rfl, nt, rfl, f1, f2⟩
        obtain ⟨z, hz, gz, rfl⟩ := vn_at f2
        obtain rfl : x1 = .int (j : Int) := (Option.some.inj f1).symm
        rw [hlen] at hj
        have s3 := Same.trans s2 (same_new (o := .tup [.int (j : Int), vn z]) nt)
        have e3 := (same_new (o := .tup [.int (j : Int), vn z]) nt) _ _ e2
        refine ⟨t1, [.int (j : Int), vn z], rfl, SqT.of upd_same, rfl, _, [_], rfl, _, [], rfl, rfl, ?_⟩
        generalize upd H2 t1 (.tup [.int (j : Int), vn z]) = H3 at s3 e3 ⊢
        have hzj : S.getD j 0 = z := by rw [List.getD_eq_getElem?_getD, gz, Option.getD_some]
        have hzb := st.le z hz
        refine ⟨rfl, yesC ⟨_, rfl, _, rfl, _, rfl, t, _, rfl, SqT.of (s3 _ _ ht), ?_, fun pz hpz => ?_⟩⟩
        · rw [hlen, HT.sIx_nat]
          rintro ⟨_, h⟩
          omega
        have ecut : cutV (S.map vn) none (some ((j : Nat) : Int)) = (S.take j).map vn := by rw [cut_to, List.map_take]
        rw [ecut]
        have n4 := same_new (o := .tup ((S.take j).map vn)) hpz
        have e4 : upd H3 pz (.tup ((S.take j).map vn)) pz = some (.tup ((S.take j).map vn)) := upd_same
        have hDz : upd H3 pz (.tup ((S.take j).map vn)) D = some (.lst ((dlP S L j).map V.int)) := n4 _ _ e3
        generalize upd H3 pz (.tup ((S.take j).map vn)) = H4 at n4 e4 hDz ⊢
        have s4 := Same.trans s3 n4
        have htl : (S.take j).length = j := by rw [List.length_take]; omega
        refine ⟨pz, rfl, ⟨_, SqT.of e4⟩, ?_⟩
        have hne : pz ≠ D := ne_of e4 hDz (fun z => nomatch z)
        refine lc2_in (walk_tup (xs := (S.take j).map vn)) (fun k H' => Same H H' ∧ But D H4 H' ∧ H' D = some (.lst ((dlP S L j ++ ((S.take j).take k).map fun y : Nat => 2 * ((S.getD j 0 : Nat) : Int) - (y : Int) - (L : Int)).map V.int))) ⟨s4, But.refl _ _, by rw [List.take_zero, List.map_nil, List.append_nil]; exact hDz⟩ (fun k H' _ h => SqT.of (h.2.1 _ _ hne e4)) ?_ ?_
        · rintro k v H5 H5' hk ⟨s5, b5, e5⟩ ⟨rfl, hv⟩
          obtain ⟨y, hy, gy, rfl⟩ := vn_at hv
          obtain ⟨u, hu, rfl⟩ := List.getElem_of_mem hy
          have hy2 : (S.take j)[u] ∈ S := List.mem_of_mem_take hy
          have hyz : (S.take j)[u] < z := by
            rw [List.getElem_take]
            rw [htl] at hu
            obtain ⟨hjl, ej⟩ := List.getElem?_eq_some_iff.mp gz
            have := List.pairwise_iff_getElem.mp st.asc u j (by omega) hjl hu
            omega
          generalize (S.take j)[u] = y at hy hy2 hyz gy ⊢
          refine ⟨rfl, yesC ⟨_, rfl, 2, z, rfl, rfl, ⟨2, 21, by decide, Nat.lt_of_le_of_lt (Nat.le_trans hzb hL) (by decide), by decide, by decide, by decide⟩, _, rfl, 2 * z, y, rfl, rfl, (show y ≤ 2 * z by omega), _, rfl, _, _, rfl, rfl, _, e5, ?_, Same.mut s5 hD, But.upd b5, ?_⟩⟩
          · have h1 := dlP_len S L j
            have h2 : j * S.length ≤ 40 * 40 := Nat.mul_le_mul (by omega) h40
            have h3 : ((S.take j).take k).length ≤ j := by rw [List.length_take, htl]; omega
            rw [List.length_map, List.length_append, List.length_map]
            exact small_lt (b := 2000) (by omega)
          · rw [upd_same, List.take_succ, gy]
            have e : ((2 * z - y : Nat) : Int) - (L : Int) = 2 * ((S.getD j 0 : Nat) : Int) - (y : Int) - (L : Int) := by rw [hzj]; omega
            show some (HO.lst (List.map V.int (dlP S L j ++ List.map (fun y : Nat => 2 * ((S.getD j 0 : Nat) : Int) - (y : Int) - (L : Int)) (List.take k (List.take j S))) ++ [V.int (((2 * z - y : Nat) : Int) - (L : Int))])) = _
            rw [e]
            simp only [List.map_append, List.append_assoc]
            rfl
        · rintro H5 ⟨s5, _, e5⟩
          rw [List.length_map, List.take_length] at e5
          exact ⟨s5, by rw [dlP_succ]; exact e5⟩
      · rintro H2 ⟨s2, e2⟩
        rw [hlen] at e2
        have e2 : H2 D = some (.lst ((dl S L).map V.int)) := e2
        have hll : (dl S L).length ≤ 1600 := by
          have h1 := dlP_len S L S.length
          have h2 : S.length * S.length ≤ 40 * 40 := Nat.mul_le_mul h40 h40
          exact Nat.le_trans h1 h2
        refine ⟨_, rfl, D, rfl, ⟨_, SqL.of e2⟩, fun D2 hD2 => ?_⟩
        refine lc_fmI (walk_list (xs := (dl S L).map V.int)) (List.length_map ..) (f := fun d => decide (0 ≤ d ∧ d ≤ 2000)) (g := V.int) (fun H' s' => SqL.of (s' _ _ e2)) hD2 (by omega) (fun _ => rfl) (fun d hd H' G s' k => ?_) (fun d hd _ H' E2 s' k => ⟨_, rfl, k⟩) (fun H3 s3 e3 => ?_)
        · refine ⟨_, rfl, _, _, rfl, rfl, _, rfl, ite2 (fun c => ?_) (fun c => ?_)⟩
          · have h1 : 0 ≤ d := of_decide_eq_true c
            refine ⟨_, _, _, _, rfl, T.cr_GreedySequence, T.cv_GreedySequence_REACH, _, _, rfl, rfl, _, rfl, ?_⟩
            rw [show decide (d ≤ 2000) = decide (0 ≤ d ∧ d ≤ 2000) by by_cases h2 : d ≤ 2000 <;> simp [h1, h2]]
            exact k
          · have h1 : ¬ 0 ≤ d := fun z => c (decide_eq_true z)
            rw [show decide (0 ≤ d ∧ d ≤ 2000) = false by simp [h1]] at k
            exact ⟨_, rfl, k⟩
        · have e3' : H3 D2 = some (.lst ((dlN S L).map vn)) := by
            rw [e3]
            unfold dlN
            rw [List.map_map]
            congr 2
            refine List.map_congr_left fun d hd => ?_
            have := of_decide_eq_true (List.mem_filter.mp hd).2
            show V.int d = V.int ((d.toNat : Nat) : Int)
            rw [Int.toNat_of_nonneg this.1]
          have hl2 : (dlN S L).length ≤ 2000 := by
            unfold dlN
            rw [List.length_map]
            exact Nat.le_trans (List.length_filter_le _ _) (by omega)
          refine ⟨D2, dlN S L, rfl, .inr e3', fun a ha => Nat.lt_of_lt_of_le (dlN_lt a ha) (by decide), hl2, ?_⟩
          exact q _ _ (Same.trans s2 s3) fun d hd => far_bits st hd
def sp_growth_of (T : Txt K mg) : Sp := fun vs H Q _ => ∃ (t : Addr) (S : List Nat) (L : Nat), vs = [.ref t] ∧ H t = some (.tup (S.map vn)) ∧ Start S L ∧ S.length ≤ 40 ∧ L ≤ 1000000 ∧ ∀ H' g dec mir, Same H H' → H' g = some (.tup [.ref t, vn dec, vn mir]) → Gw S L S dec mir → Q (.ref g) H'
theorem ok_growth_of (T : Txt K mg) : FnOk P w K mg base CX0 4 T.f_growth_of T.fd_growth_of ["start"] (sp_growth_of T) := by
  have nd := sc_growth_of.nd
  refine T.F_growth_of.ok sc_growth_of (fun vs H Q E h => ?_) (fun cdv A outer s H vs Q E hr h => ?_)
  · obtain ⟨t, S, L, rfl, _⟩ := h
    rfl
  · obtain ⟨t, S, L, rfl, ht, st, h40, hL, q⟩ := h
    have h0 := st.pos
    have hlen : (S.map vn).length = S.length := List.length_map ..
    have elast : atI (S.map vn) (-1) = some (vn L) := by rw [at_last h0, st.getLast]
    refine ⟨_, (pss_cons (ps_set (i := 1) nd rfl (.inr rfl) (pe_cvalK K (pe_glob (v := .ref T.C_GreedySequence) rfl T.g_GreedySequence rfl)))
      (pss_cons (ps_set (i := 2) nd rfl (.inl rfl) (pe_call (ok_bits_of T) (hr.mono (by decide)) rfl T.g_bits_of T.F_bits_of.kp T.b_bits_of .nil pass0 (pa_cons (pe_lc (own := [("y", 3)]) (g := gName 3) (tt := _) rfl nd (pi_tup (pv 0)) (blkOk_by (own := [("y", 3)]) (N := N_growth_of) (sc := defScope s_growth_of) (by decide +kernel)) (fun _ _ _ _ _ => pg_name (i := 3) nd rfl (Or.inl rfl)) (fun _ _ _ _ _ => (pts_one (pt_cmpR op_ge (pv 3) (pe_op op_sub (pe_ix (ix_tupK K) (pv 0) (pe_un un_neg pe_int) (fun _ _ => rfl)) (pv 1)) (nomark _)))) (fun _ _ _ _ _ => (pe_op nSub (pe_op nAdd (pe_ix (ix_tupK K) (pv 0) (pe_un un_neg pe_int) (fun _ _ => rfl)) (pv 1)) (pv 3)))) pa_nil)))
      (pss_one (ps_ret (pe_tup (pa_cons (pv 0) (pa_cons (pe_op nAnd (pe_op nOr (pe_call (ok_covered_behind T) (hr.mono (by decide)) rfl T.g_covered_behind T.F_covered_behind.kp T.b_covered_behind .nil pass0 (pa_cons (pv 0) pa_nil)) pe_int) (pe_call (ok_window_of T) (hr.mono (by decide)) rfl T.g_window_of T.F_window_of.kp T.b_window_of .nil pass0 (pa_cons (pv 1) pa_nil))) (pa_cons (pv 2) pa_nil)))))))), ?_⟩
    refine ⟨_, _, _, _, rfl, T.cr_GreedySequence, T.cv_GreedySequence_REACH, ?_⟩
    refine ⟨_, rfl, t, rfl, ⟨_, SqT.of ht⟩, fun D hD => ?_⟩
    refine lc_fmW (walk_tup (xs := S.map vn)) hlen (f := fun y => decide (L ≤ y + 2000)) (g := fun y => vn (L + 2000 - y)) (fun H' s' => SqT.of (s' _ _ ht)) hD (by omega) (fun _ => rfl) (fun d hd H' G s' k => ?_) (fun d hd hf H' E2 s' k => ?_) (fun H3 s3 e3 => ?_)
    · refine ⟨_, rfl, _, rfl, _, rfl, t, _, _, _, rfl, rfl, SqT.of (s' _ _ ht), elast, _, rfl, _, _, rfl, rfl, _, _, rfl, rfl, _, rfl, ?_⟩
      rw [show decide ((L : Int) - 2000 ≤ (d : Int)) = decide (L ≤ d + 2000) by rw [decide_eq_decide]; omega]
      exact k
    · have hd2 := st.le d hd
      refine ⟨_, rfl, _, rfl, t, _, _, _, rfl, rfl, SqT.of (s' _ _ ht), elast, _, rfl, L, 2000, rfl, rfl, trivial, _, rfl, L + 2000, d, rfl, rfl, (show d ≤ L + 2000 by omega), k⟩
    · have e3' : H3 D = some (.lst ((mrN S L).map vn)) := by
        rw [e3]
        unfold mrN
        rw [List.map_map]
        rfl
      have hl2 : (mrN S L).length ≤ 2000 := by
        unfold mrN
        rw [List.length_map]
        exact Nat.le_trans (List.length_filter_le _ _) (by omega)
      refine ⟨D, mrN S L, rfl, .inr e3', fun a ha => Nat.lt_of_lt_of_le (mrN_lt st a ha) (by decide), hl2, ?_⟩
      refine ⟨_, rfl, _, rfl, t, S, L, rfl, s3 _ _ ht, st, h40, hL, fun H4 cb s4 hcb => ?_⟩
      refine ⟨cb, 1, rfl, rfl, trivial, _, rfl, rfl, cb ||| 1, 2 ^ 2001 - 1, rfl, rfl, trivial, _, rfl, (by show 3 ≤ sizeLine; decide), fun g hg => ?_⟩
      exact q _ g _ _ (Same.trans (Same.trans s3 s4) (same_new hg)) upd_same (Gw.init st hcb)
end
end K14

namespace K14
open PySem PySem.Spec PyProof.Rows L2 TM TF GS
section
variable {P : Program} {w : World} {K : PySem.W.Frag} {mg : Str → Option Value} {base : Heap}
/-- how far a sequence's members are known -/
def GrO (H : Hp) (S : List Nat) (L : Nat) (g : Addr) (ms : List Nat) : Prop := ∃ (tm : Addr) (dec mir : Nat), H g = some (.tup [.ref tm, vn dec, vn mir]) ∧ H tm = some (.tup (ms.map vn)) ∧ Gw S L ms dec mir
def sp_grown (T : Txt K mg) : Sp := fun vs H Q _ => ∃ (g : Addr) (S ms : List Nat) (L limit count : Nat), vs = [vn L, .ref g, vn limit, vn count] ∧ GrO H S L g ms ∧ Start S L ∧ S.length ≤ 40 ∧ L ≤ 1000000 ∧
  ∀ H' g' ms', Same H H' → GrO H' S L g' ms' → ms <+: ms' → Done S L ms' limit count → Q (.ref g') H'
theorem ok_grown (T : Txt K mg) : FnOk P w K mg base CX0 2 T.f_grown T.fd_grown ["last", "growth", "limit", "count"] (sp_grown T) := by
  have nd := sc_grown.nd
  refine T.F_grown.ok sc_grown (fun vs H Q E h => ?_) (fun cdv A outer s H vs Q E hr h => ?_)
  · obtain ⟨g, S, ms, L, limit, count, rfl, _⟩ := h
    rfl
  · obtain ⟨g, S, ms, L, limit, count, rfl, ⟨tm, dec, mir, hg, htm, gw⟩, st, h40, hL, q⟩ := h
    refine ⟨_, (pss_cons (ps_asg (pv 1) (pg_tup (by rfl) (pgs_cons (pg_name (i := 4) nd rfl (.inl rfl)) (pgs_cons (pg_name (i := 5) nd rfl (.inl rfl)) (pgs_cons (pg_name (i := 6) nd rfl (.inl rfl)) pgs_nil)))))
      (pss_cons (ps_set (i := 7) nd rfl (.inl rfl) (pe_callTy call_list_of (by rfl) T.m_list (by decide +kernel) (pa_cons (pv 4) pa_nil)))
      (pss_cons (ps_set (i := 8) nd rfl (.inl rfl) (pe_cvalK K (pe_glob (v := .ref T.C_GreedySequence) rfl T.g_GreedySequence rfl)))
      (pss_cons (ps_set (i := 9) nd rfl (.inl rfl) (pe_call (ok_window_of T) (hr.mono (by decide)) rfl T.g_window_of T.F_window_of.kp T.b_window_of .nil pass0 (pa_cons (pv 8) pa_nil)))
      (pss_cons (ps_while PassesOwn.never (PW.pt (pw_or (pt_cmpR op_lt (pe_ix (ix_listK K) (pv 7) (pe_un un_neg pe_int) (fun _ _ => rfl)) (pv 2) (nomark _)) (pw_or1 (pt_cmpR op_lt (pe_callB call_len_seq (by rfl) T.m_len PySem.boot_len (pa_cons (pv 7) pa_nil)) (pv 3) (nomark _))))) (pss_cons (ps_set (i := 10) nd rfl (.inl rfl) (pe_call (ok_lowest_place T) (hr.mono (by decide)) rfl T.g_lowest_place T.F_lowest_place.kp T.b_lowest_place .nil pass0 (pa_cons (pe_op nAdd (pv 5) pe_int) pa_nil)))
      (pss_cons (ps_if (pt_cmpR op_gt (pv 10) (pv 8) (nomark _)) (pss_one ps_break) pss_nil)
      (pss_cons (ps_expr (pe_bm PySem.F.plainAttrs_list PySem.F.slot_list_append PySem.F.type_list_append mt_append (pv 7) (pa_cons (pe_op nAdd (pv 0) (pv 10)) pa_nil)))
      (pss_cons (ps_set (i := 5) nd rfl (.inl rfl) (pe_op nOr (pe_op nOr (pv 5) (pe_op nShl pe_int (pv 10))) (pe_op nAnd (pe_call (ok_moved T) (hr.mono (by decide)) rfl T.g_moved T.F_moved.kp T.b_moved .nil pass0 (pa_cons (pv 6) (pa_cons (pe_op op_sub (pe_op nMul pe_int (pv 10)) (pv 8)) pa_nil))) (pv 9))))
      (pss_one (ps_set (i := 6) nd rfl (.inl rfl) (pe_op nOr (pv 6) (pe_op nShl pe_int (pe_op nSub (pv 8) (pv 10)))))))))))
      (pss_one (ps_ret (pe_tup (pa_cons (pe_callTy call_tuple_of (by rfl) T.m_tuple (by decide +kernel) (pa_cons (pv 7) pa_nil)) (pa_cons (pv 5) (pa_cons (pv 6) pa_nil))))))))))), ?_⟩
    refine ⟨_, rfl, g, [.ref tm, vn dec, vn mir], rfl, SqT.of hg, rfl, _, [_, _], rfl, _, [_], rfl, _, [], rfl, rfl, ?_⟩
    refine ⟨_, rfl, tm, _, rfl, .inr (SqT.of htm), fun f hf => ?_⟩
    have s1 := same_new (o := .lst (ms.map vn)) hf
    have ef : upd H f (.lst (ms.map vn)) f = some (.lst (ms.map vn)) := upd_same
    generalize upd H f (.lst (ms.map vn)) = H1 at s1 ef ⊢
    refine ⟨_, _, _, _, rfl, T.cr_GreedySequence, T.cv_GreedySequence_REACH, ?_⟩
    refine ⟨_, rfl, rfl, ?_⟩
    -- the loop
    let Iv : L2.St → Hp → List Nat → Nat → Nat → Prop := fun σ H' ms' dec' mir' => ∃ y10 : Option V, σ = [some (vn L), some (.ref g), some (vn limit), some (vn count), some (.ref tm), some (vn dec'), some (vn mir'), some (.ref f), some (.int 2000), some (vn (2 ^ 2001 - 1)), y10] ∧ Same H H' ∧ H' f = some (.lst (ms'.map vn)) ∧ Gw S L ms' dec' mir' ∧ ms <+: ms'
    refine ⟨fun m σ H' => ∃ ms' dec' mir', Iv σ H' ms' dec' mir' ∧ m = S.length + 2001 - ms'.length, ⟨_, ms, dec, mir, ⟨none, rfl, s1, ef, gw, List.prefix_refl _⟩, rfl⟩, ?_⟩
    rintro m σ H2 ⟨ms', dec', mir', ⟨y10, rfl, s2, e2, gw', pre⟩, rfl⟩
    have h0 := gw'.pos st
    have hlen : (ms'.map vn).length = ms'.length := List.length_map ..
    have hml := gw'.mlt
    have hb1 := gw'.lt st
    have hlb := gw'.len
    refine ⟨_, rfl, _, rfl, f, _, _, _, rfl, rfl, SqL.of e2, at_last h0, _, rfl, _, _, rfl, rfl, _, rfl, ite2 (fun c => iteT ?a) (fun c => ?s)⟩
    case' s =>
      have hlim : limit ≤ ms'.getD (ms'.length - 1) 0 := by
        apply Classical.byContradiction
        intro z
        exact c (decide_eq_true (by omega))
      refine ⟨_, rfl, f, _, rfl, .inl (SqL.of e2), _, rfl, ?_⟩
      rw [hlen]
      refine ⟨_, _, rfl, rfl, _, rfl, ite2 (fun c2 => ?b) (fun c2 => ?e)⟩
    case e =>
      have hcnt : count ≤ ms'.length := by
        apply Classical.byContradiction
        intro z
        exact c2 (decide_eq_true (by omega))
      refine ⟨_, rfl, f, _, rfl, .inl ⟨SqL.of e2, fun t ht => ⟨_, rfl, _, rfl, (by show 3 ≤ sizeLine; decide), fun g' hg' => ?_⟩⟩⟩
      have n3 := same_new (o := .tup (ms'.map vn)) ht
      exact q _ g' ms' (Same.trans s2 (Same.trans n3 (same_new hg'))) ⟨t, dec', mir', upd_same, (same_new hg') _ _ upd_same, gw'⟩ pre (.inl ⟨hlim, hcnt⟩)
    all_goals
      refine ⟨fun σ' H' => ∃ m', m' < S.length + 2001 - ms'.length ∧ ∃ ms' dec' mir', Iv σ' H' ms' dec' mir' ∧ m' = S.length + 2001 - ms'.length, fun σ' H' h => h, ?_⟩
      refine ⟨_, rfl, dec', 1, rfl, rfl, trivial, dec' + 1, rfl, Nat.succ_pos _, ?_⟩
      refine ⟨_, rfl, _, rfl, _, _, rfl, rfl, _, rfl, ite2 (fun cb => ?_) (fun cb => ?_)⟩
      · have hp : 2000 < ev (dec' + 1) := by
          have h1 : (2000 : Int) < ((ev (dec' + 1) : Nat) : Int) := of_decide_eq_true cb
          omega
        have hfull := gw'.full st hp
        refine ⟨_, rfl, f, _, rfl, .inl ⟨SqL.of e2, fun t ht => ⟨_, rfl, _, rfl, (by show 3 ≤ sizeLine; decide), fun g' hg' => ?_⟩⟩⟩
        have n3 := same_new (o := .tup (ms'.map vn)) ht
        exact q _ g' ms' (Same.trans s2 (Same.trans n3 (same_new hg'))) ⟨t, dec', mir', upd_same, (same_new hg') _ _ upd_same, gw'⟩ pre (.inr hfull)
      · have hp : ev (dec' + 1) ≤ 2000 := by
          apply Classical.byContradiction
          intro z
          exact cb (decide_eq_true (show (2000 : Int) < ((ev (dec' + 1) : Nat) : Int) by omega))
        have gs := gw'.step st hp
        generalize ev (dec' + 1) = p at hp gs ⊢
        refine ⟨_, rfl, .inl ⟨rfl, _, SqL.of e2⟩, _, rfl, _, rfl, L, p, rfl, rfl, trivial, f, _, _, rfl, rfl, e2, small_lt (b := 3000) (by rw [hlen]; omega), ?_⟩
        have e3 : upd H2 f (.lst (ms'.map vn ++ [vn (L + p)])) f = some (.lst ((ms' ++ [L + p]).map vn)) := by rw [upd_same, List.map_append]; rfl
        have s3 : Same H (upd H2 f (.lst (ms'.map vn ++ [vn (L + p)]))) := Same.mut s2 hf
        show Ends.nx _ _ (upd H2 f (.lst (ms'.map vn ++ [vn (L + p)])))
        generalize upd H2 f (.lst (ms'.map vn ++ [vn (L + p)])) = H3 at e3 s3 ⊢
        refine ⟨_, rfl, _, rfl, 1, p, rfl, rfl, ⟨1, by decide, by omega⟩, dec', 1 * 2 ^ p, rfl, rfl, trivial, _, rfl, _, rfl, 2, p, rfl, rfl, ⟨2, 12, by decide, Nat.lt_of_le_of_lt hp (by decide), by decide, by decide, by decide⟩, _, rfl, _, _, rfl, rfl, mir', _, rfl, pow_up hml (by decide), ?_, ?_⟩
        · show (((2 * p : Nat) : Int) - 2000).natAbs < 80000
          omega
        have emv : mvI mir' (((2 * p : Nat) : Int) - 2000) = mvN mir' p 2000 := by
          rw [show (((2 * p : Nat) : Int) - 2000) = 2 * (p : Int) - ((2000 : Nat) : Int) by omega, mvI_eq]
        refine ⟨_, rfl, mvI mir' (((2 * p : Nat) : Int) - 2000), 2 ^ 2001 - 1, rfl, rfl, trivial, _, _, rfl, rfl, trivial, ?_⟩
        refine ⟨_, rfl, _, rfl, _, rfl, 2000, p, rfl, rfl, hp, 1, 2000 - p, rfl, rfl, ⟨1, by decide, by omega⟩, mir', 1 * 2 ^ (2000 - p), rfl, rfl, trivial, ?_⟩
        refine ⟨_, ?_, _, _, _, ⟨_, rfl, s3, e3, ?_, pre.trans (List.prefix_append _ _)⟩, rfl⟩
        · rw [List.length_append, List.length_singleton]
          omega
        · rw [emv, Nat.one_mul, Nat.one_mul]
          exact gs
end
end K14

namespace K14
open PySem PySem.Spec PyProof.Rows L2 TM TF GS
/-- all but two objects stand as they stood -/
def Bt2 (a d : Addr) (H H' : Hp) : Prop := ∀ b o, b ≠ a → b ≠ d → H b = some o → H' b = some o
theorem Bt2.refl (a d : Addr) (H : Hp) : Bt2 a d H H := fun _ _ _ _ e => e
theorem Bt2.same {a d : Addr} {H H1 H2 : Hp} (x : Bt2 a d H H1) (s : Same H1 H2) : Bt2 a d H H2 := fun b o h1 h2 e => s b o (x b o h1 h2 e)
theorem Bt2.of {a d : Addr} {H H1 : Hp} (s : Same H H1) : Bt2 a d H H1 := fun b o _ _ e => s b o e
theorem Bt2.trans {a d : Addr} {H H1 H2 : Hp} (x : Bt2 a d H H1) (y : Bt2 a d H1 H2) : Bt2 a d H H2 := fun b o h1 h2 e => y b o h1 h2 (x b o h1 h2 e)
theorem Bt2.upd1 {a d : Addr} {H H1 : Hp} {o : HO} (x : Bt2 a d H H1) : Bt2 a d H (upd H1 a o) := fun b u h1 h2 e => by rw [upd_ne h1]; exact x b u h1 h2 e
theorem Bt2.upd2 {a d : Addr} {H H1 : Hp} {o : HO} (x : Bt2 a d H H1) : Bt2 a d H (upd H1 d o) := fun b u h1 h2 e => by rw [upd_ne h2]; exact x b u h1 h2 e
def presK (ms : List Nat) : List (Key × V) := ms.map fun a => (Sum.inl ((a : Nat) : Int), V.bl true)
theorem presK_len (ms : List Nat) : (presK ms).length = ms.length := List.length_map ..
theorem presK_val (ms : List Nat) (r : Nat) : (valV (presK ms) (Sum.inl ((r : Nat) : Int))).isSome = decide (r ∈ ms) := by
  unfold valV presK
  induction ms with
  | nil => rfl
  | cons a l ih =>
    rw [List.map_cons, List.find?_cons]
    by_cases h : r = a
    · subst h
      simp
    · have h1 : decide ((Sum.inl ((a : Nat) : Int) : Key) = Sum.inl ((r : Nat) : Int)) = false := decide_eq_false fun z => h (by have := Sum.inl.inj z; omega)
      simp only [h1]
      rw [ih]
      simp [h]
theorem presK_new {ms : List Nat} {n : Nat} (h : n ∉ ms) : putK (presK ms) (Sum.inl ((n : Nat) : Int)) (V.bl true) = presK (ms ++ [n]) := by
  have hno : ((presK ms).any fun kv => decide (kv.1 = (Sum.inl ((n : Nat) : Int) : Key))) = false := by
    rw [List.any_eq_false]
    intro kv hkv
    obtain ⟨a, ha, rfl⟩ := List.mem_map.mp hkv
    intro z
    have z3 := Sum.inl.inj (of_decide_eq_true z)
    exact h (by rw [show n = a by omega]; exact ha)
  unfold putK
  rw [if_neg (by rw [hno]; decide)]
  unfold presK
  rw [List.map_append]
  rfl
/-- a sequence's fields -/
def flds (ts tm d : Addr) (L : Nat) (c : Bool) (g : V) : List (Str × V) := [("_start", .ref ts), ("_last", vn L), ("_horizon", vn (L + 2000)), ("_members", .ref tm), ("_present", .ref d), ("_complete", .bl c), ("_growth", g)]
/-- a sequence as it stands: its known members -/
structure GM (H : Hp) (C a d : Addr) (S : List Nat) (L : Nat) (ts tm : Addr) (ms : List Nat) (c : Bool) (g : V) : Prop where
  obj : ∃ dx, H a = some (.ins C dx (flds ts tm d L c g))
  hs : H ts = some (.tup (S.map vn))
  hm : H tm = some (.tup (ms.map vn))
  hd : H d = some (.dK (presK ms))
  at_ : ∃ t, t ≤ 2000 ∧ ms = gl S L t
  full : c = true → ms = gl S L 2000
  gr : (g = .non ∧ ms = S) ∨ ∃ ga, g = .ref ga ∧ GrO H S L ga ms
  st : Start S L
  l40 : S.length ≤ 40
  lL : L ≤ 1000000
def GO (H : Hp) (C a d : Addr) (S : List Nat) (L : Nat) : Prop := ∃ ts tm ms c g, GM H C a d S L ts tm ms c g
theorem GrO.same {H H' : Hp} {S : List Nat} {L : Nat} {g : Addr} {ms : List Nat} (s : Same H H') : GrO H S L g ms → GrO H' S L g ms := fun ⟨tm, dec, mir, h1, h2, h3⟩ => ⟨tm, dec, mir, s _ _ h1, s _ _ h2, h3⟩
theorem GM.same {H H' : Hp} {C a d : Addr} {S : List Nat} {L : Nat} {ts tm : Addr} {ms : List Nat} {c : Bool} {g : V} (s : Same H H') (h : GM H C a d S L ts tm ms c g) : GM H' C a d S L ts tm ms c g where
  obj := h.obj.elim fun dx e => ⟨dx, s _ _ e⟩
  hs := s _ _ h.hs
  hm := s _ _ h.hm
  hd := s _ _ h.hd
  at_ := h.at_
  full := h.full
  gr := h.gr.elim .inl fun ⟨ga, e, x⟩ => .inr ⟨ga, e, x.same s⟩
  st := h.st
  l40 := h.l40
  lL := h.lL
theorem GO.same {H H' : Hp} {C a d : Addr} {S : List Nat} {L : Nat} (s : Same H H') : GO H C a d S L → GO H' C a d S L := fun ⟨ts, tm, ms, c, g, h⟩ => ⟨ts, tm, ms, c, g, h.same s⟩
theorem GrO.but {p : Addr} {H H' : Hp} {S : List Nat} {L : Nat} {g : Addr} {ms : List Nat} {kvs : List (Key × V)} (b : But p H H') (hp : H p = some (.dK kvs)) : GrO H S L g ms → GrO H' S L g ms := fun ⟨tm, dec, mir, h1, h2, h3⟩ =>
  ⟨tm, dec, mir, b _ _ (ne_of h1 hp (fun z => nomatch z)) h1, b _ _ (ne_of h2 hp (fun z => nomatch z)) h2, h3⟩
/-- another dict changes -/
theorem GO.but {p : Addr} {H H' : Hp} {C a d : Addr} {S : List Nat} {L : Nat} {kvs : List (Key × V)} (b : But p H H') (hp : H p = some (.dK kvs)) (hd : d ≠ p) : GO H C a d S L → GO H' C a d S L := fun ⟨ts, tm, ms, c, g, h⟩ => ⟨ts, tm, ms, c, g, {
  obj := h.obj.elim fun dx e => ⟨dx, b _ _ (ne_of e hp (fun z => nomatch z)) e⟩
  hs := b _ _ (ne_of h.hs hp (fun z => nomatch z)) h.hs
  hm := b _ _ (ne_of h.hm hp (fun z => nomatch z)) h.hm
  hd := b _ _ hd h.hd
  at_ := h.at_
  full := h.full
  gr := h.gr.elim .inl fun ⟨ga, e, x⟩ => .inr ⟨ga, e, x.but b hp⟩
  st := h.st
  l40 := h.l40
  lL := h.lL }⟩
section
variable {P : Program} {w : World} {K : PySem.W.Frag} {mg : Str → Option Value} {base : Heap}
def sp_GreedySequence_init (T : Txt K mg) : Sp := fun vs H Q _ => ∃ (x dx p : Addr) (S : List Nat) (L : Nat), vs = [.ref x, .ref p] ∧ H x = some (.ins T.C_GreedySequence dx []) ∧ (H p = some (.tup (S.map vn)) ∨ H p = some (.lst (S.map vn))) ∧ Start S L ∧ S.length ≤ 40 ∧ L ≤ 1000000 ∧
  ∀ H' d, But x H H' → H d = none → GO H' T.C_GreedySequence x d S L → Q .non H'
theorem ok_GreedySequence_init (T : Txt K mg) : FnOk P w K mg base CX0 5 T.f_GreedySequence_init T.fd_GreedySequence_init ["self", "start"] (sp_GreedySequence_init T) := by
  have nd := sc_GreedySequence_init.nd
  refine T.F_GreedySequence_init.ok sc_GreedySequence_init (fun vs H Q E h => ?_) (fun cdv A outer s H vs Q E hr h => ?_)
  · obtain ⟨x, dx, p, S, L, rfl, _⟩ := h
    rfl
  · obtain ⟨x, dx, p0, S, L, rfl, hx, hp0, st, h40, hL, qok⟩ := h
    have h0 := st.pos
    have hlen : (S.map vn).length = S.length := List.length_map ..
    have elast : atI (S.map vn) (-1) = some (vn L) := by rw [at_last h0, st.getLast]
    refine ⟨_, (pss_cons (ps_fld (pv 0) (pe_call (ok_checked_start T) (hr.mono (by decide)) rfl T.g_checked_start T.F_checked_start.kp T.b_checked_start .nil pass0 (pa_cons (pv 1) pa_nil)) rfl)
      (pss_cons (ps_fld (pv 0) (pe_ix (ix_tupK K) (pe_fld (pv 0) rfl) (pe_un un_neg pe_int) (fun _ _ => rfl)) rfl)
      (pss_cons (ps_fld (pv 0) (pe_op nAdd (pe_fld (pv 0) rfl) (pe_con (pv 0) rfl)) rfl)
      (pss_cons (ps_fld (pv 0) (pe_fld (pv 0) rfl) rfl)
      (pss_cons (ps_fld (pv 0) (pe_dc (own := [("x", 2)]) (g := gName 2) (tt := tYes) rfl nd (pi_tup (pe_fld (pv 0) rfl)) (blkOk_by (own := [("x", 2)]) (N := N_GreedySequence_init) (sc := defScope s_GreedySequence_init) (by decide +kernel)) (fun _ _ _ _ _ => pg_name (i := 2) nd rfl (Or.inl rfl)) (fun _ _ _ _ _ => pts_nil) (fun _ _ _ _ _ => (pv 2)) (fun _ _ _ _ _ => pe_bl)) rfl)
      (pss_cons (ps_fld (pv 0) pe_bl rfl)
      (pss_one (ps_fld (pv 0) pe_non rfl)))))))), ?_⟩
    refine ⟨_, rfl, p0, S, L, rfl, hp0, st, h40, hL, fun H1 p s1 hp1 => ?_⟩
    have x1 := s1 _ _ hx
    have hpx : p ≠ x := ne_of hp1 x1 (by intro z; cases z)
    have b1 : But x H H1 := (Same.but s1)
    have c1 : But x H1 H1 := But.refl x H1
    refine ⟨_, rfl, x, _, dx, _, rfl, x1, T.c_GreedySequence, T.n_GreedySequence_start, (by show 0 < 1000; decide), ?_⟩
    have b2 := But.upd b1 (o := .ins T.C_GreedySequence dx (putF "_start" (.ref p) []))
    have c2 := But.upd c1 (o := .ins T.C_GreedySequence dx (putF "_start" (.ref p) []))
    have x2 : upd H1 x (.ins T.C_GreedySequence dx (putF "_start" (.ref p) [])) x = some (.ins T.C_GreedySequence dx [("_start", .ref p)]) := upd_same
    generalize upd H1 x (.ins T.C_GreedySequence dx (putF "_start" (.ref p) [])) = H2 at b2 c2 x2 ⊢
    have p2 := c2 _ _ hpx hp1
    refine ⟨_, rfl, x, _, dx, _, _, rfl, x2, T.c_GreedySequence, T.n_GreedySequence_start, rfl, _, rfl, p, _, _, _, rfl, rfl, SqT.of p2, elast, ?_⟩
    refine ⟨_, rfl, x, _, dx, _, rfl, x2, T.c_GreedySequence, T.n_GreedySequence_last, (by show 1 < 1000; decide), ?_⟩
    have b3 := But.upd b2 (o := .ins T.C_GreedySequence dx (putF "_last" (vn L) [("_start", .ref p)]))
    have c3 := But.upd c2 (o := .ins T.C_GreedySequence dx (putF "_last" (vn L) [("_start", .ref p)]))
    have x3 : upd H2 x (.ins T.C_GreedySequence dx (putF "_last" (vn L) [("_start", .ref p)])) x = some (.ins T.C_GreedySequence dx [("_start", .ref p), ("_last", vn L)]) := upd_same
    generalize upd H2 x (.ins T.C_GreedySequence dx (putF "_last" (vn L) [("_start", .ref p)])) = H3 at b3 c3 x3 ⊢
    refine ⟨_, rfl, x, _, dx, _, _, rfl, x3, T.c_GreedySequence, T.n_GreedySequence_last, rfl, _, rfl, x, _, dx, _, _, _, rfl, x3, T.c_GreedySequence, T.ic_GreedySequence_REACH, rfl, L, 2000, rfl, rfl, trivial, ?_⟩
    refine ⟨_, rfl, x, _, dx, _, rfl, x3, T.c_GreedySequence, T.n_GreedySequence_horizon, (by show 2 < 1000; decide), ?_⟩
    have b4 := But.upd b3 (o := .ins T.C_GreedySequence dx (putF "_horizon" (vn (L + 2000)) [("_start", .ref p), ("_last", vn L)]))
    have c4 := But.upd c3 (o := .ins T.C_GreedySequence dx (putF "_horizon" (vn (L + 2000)) [("_start", .ref p), ("_last", vn L)]))
    have x4 : upd H3 x (.ins T.C_GreedySequence dx (putF "_horizon" (vn (L + 2000)) [("_start", .ref p), ("_last", vn L)])) x = some (.ins T.C_GreedySequence dx [("_start", .ref p), ("_last", vn L), ("_horizon", vn (L + 2000))]) := upd_same
    generalize upd H3 x (.ins T.C_GreedySequence dx (putF "_horizon" (vn (L + 2000)) [("_start", .ref p), ("_last", vn L)])) = H4 at b4 c4 x4 ⊢
    refine ⟨_, rfl, x, _, dx, _, _, rfl, x4, T.c_GreedySequence, T.n_GreedySequence_start, rfl, ?_⟩
    refine ⟨_, rfl, x, _, dx, _, rfl, x4, T.c_GreedySequence, T.n_GreedySequence_members, (by show 3 < 1000; decide), ?_⟩
    have b5 := But.upd b4 (o := .ins T.C_GreedySequence dx (putF "_members" (.ref p) [("_start", .ref p), ("_last", vn L), ("_horizon", vn (L + 2000))]))
    have c5 := But.upd c4 (o := .ins T.C_GreedySequence dx (putF "_members" (.ref p) [("_start", .ref p), ("_last", vn L), ("_horizon", vn (L + 2000))]))
    have x5 : upd H4 x (.ins T.C_GreedySequence dx (putF "_members" (.ref p) [("_start", .ref p), ("_last", vn L), ("_horizon", vn (L + 2000))])) x = some (.ins T.C_GreedySequence dx [("_start", .ref p), ("_last", vn L), ("_horizon", vn (L + 2000)), ("_members", .ref p)]) := upd_same
    generalize upd H4 x (.ins T.C_GreedySequence dx (putF "_members" (.ref p) [("_start", .ref p), ("_last", vn L), ("_horizon", vn (L + 2000))])) = H5 at b5 c5 x5 ⊢
    have p5 := c5 _ _ hpx hp1
    -- the dict
    refine ⟨_, rfl, x, _, dx, _, _, rfl, x5, T.c_GreedySequence, T.n_GreedySequence_start, rfl, ?_⟩
    refine ⟨p, rfl, ⟨_, SqT.of p5⟩, fun D hD => ?_⟩
    refine dc_tup (a := p) (xs := S.map vn) (fun i H' => Same H5 H' ∧ H' D = some (.dK (presK (S.take i)))) ⟨same_new hD, upd_same⟩ (fun i H' _ ⟨s, _⟩ => SqT.of (s _ _ p5)) ?_ ?_
    · rintro i v H6 hv ⟨s6, e6⟩
      obtain ⟨n, hn, gn, rfl⟩ := vn_at hv
      obtain ⟨hi, ei⟩ := List.getElem?_eq_some_iff.mp gn
      refine ⟨rfl, yesC ⟨_, rfl, _, Sum.inl ((n : Nat) : Int), rfl, e6, ?_, Same.mut s6 hD, ?_⟩⟩
      · rw [presK_len, List.length_take]
        exact small_lt (b := 256) (by omega)
      · have hnot : n ∉ S.take i := fun hm => by
          obtain ⟨j, hj, ej⟩ := List.getElem_of_mem hm
          rw [List.length_take] at hj
          rw [List.getElem_take] at ej
          have := List.pairwise_iff_getElem.mp st.asc j i (by omega) hi (by omega)
          omega
        rw [upd_same, presK_new hnot, List.take_succ, gn]
        rfl
    rintro H6 ⟨s6, e6⟩
    rw [hlen, List.take_length] at e6
    have hD0 : H D = none := by
      cases e : H D with
      | none => rfl
      | some o =>
        by_cases z : D = x
        · rw [z] at hD
          rw [x5] at hD
          cases hD
        · have := b5 _ _ z e
          rw [hD] at this
          cases this
    have x6 := s6 _ _ x5
    have b6 : But x H H6 := But.same b5 s6
    have c6 : But x H1 H6 := But.same c5 s6
    refine ⟨_, rfl, x, _, dx, _, rfl, x6, T.c_GreedySequence, T.n_GreedySequence_present, (by show 4 < 1000; decide), ?_⟩
    have hDx : D ≠ x := ne_of e6 x6 (by intro z; cases z)
    have b7 := But.upd b6 (o := .ins T.C_GreedySequence dx (putF "_present" (.ref D) [("_start", .ref p), ("_last", vn L), ("_horizon", vn (L + 2000)), ("_members", .ref p)]))
    have c7 := But.upd c6 (o := .ins T.C_GreedySequence dx (putF "_present" (.ref D) [("_start", .ref p), ("_last", vn L), ("_horizon", vn (L + 2000)), ("_members", .ref p)]))
    have x7 : upd H6 x (.ins T.C_GreedySequence dx (putF "_present" (.ref D) [("_start", .ref p), ("_last", vn L), ("_horizon", vn (L + 2000)), ("_members", .ref p)])) x = some (.ins T.C_GreedySequence dx [("_start", .ref p), ("_last", vn L), ("_horizon", vn (L + 2000)), ("_members", .ref p), ("_present", .ref D)]) := upd_same
    have d7 : upd H6 x (.ins T.C_GreedySequence dx (putF "_present" (.ref D) [("_start", .ref p), ("_last", vn L), ("_horizon", vn (L + 2000)), ("_members", .ref p)])) D = some (.dK (presK S)) := by rw [upd_ne hDx]; exact e6
    generalize upd H6 x (.ins T.C_GreedySequence dx (putF "_present" (.ref D) [("_start", .ref p), ("_last", vn L), ("_horizon", vn (L + 2000)), ("_members", .ref p)])) = H7 at b7 c7 x7 d7 ⊢
    refine ⟨_, rfl, x, _, dx, _, rfl, x7, T.c_GreedySequence, T.n_GreedySequence_complete, (by show 5 < 1000; decide), ?_⟩
    have b8 := But.upd b7 (o := .ins T.C_GreedySequence dx (putF "_complete" (.bl false) [("_start", .ref p), ("_last", vn L), ("_horizon", vn (L + 2000)), ("_members", .ref p), ("_present", .ref D)]))
    have c8 := But.upd c7 (o := .ins T.C_GreedySequence dx (putF "_complete" (.bl false) [("_start", .ref p), ("_last", vn L), ("_horizon", vn (L + 2000)), ("_members", .ref p), ("_present", .ref D)]))
    have x8 : upd H7 x (.ins T.C_GreedySequence dx (putF "_complete" (.bl false) [("_start", .ref p), ("_last", vn L), ("_horizon", vn (L + 2000)), ("_members", .ref p), ("_present", .ref D)])) x = some (.ins T.C_GreedySequence dx [("_start", .ref p), ("_last", vn L), ("_horizon", vn (L + 2000)), ("_members", .ref p), ("_present", .ref D), ("_complete", .bl false)]) := upd_same
    have d8 : upd H7 x (.ins T.C_GreedySequence dx (putF "_complete" (.bl false) [("_start", .ref p), ("_last", vn L), ("_horizon", vn (L + 2000)), ("_members", .ref p), ("_present", .ref D)])) D = some (.dK (presK S)) := by rw [upd_ne hDx]; exact d7
    generalize upd H7 x (.ins T.C_GreedySequence dx (putF "_complete" (.bl false) [("_start", .ref p), ("_last", vn L), ("_horizon", vn (L + 2000)), ("_members", .ref p), ("_present", .ref D)])) = H8 at b8 c8 x8 d8 ⊢
    refine ⟨_, rfl, x, _, dx, _, rfl, x8, T.c_GreedySequence, T.n_GreedySequence_growth, (by show 6 < 1000; decide), ?_⟩
    refine qok _ D (But.upd b8) hD0 ⟨p, p, S, false, .non, ⟨dx, upd_same⟩, ?_, ?_, ?_, ⟨0, Nat.zero_le _, rfl⟩, (fun z => nomatch z), .inl ⟨rfl, rfl⟩, st, h40, hL⟩
    · rw [upd_ne hpx]; exact c8 _ _ hpx hp1
    · rw [upd_ne hpx]; exact c8 _ _ hpx hp1
    · rw [upd_ne hDx]; exact d8
end
end K14

namespace K14
open PySem PySem.Spec PyProof.Rows L2 TM TF GS
section
variable {P : Program} {w : World} {K : PySem.W.Frag} {mg : Str → Option Value} {base : Heap}
def sp_GreedySequence_check_reach (T : Txt K mg) : Sp := fun vs H Q _ => ∃ (a d : Addr) (S : List Nat) (L x : Nat), vs = [.ref a, vn x] ∧ GO H T.C_GreedySequence a d S L ∧ x ≤ L + 2000 ∧ Q .non H
theorem ok_GreedySequence_check_reach (T : Txt K mg) : FnOk P w K mg base CX0 3 T.f_GreedySequence_check_reach T.fd_GreedySequence_check_reach ["self", "x"] (sp_GreedySequence_check_reach T) := by
  have nd := sc_GreedySequence_check_reach.nd
  refine T.F_GreedySequence_check_reach.ok sc_GreedySequence_check_reach (fun vs H Q E h => ?_) (fun cdv A outer s H vs Q E hr h => ?_)
  · obtain ⟨a, d, S, L, x, rfl, _⟩ := h
    rfl
  · obtain ⟨a, d, S, L, x, rfl, ⟨ts, tm, ms, c, g, ⟨⟨dx, ea⟩, _, _, _, _, _, _, _, _, _⟩⟩, hx, q⟩ := h
    refine ⟨_, (pss_one (ps_if (pt_not (pt_val (pe_call (ok_is_between T) (hr.mono (by decide)) rfl T.g_is_between T.F_is_between.kp T.b_is_between .nil pass0 (pa_cons (pv 1) (pa_cons pe_int (pa_cons (pe_fld (pv 0) rfl) pa_nil)))))) (pss_one ps_never) pss_nil)), ?_⟩
    refine ⟨_, rfl, _, rfl, a, _, dx, _, _, rfl, ea, T.c_GreedySequence, T.n_GreedySequence_horizon, rfl, (x : Int), 0, ((L + 2000 : Nat) : Int), rfl, true, ?_, iteF q⟩
    rw [decide_eq_true (show (0 : Int) ≤ (x : Int) ∧ (x : Int) ≤ ((L + 2000 : Nat) : Int) by omega)]
def sp_GreedySequence_growth_so_far (T : Txt K mg) : Sp := fun vs H Q _ => ∃ (a d : Addr) (S : List Nat) (L : Nat) (ts tm : Addr) (ms : List Nat) (c : Bool) (g : V), vs = [.ref a] ∧ GM H T.C_GreedySequence a d S L ts tm ms c g ∧ ∀ H' ga, Same H H' → GrO H' S L ga ms → Q (.ref ga) H'
theorem ok_GreedySequence_growth_so_far (T : Txt K mg) : FnOk P w K mg base CX0 5 T.f_GreedySequence_growth_so_far T.fd_GreedySequence_growth_so_far ["self"] (sp_GreedySequence_growth_so_far T) := by
  have nd := sc_GreedySequence_growth_so_far.nd
  refine T.F_GreedySequence_growth_so_far.ok sc_GreedySequence_growth_so_far (fun vs H Q E h => ?_) (fun cdv A outer s H vs Q E hr h => ?_)
  · obtain ⟨a, d, S, L, ts, tm, ms, c, g, rfl, _⟩ := h
    rfl
  · obtain ⟨a, d, S, L, ts, tm, ms, c, g, rfl, gm, q⟩ := h
    obtain ⟨dx, ea⟩ := gm.obj
    refine ⟨_, (pss_cons (ps_if (pt_cmpR op_isN (pe_fld (pv 0) rfl) pe_non (nomark _)) (pss_one (ps_ret (pe_call (ok_growth_of T) (hr.mono (by decide)) rfl T.g_growth_of T.F_growth_of.kp T.b_growth_of .nil pass0 (pa_cons (pe_fld (pv 0) rfl) pa_nil)))) pss_nil)
      (pss_one (ps_ret (pe_fld (pv 0) rfl)))), ?_⟩
    refine ⟨_, rfl, a, _, dx, _, _, rfl, ea, T.c_GreedySequence, T.n_GreedySequence_growth, rfl, rfl, _, rfl, ?_⟩
    rcases gm.gr with ⟨rfl, rfl⟩ | ⟨ga, rfl, x⟩
    · refine iteT ⟨_, rfl, a, _, dx, _, _, rfl, ea, T.c_GreedySequence, T.n_GreedySequence_start, rfl, ts, ms, L, rfl, gm.hs, gm.st, gm.l40, gm.lL, fun H1 g1 dec mir s1 e1 gw => q H1 g1 s1 ⟨ts, dec, mir, e1, s1 _ _ gm.hs, gw⟩⟩
    · exact iteF ⟨_, rfl, a, _, dx, _, _, rfl, ea, T.c_GreedySequence, T.n_GreedySequence_growth, rfl, q H ga (Same.refl _) x⟩
def sp_GreedySequence_grow (T : Txt K mg) : Sp := fun vs H Q _ => ∃ (a d : Addr) (S : List Nat) (L limit count : Nat) (ts tm : Addr) (ms : List Nat) (c : Bool) (g : V), vs = [.ref a, vn limit, vn count] ∧ GM H T.C_GreedySequence a d S L ts tm ms c g ∧
  ∀ H' tm' ms' c' g', Bt2 a d H H' → GM H' T.C_GreedySequence a d S L ts tm' ms' c' g' → Done S L ms' limit count → Q .non H'
theorem ok_GreedySequence_grow (T : Txt K mg) : FnOk P w K mg base CX0 7 T.f_GreedySequence_grow T.fd_GreedySequence_grow ["self", "limit", "count"] (sp_GreedySequence_grow T) := by
  have nd := sc_GreedySequence_grow.nd
  refine T.F_GreedySequence_grow.ok sc_GreedySequence_grow (fun vs H Q E h => ?_) (fun cdv A outer s H vs Q E hr h => ?_)
  · obtain ⟨a, d, S, L, limit, count, ts, tm, ms, c, g, rfl, _⟩ := h
    rfl
  · obtain ⟨a, d, S, L, limit, count, ts, tm, ms, c, g, rfl, gm, q⟩ := h
    obtain ⟨dx, ea⟩ := gm.obj
    refine ⟨_, (pss_cons (ps_fld (pv 0) (pe_call (ok_grown T) (hr.mono (by decide)) rfl T.g_grown T.F_grown.kp T.b_grown .nil pass0 (pa_cons (pe_fld (pv 0) rfl) (pa_cons (pe_meth0 (pv 0) T.c_GreedySequence T.me_GreedySequence_growth_so_far (ok_GreedySequence_growth_so_far T) (hr.mono (by decide)) T.b_GreedySequence_growth_so_far .nil pass0) (pa_cons (pv 1) (pa_cons (pv 2) pa_nil))))) rfl)
      (pss_cons (ps_set (i := 3) nd rfl (.inl rfl) (pe_ix (ix_tupK K) (pe_fld (pv 0) rfl) pe_int (fun _ _ => rfl)))
      (pss_cons (ps_for PassesOwn.never rfl (pi_tup (pe_slice sl_tupA (pv 3) (po_some (pe_callB call_len_seq (by rfl) T.m_len PySem.boot_len (pa_cons (pe_fld (pv 0) rfl) pa_nil))) po_none)) (pg_name (i := 4) nd rfl (.inl rfl)) (pss_one (ps_dput (hu_of hr) (pe_fld (pv 0) rfl) (pv 4) pe_bl rfl)))
      (pss_cons (ps_fld (pv 0) (pv 3) rfl)
      (pss_one (ps_fld (pv 0) (pe_or (pe_cmpR op_lt (pe_ix (ix_tupK K) (pv 3) (pe_un un_neg pe_int) (fun _ _ => rfl)) (pv 1) (nomark _)) (pe_one (pe_cmpR op_lt (pe_callB call_len_seq (by rfl) T.m_len PySem.boot_len (pa_cons (pv 3) pa_nil)) (pv 2) (nomark _)))) rfl)))))), ?_⟩
    refine ⟨_, rfl, a, _, dx, _, _, rfl, ea, T.c_GreedySequence, T.n_GreedySequence_last, rfl, _, rfl, a, dx, _, rfl, ea, rfl, a, d, S, L, ts, tm, ms, c, g, rfl, gm, fun H1 ga s1 gr1 => ?_⟩
    refine ⟨_, rfl, _, rfl, ga, S, ms, L, limit, count, rfl, gr1, gm.st, gm.l40, gm.lL, fun H2 g2 ms2 s2 gr2 pre dn => ?_⟩
    have s12 := Same.trans s1 s2
    have gm2 := gm.same s12
    have ea2 := s12 _ _ ea
    obtain ⟨tm2, dec, mir, h1, h2, gw⟩ := id gr2
    refine ⟨_, rfl, a, _, dx, _, rfl, ea2, T.c_GreedySequence, T.n_GreedySequence_growth, (by show 7 < 1000; decide), ?_⟩
    have b3 : Bt2 a d H2 (upd H2 a (.ins T.C_GreedySequence dx (putF "_growth" (.ref g2) (flds ts tm d L c g)))) := Bt2.upd1 (Bt2.refl _ _ _)
    have ea3 : upd H2 a (.ins T.C_GreedySequence dx (putF "_growth" (.ref g2) (flds ts tm d L c g))) a = some (.ins T.C_GreedySequence dx (flds ts tm d L c (.ref g2))) := upd_same
    have nea : ∀ {b : Addr} {xs : List V}, H2 b = some (.tup xs) → b ≠ a := fun h => ne_of h ea2 (fun z => nomatch z)
    have ned : ∀ {b : Addr} {xs : List V}, H2 b = some (.tup xs) → b ≠ d := fun h => ne_of h gm2.hd (fun z => nomatch z)
    have dna : d ≠ a := ne_of gm2.hd ea2 (fun z => nomatch z)
    have ed3 : upd H2 a (.ins T.C_GreedySequence dx (putF "_growth" (.ref g2) (flds ts tm d L c g))) d = some (.dK (presK ms)) := by rw [upd_ne dna]; exact gm2.hd
    generalize upd H2 a (.ins T.C_GreedySequence dx (putF "_growth" (.ref g2) (flds ts tm d L c g))) = H3 at b3 ea3 ed3 ⊢
    have hg3 := b3 _ _ (nea h1) (ned h1) h1
    have ht3 := b3 _ _ (nea h2) (ned h2) h2
    refine ⟨_, rfl, a, _, dx, _, _, rfl, ea3, T.c_GreedySequence, T.n_GreedySequence_growth, rfl, g2, _, _, _, rfl, rfl, SqT.of hg3, atI_nat (j := 0) rfl, ?_⟩
    have hml : (ms.map vn).length = ms.length := List.length_map ..
    have hm2l : (ms2.map vn).length = ms2.length := List.length_map ..
    have h0 : 0 < ms.length := by
      obtain ⟨t, _, e⟩ := gm.at_
      have := gl_last gm.st t
      rw [e]
      omega
    have hlen2 := gw.len
    have hl40 := gm.l40
    obtain ⟨rest, hrest⟩ := pre
    have hpl : ms.length ≤ ms2.length := by rw [← hrest, List.length_append]; omega
    have htm3 := b3 _ _ (nea gm2.hm) (ned gm2.hm) gm2.hm
    refine ⟨_, rfl, _, rfl, a, _, dx, _, _, rfl, ea3, T.c_GreedySequence, T.n_GreedySequence_members, rfl, tm, _, rfl, .inr (SqT.of htm3), _, rfl, tm2, _, rfl, SqT.of ht3, ?_, fun _ pz hpz => ?_⟩
    · rintro ⟨z, _⟩
      rw [hml, HT.sIx_nat, hm2l] at z
      omega
    have ecut : cutV (ms2.map vn) (some (((ms.map vn).length : Nat) : Int)) none = (ms2.drop ms.length).map vn := by rw [cut_from, hml, List.map_drop]
    have edr : ms2.drop ms.length = rest := by rw [← hrest, List.drop_left]
    rw [ecut, edr]
    have n4 := same_new (o := .tup (rest.map vn)) hpz
    have e4 : upd H3 pz (.tup (rest.map vn)) pz = some (.tup (rest.map vn)) := upd_same
    generalize upd H3 pz (.tup (rest.map vn)) = H4 at n4 e4 ⊢
    have b4 := Bt2.same b3 n4
    have ea4 := n4 _ _ ea3
    have ed4 := n4 _ _ ed3
    have hrl : (rest.map vn).length = rest.length := List.length_map ..
    have hasc := gl_asc gm.st
    have hasc2 : (ms ++ rest).Pairwise (· < ·) := by
      obtain ⟨t, _, e⟩ := gw.at_
      rw [hrest, e]
      exact hasc t
    refine ⟨pz, rfl, ⟨_, SqT.of e4⟩, ?_⟩
    refine for_it (walk_tup (xs := rest.map vn)) (fun i σ H' => ∃ y4 : Option V, σ = [some (.ref a), some (vn limit), some (vn count), some (.ref tm2), y4] ∧ But d H4 H' ∧ H' d = some (.dK (presK (ms ++ rest.take i)))) ⟨none, rfl, But.refl _ _, by rw [List.take_zero, List.append_nil]; exact ed4⟩
      (fun i σ H' _ ⟨_, _, b, _⟩ => SqT.of (b _ _ (ne_of e4 ed4 (fun z => nomatch z)) e4)) ?_ ?_
    · rintro i x σ H5 H5' hi ⟨y4, rfl, b5, ed5⟩ ⟨rfl, hx⟩
      obtain ⟨n, hn, gn, rfl⟩ := vn_at hx
      rw [hrl] at hi
      have ea5 := b5 _ _ dna.symm ea4
      refine ⟨_, rfl, a, _, dx, _, _, rfl, ea5, T.c_GreedySequence, T.n_GreedySequence_present, rfl, _, rfl, d, _, rfl, DPut.k (k := Sum.inl ((n : Nat) : Int)) ed5 ?_, ?_⟩
      · rw [presK_len, List.length_append, List.length_take]
        refine small_lt (b := 3000) ?_
        have : ms.length + rest.length = ms2.length := by rw [← hrest, List.length_append]
        omega
      · refine ⟨_, rfl, But.upd b5, ?_⟩
        have hnot : n ∉ ms ++ rest.take i := fun hm => by
          obtain ⟨_, hr, hc⟩ := List.pairwise_append.mp hasc2
          rcases List.mem_append.mp hm with hm | hm
          · have := hc n hm n hn
            omega
          · obtain ⟨j, hj, ej⟩ := List.getElem_of_mem hm
            rw [List.length_take] at hj
            rw [List.getElem_take] at ej
            obtain ⟨hi2, ei⟩ := List.getElem?_eq_some_iff.mp gn
            have := List.pairwise_iff_getElem.mp hr j i (by omega) hi2 (by omega)
            omega
        rw [upd_same, presK_new hnot, List.append_assoc, List.take_succ, gn]
        rfl
    rintro σ H5 ⟨y4, rfl, b5, ed5⟩
    rw [hrl, List.take_length, hrest] at ed5
    have ea5 := b5 _ _ dna.symm ea4
    have t5 : ∀ {b : Addr} {xs : List V}, H2 b = some (.tup xs) → H5 b = some (.tup xs) := fun h => b5 _ _ (ned h) (b4 _ _ (nea h) (ned h) h)
    have B5 : Bt2 a d H2 H5 := fun b o h1 h2 e => b5 b o h2 (b4 b o h1 h2 e)
    refine ⟨_, rfl, _, rfl, a, _, dx, _, rfl, ea5, T.c_GreedySequence, T.n_GreedySequence_members, (by show 7 < 1000; decide), ?_⟩
    have B6 : Bt2 a d H2 (upd H5 a (.ins T.C_GreedySequence dx (putF "_members" (.ref tm2) (flds ts tm d L c (.ref g2))))) := Bt2.upd1 B5
    have ea6 : upd H5 a (.ins T.C_GreedySequence dx (putF "_members" (.ref tm2) (flds ts tm d L c (.ref g2)))) a = some (.ins T.C_GreedySequence dx (flds ts tm2 d L c (.ref g2))) := upd_same
    have ed6 : upd H5 a (.ins T.C_GreedySequence dx (putF "_members" (.ref tm2) (flds ts tm d L c (.ref g2)))) d = some (.dK (presK ms2)) := by rw [upd_ne dna]; exact ed5
    generalize upd H5 a (.ins T.C_GreedySequence dx (putF "_members" (.ref tm2) (flds ts tm d L c (.ref g2)))) = H6 at B6 ea6 ed6 ⊢
    have t6 : ∀ {b : Addr} {xs : List V}, H2 b = some (.tup xs) → H6 b = some (.tup xs) := fun h => B6 _ _ (nea h) (ned h) h
    have hpos2 : 0 < ms2.length := by omega
    have fin : ∀ (c' : Bool), (c' = true → ms2 = gl S L 2000) → Q .non (upd H6 a (.ins T.C_GreedySequence dx (putF "_complete" (.bl c') (flds ts tm2 d L c (.ref g2))))) := fun c' hc' => by
      refine q _ tm2 ms2 c' (.ref g2) (Bt2.trans (Bt2.of s12) (Bt2.upd1 B6)) ⟨⟨dx, upd_same⟩, ?_, ?_, ?_, gw.at_, hc', .inr ⟨g2, rfl, tm2, dec, mir, ?_, ?_, gw⟩, gm.st, gm.l40, gm.lL⟩ dn
      · rw [upd_ne (nea gm2.hs)]; exact t6 gm2.hs
      · rw [upd_ne (nea h2)]; exact t6 h2
      · rw [upd_ne dna]; exact ed6
      · rw [upd_ne (nea h1)]; exact t6 h1
      · rw [upd_ne (nea h2)]; exact t6 h2
    refine ⟨_, rfl, _, rfl, tm2, _, _, _, rfl, rfl, SqT.of (t6 h2), at_last hpos2, _, rfl, _, _, rfl, rfl, _, rfl, ite2 (fun c1 => ?_) (fun c1 => ?_)⟩
    · refine ⟨_, rfl, a, _, dx, _, rfl, ea6, T.c_GreedySequence, T.n_GreedySequence_complete, (by show 7 < 1000; decide), fin true fun _ => ?_⟩
      have h3 : ((ms2.getD (ms2.length - 1) 0 : Nat) : Int) < (limit : Int) := of_decide_eq_true c1
      rcases dn with ⟨h4, _⟩ | h4
      · omega
      · exact h4
    · refine ⟨_, rfl, tm2, _, rfl, .inr (SqT.of (t6 h2)), _, rfl, _, _, rfl, rfl, ?_⟩
      refine ⟨_, rfl, a, _, dx, _, rfl, ea6, T.c_GreedySequence, T.n_GreedySequence_complete, (by show 7 < 1000; decide), fin _ fun c2 => ?_⟩
      rw [hm2l] at c2
      have h3 : ((ms2.length : Nat) : Int) < (count : Int) := of_decide_eq_true c2
      rcases dn with ⟨_, h4⟩ | h4
      · omega
      · exact h4
end
end K14

namespace K14
open PySem PySem.Spec PyProof.Rows L2 TM TF GS
section
variable {P : Program} {w : World} {K : PySem.W.Frag} {mg : Str → Option Value} {base : Heap}
def sp_GreedySequence_known (T : Txt K mg) : Sp := fun vs H Q _ => ∃ (a d : Addr) (S : List Nat) (L limit count : Nat), vs = [.ref a, vn limit, vn count] ∧ GO H T.C_GreedySequence a d S L ∧
  ∀ H' ts tm' ms' c' g', Bt2 a d H H' → GM H' T.C_GreedySequence a d S L ts tm' ms' c' g' → Done S L ms' limit count → Q (.ref tm') H'
theorem ok_GreedySequence_known (T : Txt K mg) : FnOk P w K mg base CX0 9 T.f_GreedySequence_known T.fd_GreedySequence_known ["self", "limit", "count"] (sp_GreedySequence_known T) := by
  have nd := sc_GreedySequence_known.nd
  refine T.F_GreedySequence_known.ok sc_GreedySequence_known (fun vs H Q E h => ?_) (fun cdv A outer s H vs Q E hr h => ?_)
  · obtain ⟨a, d, S, L, limit, count, rfl, _⟩ := h
    rfl
  · obtain ⟨a, d, S, L, limit, count, rfl, ⟨ts, tm, ms, c, g, gm⟩, q⟩ := h
    obtain ⟨dx, ea⟩ := gm.obj
    have hml : (ms.map vn).length = ms.length := List.length_map ..
    have h0 : 0 < ms.length := by
      obtain ⟨t, _, e⟩ := gm.at_
      have := gl_last gm.st t
      rw [e]
      omega
    refine ⟨_, (pss_cons (ps_if (PW.pt (pw_or (pt_cmpR op_lt (pe_ix (ix_tupK K) (pe_fld (pv 0) rfl) (pe_un un_neg pe_int) (fun _ _ => rfl)) (pv 1) (nomark _)) (pw_or1 (pt_cmpR op_lt (pe_callB call_len_seq (by rfl) T.m_len PySem.boot_len (pa_cons (pe_fld (pv 0) rfl) pa_nil)) (pv 2) (nomark _))))) (pss_one (ps_if (pt_not (pt_val (pe_fld (pv 0) rfl))) (pss_one (ps_expr (pe_meth (pv 0) T.c_GreedySequence T.me_GreedySequence_grow (ok_GreedySequence_grow T) (hr.mono (by decide)) T.b_GreedySequence_grow .nil pass0 (pa_cons (pv 1) (pa_cons (pv 2) pa_nil))))) pss_nil)) pss_nil)
      (pss_one (ps_ret (pe_fld (pv 0) rfl)))), ?_⟩
    refine ⟨_, rfl, a, _, dx, _, _, rfl, ea, T.c_GreedySequence, T.n_GreedySequence_members, rfl, _, rfl, tm, _, _, _, rfl, rfl, SqT.of gm.hm, at_last h0, _, rfl, _, _, rfl, rfl, _, rfl, ite2 (fun c1 => iteT ?m) (fun c1 => ?s)⟩
    case' s =>
      refine ⟨_, rfl, a, _, dx, _, _, rfl, ea, T.c_GreedySequence, T.n_GreedySequence_members, rfl, tm, _, rfl, .inr (SqT.of gm.hm), _, rfl, ?_⟩
      rw [hml]
      refine ⟨_, _, rfl, rfl, _, rfl, ite2 (fun c2 => ?n) (fun c2 => ?e)⟩
    case e =>
      have h1 : limit ≤ ms.getD (ms.length - 1) 0 := Classical.byContradiction fun z => c1 (decide_eq_true (by omega))
      have h2 : count ≤ ms.length := Classical.byContradiction fun z => c2 (decide_eq_true (by omega))
      exact ⟨_, rfl, a, _, dx, _, _, rfl, ea, T.c_GreedySequence, T.n_GreedySequence_members, rfl, q H ts tm ms c g (Bt2.refl _ _ _) gm (.inl ⟨h1, h2⟩)⟩
    all_goals
      refine ⟨_, rfl, a, _, dx, _, _, rfl, ea, T.c_GreedySequence, T.n_GreedySequence_complete, rfl, _, rfl, ?_⟩
      cases c with
      | true => exact iteF ⟨_, rfl, a, _, dx, _, _, rfl, ea, T.c_GreedySequence, T.n_GreedySequence_members, rfl, q H ts tm ms true g (Bt2.refl _ _ _) gm (.inr (gm.full rfl))⟩
      | false =>
        refine iteT ⟨_, rfl, a, dx, _, rfl, ea, rfl, _, rfl, _, rfl, a, d, S, L, limit, count, ts, tm, ms, false, g, rfl, gm, fun H1 tm1 ms1 c3 g1 b1 gm1 dn => ?_⟩
        obtain ⟨dx1, ea1⟩ := gm1.obj
        exact ⟨_, rfl, a, _, dx1, _, _, rfl, ea1, T.c_GreedySequence, T.n_GreedySequence_members, rfl, q H1 ts tm1 ms1 c3 g1 b1 gm1 dn⟩
def sp_GreedySequence_contains (T : Txt K mg) : Sp := fun vs H Q _ => ∃ (a d : Addr) (S : List Nat) (L x : Nat), vs = [.ref a, vn x] ∧ GO H T.C_GreedySequence a d S L ∧ x ≤ L + 2000 ∧
  ∀ H', Bt2 a d H H' → GO H' T.C_GreedySequence a d S L → Q (.bl (decide (x ∈ gl S L 2000))) H'
theorem ok_GreedySequence_contains (T : Txt K mg) : FnOk P w K mg base CX0 11 T.f_GreedySequence_contains T.fd_GreedySequence_contains ["self", "x"] (sp_GreedySequence_contains T) := by
  have nd := sc_GreedySequence_contains.nd
  refine T.F_GreedySequence_contains.ok sc_GreedySequence_contains (fun vs H Q E h => ?_) (fun cdv A outer s H vs Q E hr h => ?_)
  · obtain ⟨a, d, S, L, x, rfl, _⟩ := h
    rfl
  · obtain ⟨a, d, S, L, x, rfl, go, hx, q⟩ := h
    refine ⟨_, (pss_cons (ps_expr (pe_meth (pv 0) T.c_GreedySequence T.me_GreedySequence_check_reach (ok_GreedySequence_check_reach T) (hr.mono (by decide)) T.b_GreedySequence_check_reach .nil pass0 (pa_cons (pv 1) pa_nil)))
      (pss_cons (ps_expr (pe_meth (pv 0) T.c_GreedySequence T.me_GreedySequence_known (ok_GreedySequence_known T) (hr.mono (by decide)) T.b_GreedySequence_known .nil pass0 (pa_cons (pv 1) (pa_cons pe_int pa_nil))))
      (pss_one (ps_ret (pe_cmp (pc_din (hu_of hr) (pv 1) (pe_fld (pv 0) rfl))))))), ?_⟩
    obtain ⟨ts0, tm0, ms0, c0, g0, gm0⟩ := id go
    obtain ⟨dx0, ea0⟩ := gm0.obj
    refine ⟨_, rfl, a, dx0, _, rfl, ea0, rfl, _, rfl, a, d, S, L, x, rfl, go, hx, ?_⟩
    refine ⟨_, rfl, a, dx0, _, rfl, ea0, rfl, _, rfl, a, d, S, L, x, 0, rfl, go, fun H1 ts tm ms c g b1 gm dn => ?_⟩
    obtain ⟨dx, ea⟩ := gm.obj
    have e : decide (x ∈ ms) = decide (x ∈ gl S L 2000) := by rw [decide_eq_decide]; exact Done.mem gm.st gm.at_ dn (Nat.le_refl _)
    have k := q H1 b1 ⟨ts, tm, ms, c, g, gm⟩
    rw [← e, ← presK_val] at k
    exact ⟨_, rfl, _, rfl, a, _, dx, _, _, rfl, ea, T.c_GreedySequence, T.n_GreedySequence_present, rfl, d, _, rfl, DGet.k (k := Sum.inl ((x : Nat) : Int)) gm.hd, k⟩
def sp_GreedySequence_first (T : Txt K mg) : Sp := fun vs H Q _ => ∃ (a d : Addr) (S : List Nat) (L count : Nat), vs = [.ref a, vn count] ∧ GO H T.C_GreedySequence a d S L ∧ ∀ H' t, Same H H' → H' t = some (.tup (((gl S L 2000).take count).map vn)) → Q (.ref t) H'
theorem ok_GreedySequence_first (T : Txt K mg) : FnOk P w K mg base CX0 7 T.f_GreedySequence_first T.fd_GreedySequence_first ["self", "count"] (sp_GreedySequence_first T) := by
  have nd := sc_GreedySequence_first.nd
  refine T.F_GreedySequence_first.ok sc_GreedySequence_first (fun vs H Q E h => ?_) (fun cdv A outer s H vs Q E hr h => ?_)
  · obtain ⟨a, d, S, L, count, rfl, _⟩ := h
    rfl
  · obtain ⟨a, d, S, L, count, rfl, ⟨ts, tm, ms, c, g, gm⟩, q⟩ := h
    obtain ⟨dx, ea⟩ := gm.obj
    have hml : (ms.map vn).length = ms.length := List.length_map ..
    refine ⟨_, (pss_cons (ps_if (pt_cmpR op_le (pv 1) (pe_callB call_len_seq (by rfl) T.m_len PySem.boot_len (pa_cons (pe_fld (pv 0) rfl) pa_nil)) (nomark _)) (pss_one (ps_ret (pe_slice sl_tupA (pe_fld (pv 0) rfl) po_none (po_some (pv 1))))) pss_nil)
      (pss_one (ps_ret (pe_slice sl_tupA (pe_ix (ix_tupK K) (pe_call (ok_grown T) (hr.mono (by decide)) rfl T.g_grown T.F_grown.kp T.b_grown .nil pass0 (pa_cons (pe_fld (pv 0) rfl) (pa_cons (pe_meth0 (pv 0) T.c_GreedySequence T.me_GreedySequence_growth_so_far (ok_GreedySequence_growth_so_far T) (hr.mono (by decide)) T.b_GreedySequence_growth_so_far .nil pass0) (pa_cons pe_int (pa_cons (pv 1) pa_nil))))) pe_int (fun _ _ => rfl)) po_none (po_some (pv 1)))))), ?_⟩
    refine ⟨_, rfl, _, rfl, a, _, dx, _, _, rfl, ea, T.c_GreedySequence, T.n_GreedySequence_members, rfl, tm, _, rfl, .inr (SqT.of gm.hm), ?_⟩
    rw [hml]
    refine ⟨_, _, rfl, rfl, _, rfl, ite2 (fun c1 => ?_) (fun c1 => ?_)⟩
    · have hc : count ≤ ms.length := by
        have h1 : (count : Int) ≤ ((ms.length : Nat) : Int) := of_decide_eq_true c1
        omega
      have et : ms.take count = (gl S L 2000).take count := Done.take (x := 0) gm.at_ (.inl ⟨Nat.zero_le _, hc⟩)
      refine ⟨_, rfl, a, _, dx, _, _, rfl, ea, T.c_GreedySequence, T.n_GreedySequence_members, rfl, _, rfl, _, rfl, tm, _, rfl, SqT.of gm.hm, fun hw => ?_, fun _ p hp => ?_⟩
      · have hw2 := hw.2
        rw [HT.sIx_nat, hml] at hw2
        refine q H tm (Same.refl _) ?_
        rw [← et, List.take_of_length_le (by omega)]
        exact gm.hm
      · rw [cut_to, ← List.map_take, et]
        exact q _ p (same_new hp) upd_same
    · refine ⟨_, rfl, a, _, dx, _, _, rfl, ea, T.c_GreedySequence, T.n_GreedySequence_last, rfl, _, rfl, a, dx, _, rfl, ea, rfl, a, d, S, L, ts, tm, ms, c, g, rfl, gm, fun H1 ga s1 gr1 => ?_⟩
      refine ⟨_, rfl, ga, S, ms, L, 0, count, rfl, gr1, gm.st, gm.l40, gm.lL, fun H2 g2 ms2 s2 ⟨tm2, dec, mir, h1, h2, gw⟩ pre dn => ?_⟩
      have hml2 : (ms2.map vn).length = ms2.length := List.length_map ..
      have et : ms2.take count = (gl S L 2000).take count := Done.take gw.at_ dn
      refine ⟨g2, _, _, _, rfl, rfl, SqT.of h1, atI_nat (j := 0) rfl, _, rfl, _, rfl, tm2, _, rfl, SqT.of h2, fun hw => ?_, fun _ p hp => ?_⟩
      · have hw2 := hw.2
        rw [HT.sIx_nat, hml2] at hw2
        refine q H2 tm2 (Same.trans s1 s2) ?_
        rw [← et, List.take_of_length_le (by omega)]
        exact h2
      · rw [cut_to, ← List.map_take, et]
        exact q _ p (Same.trans (Same.trans s1 s2) (same_new hp)) upd_same
def sp_GreedySequence_beginning (T : Txt K mg) : Sp := fun vs H Q _ => ∃ (a d : Addr) (S : List Nat) (L : Nat), vs = [.ref a] ∧ GO H T.C_GreedySequence a d S L ∧ ∀ H' t, Same H H' → H' t = some (.tup (((gl S L 2000).take 40).map vn)) → Q (.ref t) H'
theorem ok_GreedySequence_beginning (T : Txt K mg) : FnOk P w K mg base CX0 9 T.f_GreedySequence_beginning T.fd_GreedySequence_beginning ["self"] (sp_GreedySequence_beginning T) := by
  have nd := sc_GreedySequence_beginning.nd
  refine T.F_GreedySequence_beginning.ok sc_GreedySequence_beginning (fun vs H Q E h => ?_) (fun cdv A outer s H vs Q E hr h => ?_)
  · obtain ⟨a, d, S, L, rfl, _⟩ := h
    rfl
  · obtain ⟨a, d, S, L, rfl, go, q⟩ := h
    obtain ⟨ts, tm, ms, c, g, gm⟩ := id go
    obtain ⟨dx, ea⟩ := gm.obj
    refine ⟨_, (pss_one (ps_ret (pe_meth (pv 0) T.c_GreedySequence T.me_GreedySequence_first (ok_GreedySequence_first T) (hr.mono (by decide)) T.b_GreedySequence_first .nil pass0 (pa_cons (pe_con (pv 0) rfl) pa_nil)))), ?_⟩
    exact ⟨_, rfl, a, dx, _, rfl, ea, rfl, _, rfl, a, _, dx, _, _, _, rfl, ea, T.c_GreedySequence, T.ic_GreedySequence_MAX_START, rfl, a, d, S, L, 40, rfl, go, q⟩
end
end K14

namespace K14
open PySem PySem.Spec PyProof.Rows L2 TM TF GS
/-- tuples of two numbers, one behind the other -/
def PrA (H : Hp) : List Addr → List (Nat × Nat) → Prop
  | [], [] => True
  | t :: ts, p :: l => H t = some (.tup [vn p.1, vn p.2]) ∧ PrA H ts l
  | _, _ => False
theorem PrA.mono {H H' : Hp} (s : ∀ (t : Addr) (xs : List V), H t = some (.tup xs) → H' t = some (.tup xs)) : ∀ {ts : List Addr} {l : List (Nat × Nat)}, PrA H ts l → PrA H' ts l
  | [], [], _ => trivial
  | _ :: _, _ :: _, ⟨a, b⟩ => ⟨s _ _ a, PrA.mono s b⟩
  | [], _ :: _, z => z.elim
  | _ :: _, [], z => z.elim
theorem PrA.snoc {H : Hp} {u : Addr} {q : Nat × Nat} (h : H u = some (.tup [vn q.1, vn q.2])) : ∀ {ts : List Addr} {l : List (Nat × Nat)}, PrA H ts l → PrA H (ts ++ [u]) (l ++ [q])
  | [], [], _ => ⟨h, trivial⟩
  | _ :: _, _ :: _, ⟨a, b⟩ => ⟨a, PrA.snoc h b⟩
  | [], _ :: _, z => z.elim
  | _ :: _, [], z => z.elim
theorem PrA.len {H : Hp} : ∀ {ts : List Addr} {l : List (Nat × Nat)}, PrA H ts l → ts.length = l.length
  | [], [], _ => rfl
  | _ :: _, _ :: _, ⟨_, b⟩ => congrArg (· + 1) (PrA.len b)
  | [], _ :: _, z => z.elim
  | _ :: _, [], z => z.elim
section
variable {P : Program} {w : World} {K : PySem.W.Frag} {mg : Str → Option Value} {base : Heap}
def sp_GreedySequence_covering_pairs (T : Txt K mg) : Sp := fun vs H Q _ => ∃ (a d : Addr) (S : List Nat) (L x : Nat), vs = [.ref a, vn x] ∧ GO H T.C_GreedySequence a d S L ∧
  ∀ H' p ts, Bt2 a d H H' → GO H' T.C_GreedySequence a d S L → H' p = some (.lst (ts.map V.ref)) → PrA H' ts (cvl (gl S L 2000) x) → Q (.ref p) H'
theorem ok_GreedySequence_covering_pairs (T : Txt K mg) : FnOk P w K mg base CX0 11 T.f_GreedySequence_covering_pairs T.fd_GreedySequence_covering_pairs ["self", "x"] (sp_GreedySequence_covering_pairs T) := by
  have nd := sc_GreedySequence_covering_pairs.nd
  refine T.F_GreedySequence_covering_pairs.ok sc_GreedySequence_covering_pairs (fun vs H Q E h => ?_) (fun cdv A outer s H vs Q E hr h => ?_)
  · obtain ⟨a, d, S, L, x, rfl, _⟩ := h
    rfl
  · obtain ⟨a, d, S, L, x, rfl, go, q⟩ := h
    refine ⟨_, (pss_cons (ps_set (i := 2) nd rfl (.inl rfl) (pe_meth (pv 0) T.c_GreedySequence T.me_GreedySequence_known (ok_GreedySequence_known T) (hr.mono (by decide)) T.b_GreedySequence_known .nil pass0 (pa_cons (pv 1) (pa_cons pe_int pa_nil))))
      (pss_cons (ps_set (i := 3) nd rfl (.inr rfl) (pe_fld (pv 0) rfl))
      (pss_one (ps_ret (pe_lc (own := [("y", 4)]) (g := gName 4) (tt := _) rfl nd (pi_tup (pv 2)) (blkOk_by (own := [("y", 4)]) (N := N_GreedySequence_covering_pairs) (sc := defScope s_GreedySequence_covering_pairs) (by decide +kernel)) (fun _ _ _ _ _ => pg_name (i := 4) nd rfl (Or.inl rfl)) (fun _ _ _ _ _ => (pts_one (PW.pt (pw_and (pt_cmpR op_lt (pv 4) (pv 1) (nomark _)) (pw_and (pt_cmpR op_eq (pe_op nAnd (pe_op nAdd (pv 4) (pv 1)) pe_int) pe_int (nomark _)) (pw_and1 (pt_cmp (pc_din (hu_of hr) (pe_op nDiv (pe_op nAdd (pv 4) (pv 1)) pe_int) (pv 3))))))))) (fun _ _ _ _ _ => (pe_tup (pa_cons (pv 4) (pa_cons (pe_op nDiv (pe_op nAdd (pv 4) (pv 1)) pe_int) pa_nil))))))))), ?_⟩
    obtain ⟨ts0, tm0, ms0, c0, g0, gm0⟩ := id go
    obtain ⟨dx0, ea0⟩ := gm0.obj
    refine ⟨_, rfl, a, dx0, _, rfl, ea0, rfl, _, rfl, a, d, S, L, x, 0, rfl, go, fun H1 ts tm ms c g b1 gm dn => ?_⟩
    obtain ⟨dx, ea⟩ := gm.obj
    have hml : (ms.map vn).length = ms.length := List.length_map ..
    have hms : ms.length ≤ 2040 := by
      obtain ⟨t, ht, e⟩ := gm.at_
      have h1 := gl_len_le S L t
      have h2 := gm.l40
      rw [e]
      omega
    refine ⟨_, rfl, a, _, dx, _, _, rfl, ea, T.c_GreedySequence, T.n_GreedySequence_present, rfl, ?_⟩
    refine ⟨_, rfl, tm, rfl, ⟨_, SqT.of gm.hm⟩, fun D hD => ?_⟩
    let f : Nat → Bool := fun y => decide (y < x ∧ (y + x) % 2 = 0 ∧ (y + x) / 2 ∈ ms)
    refine lc_it (walk_tup (xs := ms.map vn)) (fun i H' => Same H1 H' ∧ ∃ us : List Addr, H' D = some (.lst (us.map V.ref)) ∧ PrA H' us (((ms.take i).filter f).map fun y => (y, (y + x) / 2))) ⟨same_new hD, [], upd_same, trivial⟩ (fun i H' _ h => SqT.of (h.1 _ _ gm.hm)) ?_ ?_
    · rintro i v H2 H3 hi ⟨s2, us, eD, pr⟩ ⟨rfl, hx⟩
      obtain ⟨y, hy, gy, rfl⟩ := vn_at hx
      rw [hml] at hi
      have et : (ms.take (i + 1)).filter f = (ms.take i).filter f ++ (if f y = true then [y] else []) := by
        rw [List.take_succ, gy, List.filter_append]
        by_cases h : f y = true <;> simp [h]
      have no : f y = false → ∃ us : List Addr, H3 D = some (.lst (us.map V.ref)) ∧ PrA H3 us (((ms.take (i + 1)).filter f).map fun y => (y, (y + x) / 2)) := fun h => by
        rw [if_neg (by rw [h]; decide), List.append_nil] at et
        exact ⟨us, eD, by rw [et]; exact pr⟩
      refine ⟨rfl, _, rfl, _, rfl, _, _, rfl, rfl, _, rfl, ite2 (fun c1 => ?_) (fun c1 => iteF ⟨s2, no ?_⟩)⟩
      rotate_left
      · exact decide_eq_false fun z => c1 (decide_eq_true (by have := z.1; omega))
      have h1 : y < x := by
        have : (y : Int) < (x : Int) := of_decide_eq_true c1
        omega
      refine ⟨_, rfl, _, rfl, y, x, rfl, rfl, trivial, y + x, 1, rfl, rfl, trivial, rfl, _, rfl, ite2 (fun c2 => ?_) (fun c2 => iteF ⟨s2, no ?_⟩)⟩
      rotate_left
      · refine decide_eq_false fun z => c2 (decide_eq_true ?_)
        show vn ((y + x) &&& 1) = V.int 0
        rw [Nat.and_one_is_mod, z.2.1]
        rfl
      have h2 : (y + x) % 2 = 0 := by
        have e : vn ((y + x) &&& 1) = V.int 0 := of_decide_eq_true c2
        rw [Nat.and_one_is_mod] at e
        have := V.int.inj e
        omega
      refine ⟨_, rfl, _, rfl, y, x, rfl, rfl, trivial, y + x, 2, rfl, rfl, ⟨by decide, by decide⟩, _, rfl, d, _, rfl, DGet.k (k := Sum.inl (((y + x) / 2 : Nat) : Int)) (s2 _ _ gm.hd), _, rfl, ?_⟩
      rw [presK_val]
      by_cases h3 : (y + x) / 2 ∈ ms
      · rw [decide_eq_true h3]
        have hf : f y = true := decide_eq_true ⟨h1, h2, h3⟩
        rw [if_pos hf] at et
        refine iteT ⟨_, rfl, _, rfl, _, rfl, y, x, rfl, rfl, trivial, y + x, 2, rfl, rfl, ⟨by decide, by decide⟩, (by show 2 ≤ sizeLine; decide), fun u hu => ?_⟩
        have s4 := same_new (o := .tup [vn y, vn ((y + x) / 2)]) hu
        have e4 : upd H3 u (.tup [vn y, vn ((y + x) / 2)]) u = some (.tup [vn y, vn ((y + x) / 2)]) := upd_same
        have eD4 := s4 _ _ eD
        have pr4 := pr.mono (H' := upd H3 u (.tup [vn y, vn ((y + x) / 2)])) fun t xs e => s4 _ _ e
        generalize upd H3 u (.tup [vn y, vn ((y + x) / 2)]) = H4 at s4 e4 eD4 pr4 ⊢
        have pl := pr.len
        rw [List.length_map] at pl
        have fl := List.length_filter_le f (ms.take i)
        rw [List.length_take] at fl
        refine ⟨_, eD4, small_lt (b := 3000) (by rw [List.length_map]; omega), Same.mut (Same.trans s2 s4) hD, us ++ [u], ?_, ?_⟩
        · rw [upd_same, List.map_append]
          rfl
        · rw [et, List.map_append]
          exact (PrA.snoc (q := (y, (y + x) / 2)) e4 pr4).mono fun t xs e => by rw [upd_ne (ne_of e eD4 (fun z => nomatch z))]; exact e
      · rw [decide_eq_false h3]
        exact iteF ⟨s2, no (decide_eq_false fun z => h3 z.2.2)⟩
    · rintro H2 ⟨s2, us, eD, pr⟩
      rw [hml, List.take_length] at pr
      have e := Done.cvl gm.st gm.at_ dn
      exact q H2 D us (Bt2.same b1 s2) ⟨ts, tm, ms, c, g, gm.same s2⟩ eD (by rw [← e]; exact pr)
/-! ### the pairs, handed out one by one -/
def spg_coverings (T : Txt K mg) : SpG := fun vs H cont _ => ∃ (a d : Addr) (S : List Nat) (L x : Nat), vs = [.ref a, vn x] ∧ GO H T.C_GreedySequence a d S L ∧ x ≤ L + 2000 ∧
  ∀ H' ts, Bt2 a d H H' → GO H' T.C_GreedySequence a d S L → PrA H' ts (cvl (gl S L 2000) x) → cont (ts.map V.ref) H'
theorem ok_coverings (T : Txt K mg) : GFn P w K mg base 14 T.f_GreedySequence_coverings T.fd_GreedySequence_coverings ["self", "x"] (spg_coverings T) := by
  have nd := sc_GreedySequence_coverings.nd
  refine gfn_ok T.F_GreedySequence_coverings sc_GreedySequence_coverings (fun vs H Q E h => ?_) (fun cdv A outer s H vs Q E pn hr h => ?_)
  · obtain ⟨a, d, S, L, x, rfl, _⟩ := h
    rfl
  · obtain ⟨a, d, S, L, x, rfl, go, hx, q⟩ := h
    refine ⟨_, (gss_cons (gs_ps (ps_expr (pe_meth (pv 0) T.c_GreedySequence T.me_GreedySequence_check_reach (ok_GreedySequence_check_reach T) (hr.mono (by decide)) T.b_GreedySequence_check_reach .nil pass0 (pa_cons (pv 1) pa_nil))))
      (gss_cons (gs_for owns_gcx rfl (pi_list (pe_meth (pv 0) T.c_GreedySequence T.me_GreedySequence_covering_pairs (ok_GreedySequence_covering_pairs T) (hr.mono (by decide)) T.b_GreedySequence_covering_pairs .nil pass0 (pa_cons (pv 1) pa_nil))) (pg_name (i := 2) nd rfl (.inl rfl)) (gss_cons (gs_yield (pv 2)) gss_nil)) gss_nil)), ?_⟩
    obtain ⟨ts0, tm0, ms0, c0, g0, gm0⟩ := id go
    obtain ⟨dx0, ea0⟩ := gm0.obj
    refine ⟨_, rfl, a, dx0, _, rfl, ea0, rfl, _, rfl, a, d, S, L, x, rfl, go, hx, ?_⟩
    refine ⟨_, rfl, a, dx0, _, rfl, ea0, rfl, _, rfl, a, d, S, L, x, rfl, go, fun H1 p us b1 go1 ep pr => ?_⟩
    refine ⟨p, rfl, ⟨_, SqL.of ep⟩, ?_⟩
    have pl := pr.len
    have hl : us.length ≤ 2040 := by
      have h1 := gl_len_le S L 2000
      have h2 := gm0.l40
      have h3 : (cvl (gl S L 2000) x).length ≤ (gl S L 2000).length := by
        unfold cvl
        rw [List.length_map]
        exact List.length_filter_le _ _
      omega
    refine ⟨fun j m ys σ H' => m = us.length - j ∧ j ≤ us.length ∧ ys = (us.take j).map V.ref ∧ H' = H1 ∧ ∃ y2 : Option V, σ = [some (.ref a), some (vn x), y2], ⟨_, rfl, Nat.zero_le _, rfl, rfl, none, rfl⟩, ?_⟩
    rintro j m ys σ H' ⟨rfl, hj, rfl, rfl, y2, rfl⟩
    rcases Nat.lt_or_ge j us.length with hlt | hge
    · refine .inr ⟨⟨us.map V.ref, .ref us[j], SqL.of ep, by rw [List.getElem?_map, List.getElem?_eq_getElem hlt]; rfl⟩, fun ys' σ' H2 => ys' = (us.take (j + 1)).map V.ref ∧ H2 = H' ∧ ∃ y2 : Option V, σ' = [some (.ref a), some (vn x), y2], fun ys' σ' H2 ⟨h1, h2, h3⟩ => ⟨us.length - (j + 1), by omega, rfl, hlt, h1, h2, h3⟩, ?_⟩
      rintro v H2 ⟨rfl, hv⟩
      have ev := hv _ (SqL.of ep)
      rw [List.getElem?_map, List.getElem?_eq_getElem hlt] at ev
      cases ev
      refine ⟨?_, _, rfl, ?_, rfl, _, rfl⟩
      · rw [List.length_map, List.length_take]
        exact small_lt (b := 3000) (by omega)
      · rw [List.take_succ, List.getElem?_eq_getElem hlt, List.map_append]
        rfl
    · have : j = us.length := by omega
      subst this
      refine .inl ⟨⟨us.map V.ref, SqL.of ep, by rw [List.length_map]; exact Nat.le_refl _⟩, ?_⟩
      rw [List.take_length]
      exact q H' us b1 go1 pr
end
end K14

namespace K14
open PySem PySem.Spec PyProof.Rows L2 TM TF
/-! ### the draws -/
def kS (x : Str) : Key := Sum.inr x
/-- a source of draws: its cells, its turn, what is left -/
def SrcD (H : Hp) (p : Addr) (a : Nat) : Prop := ∃ (cl : Addr) (cl0 : List Int) (rf : Nat), H p = some (.dK [(kS "cells", .ref cl), (kS "turn", vn a), (kS "rest", vn rf)]) ∧ H cl = some (.lst (cl0.map V.int)) ∧ 0 < cl0.length ∧ cl0.length ≤ 64
theorem SrcD.same {H H' : Hp} {p : Addr} {a : Nat} (s : Same H H') : SrcD H p a → SrcD H' p a := fun ⟨cl, l, rf, h1, h2, h3, h4⟩ => ⟨cl, l, rf, s _ _ h1, s _ _ h2, h3, h4⟩
theorem SrcD.dict {H : Hp} {p : Addr} {a : Nat} : SrcD H p a → ∃ kvs, H p = some (.dK kvs) := fun ⟨_, _, _, h, _⟩ => ⟨_, h⟩
theorem ints_of : ∀ (L : List V), (∀ x ∈ L, ∃ z, x = V.int z) → ∃ l : List Int, L = l.map V.int
  | [], _ => ⟨[], rfl⟩
  | x :: r, h => by
    obtain ⟨z, rfl⟩ := h x List.mem_cons_self
    obtain ⟨l, rfl⟩ := ints_of r fun y hy => h y (List.mem_cons_of_mem _ hy)
    exact ⟨z :: l, rfl⟩
theorem cut_mem {xs : List V} {lo hi : Option Int} {x : V} (h : x ∈ cutV xs lo hi) : x ∈ xs := List.mem_of_mem_drop (List.mem_of_mem_take h)
theorem cut_pos {xs : List V} {i : Nat} (h : i < xs.length) : 0 < (cutV xs (some (i : Int)) none).length := by
  rw [cut_from, List.length_drop]
  omega
theorem lst_ne {H : Hp} {a b : Addr} {l : List Int} {ts : List Addr} (h1 : H a = some (.lst (l.map V.int))) (h0 : 0 < l.length) (h2 : H b = some (.lst (ts.map V.ref))) : a ≠ b := by
  refine ne_of h1 h2 fun z => ?_
  have z2 := HO.lst.inj z
  cases l with
  | nil => exact absurd h0 (by decide)
  | cons x r =>
    cases ts with
    | nil => cases z2
    | cons t s => exact nomatch (List.cons.inj z2).1
section
variable {P : Program} {w : World} {K : PySem.W.Frag} {mg : Str → Option Value} {base : Heap}
def sp_l_pick (K : PySem.W.Frag) : Sp := fun vs H Q _ => ∃ (p : Addr) (c a : Nat), vs = [.ref p, vn c] ∧ 0 < c ∧ c < 2 ^ 60 ∧ SrcD H p a ∧ a ≤ 200000 ∧ ∀ H' r, r < c → But p H H' → SrcD H' p (a + 1) → Q (vn r) H'
theorem ok_l_pick (T : Txt K mg) : FnOk P w K mg base CX0 1 T.f_l_pick T.fd_l_pick ["source", "many"] (sp_l_pick K) := by
  have nd := sc_l_pick.nd
  refine T.F_l_pick.ok sc_l_pick (fun vs H Q E h => ?_) (fun cdv A outer s H vs Q E hr h => ?_)
  · obtain ⟨p, c, a, rfl, _⟩ := h
    rfl
  · obtain ⟨p, c, a, rfl, c0, c60, ⟨cl, l, lf, e1, e2, l0, l64⟩, ha, q⟩ := h
    refine ⟨_, (pss_cons (ps_dput (hu_of hr) (pv 0) pe_str (pe_op nAdd (pe_dget (hu_of hr) (pv 0) pe_str (fun _ _ => rfl)) pe_int) rfl)
      (pss_cons (ps_if (pt_cmpR op_gt (pe_dget (hu_of hr) (pv 0) pe_str (fun _ _ => rfl)) pe_int (nomark _)) (pss_cons (ps_set (i := 2) nd rfl (.inl rfl) (pe_op nMod (pe_dget (hu_of hr) (pv 0) pe_str (fun _ _ => rfl)) (pv 1)))
      (pss_cons (ps_dput (hu_of hr) (pv 0) pe_str (pe_op nDiv (pe_dget (hu_of hr) (pv 0) pe_str (fun _ _ => rfl)) (pv 1)) rfl)
      (pss_one (ps_ret (pv 2))))) pss_nil)
      (pss_cons (ps_par (i := 3) (j := 4) (by rfl) nd rfl rfl (by decide) rfl rfl (pa_cons (pe_dget (hu_of hr) (pv 0) pe_str (fun _ _ => rfl)) (pa_cons (pe_dget (hu_of hr) (pv 0) pe_str (fun _ _ => rfl)) pa_nil)) (by rfl))
      (pss_cons (ps_set (i := 5) nd rfl (.inl rfl) (pe_op nAdd (pe_op op_modN (pe_op op_add (pe_ix (ix_listK K) (pv 4) (pe_op nMod (pv 3) (pe_callB call_len_seq (by rfl) T.m_len PySem.boot_len (pa_cons (pv 4) pa_nil))) (fun _ _ => rfl)) (pe_op nMul pe_int (pv 3))) pe_int) (pe_op nMul (pe_op nMul pe_int (pv 3)) (pv 3))))
      (pss_cons (ps_set (i := 5) nd rfl (.inl rfl) (pe_op nMod (pe_op nMul (pe_op nMod (pv 5) pe_int) (pe_op nAdd (pv 3) pe_int)) pe_int))
      (pss_one (ps_ret (pe_op nMod (pe_op nDiv (pe_op nMod (pe_op nMul (pv 5) (pv 5)) pe_int) pe_int) (pv 1))))))))), ?_⟩
    have hcp : cl ≠ p := ne_of e2 e1 (by intro z; cases z)
    refine ⟨_, rfl, p, _, rfl, DGet.k (k := kS "turn") e1, a, 1, rfl, rfl, trivial, _, rfl, p, _, rfl, DPut.k (k := kS "turn") e1 (by show 3 < sizeLine; decide), ?_⟩
    have b1 : But p H (upd H p (.dK (putK [(kS "cells", .ref cl), (kS "turn", vn a), (kS "rest", vn lf)] (kS "turn") (vn (a + 1))))) := But.upd (But.refl p H)
    have x1 : upd H p (.dK (putK [(kS "cells", .ref cl), (kS "turn", vn a), (kS "rest", vn lf)] (kS "turn") (vn (a + 1)))) p = some (.dK [(kS "cells", .ref cl), (kS "turn", vn (a + 1)), (kS "rest", vn lf)]) := upd_same
    generalize upd H p (.dK (putK [(kS "cells", .ref cl), (kS "turn", vn a), (kS "rest", vn lf)] (kS "turn") (vn (a + 1)))) = H1 at b1 x1 ⊢
    have y1 := b1 _ _ hcp e2
    refine ⟨_, rfl, p, _, rfl, DGet.k (k := kS "rest") x1, _, _, rfl, rfl, _, rfl, ite2 (fun z => ?_) (fun z => ?_)⟩
    · refine ⟨_, rfl, p, _, rfl, DGet.k (k := kS "rest") x1, _, rfl, lf, c, rfl, rfl, c0, ?_⟩
      refine ⟨_, rfl, p, _, rfl, DGet.k (k := kS "rest") x1, _, rfl, lf, c, rfl, rfl, ⟨c0, pow_up c60 (by decide)⟩, _, rfl, p, _, rfl, DPut.k (k := kS "rest") x1 (by show 3 < sizeLine; decide), ?_⟩
      refine ⟨_, rfl, q _ _ (Nat.mod_lt _ c0) (But.upd b1) ⟨cl, l, lf / c, ?_, ?_, l0, l64⟩⟩
      · rw [upd_same]
        rfl
      · rw [upd_ne hcp]; exact y1
    · generalize ha1 : a + 1 = a1 at x1 q ⊢
      refine ⟨_, rfl, p, _, rfl, DGet.k (k := kS "turn") x1, _, rfl, p, _, rfl, DGet.k (k := kS "cells") x1, _, _, rfl, ?_⟩
      have b18 : a1 < 2 ^ 18 := by
        have : (2 : Nat) ^ 18 = 262144 := by decide
        omega
      have m1 : 65537 * a1 < 2 ^ 35 := by omega
      have m2 : 65537 * a1 * a1 < 2 ^ 53 := by
        have := Nat.mul_lt_mul'' m1 b18
        have e : (2 : Nat) ^ 35 * 2 ^ 18 = 2 ^ 53 := by decide
        omega
      have hget : ∃ z, l[a1 % l.length]? = some z := ⟨_, List.getElem?_eq_getElem (Nat.mod_lt _ l0)⟩
      obtain ⟨z0, hz0⟩ := hget
      obtain ⟨m, hm, hm2⟩ : ∃ m : Nat, (z0 + ((1009 * a1 : Nat) : Int)).fmod 2147483647 = (m : Int) ∧ m < 2147483647 := by
        have h1 := Int.fmod_nonneg_of_pos (z0 + ((1009 * a1 : Nat) : Int)) (show (0 : Int) < 2147483647 by decide)
        have h2 := Int.fmod_lt_of_pos (z0 + ((1009 * a1 : Nat) : Int)) (show (0 : Int) < 2147483647 by decide)
        exact ⟨((z0 + ((1009 * a1 : Nat) : Int)).fmod 2147483647).toNat, by omega, by omega⟩
      refine ⟨_, rfl, _, rfl, _, rfl, cl, _, rfl, .inl (SqL.of y1), a1, l.length, rfl, congrArg (fun n : Nat => V.int (n : Int)) (List.length_map ..), l0, cl, _, _, _, rfl, rfl, SqL.of y1, atI_nat (by rw [List.getElem?_map, hz0]; rfl), _, rfl, 1009, a1, rfl, rfl, ⟨20, 20, by decide, pow_up b18 (by decide), by decide, by decide, by decide⟩, _, _, rfl, rfl, _, _, rfl, rfl, (by show (2147483647 : Int) ≠ 0; decide), ?_⟩
      refine ⟨_, rfl, 65537, a1, rfl, rfl, ⟨20, 20, by decide, pow_up b18 (by decide), by decide, by decide, by decide⟩, _, rfl, 65537 * a1, a1, rfl, rfl, ⟨36, 20, pow_up m1 (by decide), pow_up b18 (by decide), by decide, by decide, by decide⟩, m, 65537 * a1 * a1, congrArg V.int hm, rfl, trivial, ?_⟩
      have h5 : (m + 65537 * a1 * a1) % 2147483647 < 2 ^ 31 := Nat.lt_trans (Nat.mod_lt _ (by decide)) (by decide)
      refine ⟨_, rfl, m + 65537 * a1 * a1, 2147483647, rfl, rfl, Nat.succ_pos _, _, rfl, a1, 48271, rfl, rfl, trivial, (m + 65537 * a1 * a1) % 2147483647, a1 + 48271, rfl, rfl, ⟨31, 20, h5, by omega, by decide, by decide, by decide⟩, _, 2147483629, rfl, rfl, Nat.succ_pos _, ?_⟩
      have h6 : (m + 65537 * a1 * a1) % 2147483647 * (a1 + 48271) % 2147483629 < 2 ^ 31 := Nat.lt_trans (Nat.mod_lt _ (by decide)) (by decide)
      obtain ⟨v, hv⟩ : ∃ v, (m + 65537 * a1 * a1) % 2147483647 * (a1 + 48271) % 2147483629 = v := ⟨_, rfl⟩
      rw [hv] at h6
      refine ⟨_, rfl, _, rfl, v, v, congrArg vn hv, congrArg vn hv, ⟨31, 31, h6, h6, by decide, by decide, by decide⟩, v * v, 2147483647, rfl, rfl, Nat.succ_pos _, v * v % 2147483647, 5, rfl, rfl, ⟨Nat.succ_pos _, by decide⟩, _, rfl, v * v % 2147483647 / 5, c, rfl, rfl, c0, ?_⟩
      exact q _ _ (Nat.mod_lt _ c0) b1 ⟨cl, l, lf, x1, y1, l0, l64⟩
/-! ### the sources -/
def sp_l_sources (K : PySem.W.Frag) : Sp := fun vs H Q _ => ∃ (a : Addr) (ns : List Int), vs = [.ref a] ∧ SqL K H a (ns.map V.int) ∧ ns.length ≤ 63 ∧
  ∀ (H' : Hp) (p : Addr) (ts : List Addr), H' p = some (.lst (ts.map V.ref)) → ts.length ≤ 3 → ts.Nodup → (∀ t ∈ ts, ∃ a0, a0 ≤ 1000 ∧ SrcD H' t a0) → Q (.ref p) H'
theorem ok_l_sources (T : Txt K mg) : FnOk P w K mg base CX0 1 T.f_l_sources T.fd_l_sources ["script"] (sp_l_sources K) := by
  have nd := sc_l_sources.nd
  refine T.F_l_sources.ok sc_l_sources (fun vs H Q E h => ?_) (fun cdv A outer s H vs Q E hr h => ?_)
  · obtain ⟨a, ns, rfl, _⟩ := h
    rfl
  · obtain ⟨a, ns, rfl, hS, hlen, q⟩ := h
    refine ⟨_, (pss_cons (ps_par (i := 1) (j := 2) (by rfl) nd rfl rfl (by decide) rfl rfl (pa_cons (pe_ifExp (pt_cmpR op_gt (pe_callB call_len_seq (by rfl) T.m_len PySem.boot_len (pa_cons (pv 0) pa_nil)) pe_int (nomark _)) (pe_callTy call_list_of (by rfl) T.m_list (by decide +kernel) (pa_cons (pv 0) pa_nil)) (pe_lst (pa_cons pe_int pa_nil))) (pa_cons (pe_lst pa_nil) pa_nil)) (by rfl))
      (pss_cons (ps_for PassesOwn.never rfl (pi_range1 rfl T.m_range (pa_cons (pe_callB (call_min2 rfl) (by rfl) T.m_min (by decide +kernel) (pa_cons pe_int (pa_cons (pe_callB call_len_seq (by rfl) T.m_len PySem.boot_len (pa_cons (pv 1) pa_nil)) pa_nil))) pa_nil)) (pg_name (i := 3) nd rfl (.inl rfl)) (pss_cons (ps_set (i := 4) nd rfl (.inl rfl) (pe_ifExp (pt_cmpR op_ge (pe_ix (ix_listK K) (pv 1) (pv 3) (fun _ _ => rfl)) (pe_op op_pow pe_int pe_int) (nomark _)) (pe_ix (ix_listK K) (pv 1) (pv 3) (fun _ _ => rfl)) pe_int))
      (pss_one (ps_expr (pe_bm PySem.F.plainAttrs_list PySem.F.slot_list_append PySem.F.type_list_append mt_append (pv 2) (pa_cons (pe_disp (pps_cons pe_str (pe_op op_catS (pe_slice (sl_listK K) (pv 1) (po_some (pv 3)) po_none) (pe_slice (sl_listK K) (pv 1) po_none (po_some (pv 3)))) (pps_cons pe_str (pe_op nMul pe_int (pv 3)) (pps_cons pe_str (pv 4) pps_nil))) rfl rfl (by decide) (by decide)) pa_nil))))))
      (pss_one (ps_ret (pv 2))))), ?_⟩
    have hnl : (ns.map V.int).length = ns.length := List.length_map ..
    refine ⟨_, rfl, a, _, rfl, .inl hS, ?_⟩
    rw [hnl]
    refine ⟨_, _, rfl, rfl, _, rfl, ite2 (fun z => ?a) (fun z => ?b)⟩
    case' a =>
      refine ⟨_, rfl, a, _, rfl, .inl hS, fun cl hcl => ?_⟩
      obtain ⟨cl0, e2, l0, l63⟩ : ∃ cl0 : List Int, upd H cl (.lst (ns.map V.int)) cl = some (.lst (cl0.map V.int)) ∧ 0 < cl0.length ∧ cl0.length ≤ 63 := by
        refine ⟨ns, upd_same, ?_, hlen⟩
        have h1 : (0 : Int) < ((ns.length : Nat) : Int) := of_decide_eq_true z
        omega
      generalize upd H cl (.lst (ns.map V.int)) = H2 at e2 ⊢
    case' b =>
      refine ⟨(by show 1 ≤ sizeLine; decide), fun cl hcl => ?_⟩
      obtain ⟨cl0, e2, l0, l63⟩ : ∃ cl0 : List Int, upd H cl (.lst [V.int 0]) cl = some (.lst (cl0.map V.int)) ∧ 0 < cl0.length ∧ cl0.length ≤ 63 := ⟨[0], upd_same, by decide, by decide⟩
      generalize upd H cl (.lst [V.int 0]) = H2 at e2 ⊢
    all_goals
      refine ⟨(by show 0 ≤ sizeLine; decide), fun f hf => ?_⟩
      have e3 := same_new (o := .lst []) hf _ _ e2
      have hfc : cl ≠ f := ne_of_none e2 hf
      have ef : upd H2 f (.lst []) f = some (.lst (([] : List Addr).map V.ref)) := upd_same
      generalize upd H2 f (.lst []) = H3 at e3 ef ⊢
      have hcl : (cl0.map V.int).length = cl0.length := List.length_map ..
      obtain ⟨tn, htn, htn3, htl⟩ : ∃ tn : Nat, (if (((cl0.map V.int).length : Nat) : Int) < 3 then (((cl0.map V.int).length : Nat) : Int) else 3) = (tn : Int) ∧ tn ≤ 3 ∧ tn ≤ cl0.length := by
        rw [hcl]
        by_cases z : ((cl0.length : Nat) : Int) < 3
        · rw [if_pos z]; exact ⟨cl0.length, rfl, by omega, Nat.le_refl _⟩
        · rw [if_neg z]; exact ⟨3, rfl, by omega, by omega⟩
      refine ⟨_, _, rfl, _, rfl, cl, _, rfl, .inl (SqL.of e3), _, _, rfl, (tn : Int), congrArg (fun z => [V.int z]) htn, by omega, by omega, ?_⟩
      refine for_it (walk_range (lo := 0) (n := ((tn : Int)).toNat)) (fun i σ H' => ∃ (ts : List Addr) (y3 y4 : Option V), σ = [some (.ref a), some (.ref cl), some (.ref f), y3, y4] ∧ H' cl = some (.lst (cl0.map V.int)) ∧ H' f = some (.lst (ts.map V.ref)) ∧ ts.length = i ∧ ts.Nodup ∧ ∀ t ∈ ts, ∃ a0, a0 ≤ 1000 ∧ SrcD H' t a0)
        ⟨[], none, none, rfl, e3, ef, rfl, .nil, fun t ht => nomatch ht⟩ (fun _ _ _ _ _ => trivial) ?_ ?_
      · rintro i x σ H5 H6 hi ⟨ts, y3, y4, rfl, g2, g3, g4, gn, g5⟩ ⟨rfl, rfl⟩
        rw [Int.toNat_natCast] at hi
        have ei : V.int (0 + (i : Int)) = vn i := congrArg V.int (Int.zero_add _)
        show gName 3 (V.int (0 + (i : Int))) _ _ _
        rw [ei]
        have hic : i < cl0.length := by omega
        obtain ⟨z0, hz0⟩ : ∃ z, cl0[i]? = some z := ⟨_, List.getElem?_eq_getElem hic⟩
        have hat : atI (cl0.map V.int) ((i : Nat) : Int) = some (.int z0) := atI_nat (by rw [List.getElem?_map, hz0]; rfl)
        refine ⟨_, rfl, _, rfl, cl, _, _, _, rfl, rfl, SqL.of g2, hat, _, _, rfl, rfl, ⟨by decide, by decide, by decide⟩, _, _, rfl, rfl, _, rfl, ite2 (fun c => ?_) (fun c => ?_)⟩
        all_goals first
          | (refine ⟨_, rfl, _, rfl, cl, _, _, _, rfl, rfl, SqL.of g2, hat, ?_⟩
             have c2 : (10 : Int) ^ (18 : Int).toNat ≤ z0 := of_decide_eq_true c
             obtain ⟨lf, hlf⟩ : ∃ lf : Nat, V.int z0 = vn lf := ⟨z0.toNat, by
               have : (0 : Int) ≤ (10 : Int) ^ (18 : Int).toNat := by decide
               show V.int z0 = V.int (z0.toNat : Int)
               rw [Int.toNat_of_nonneg (by omega)]⟩
             rw [hlf])
          | (obtain ⟨lf, hlf⟩ : ∃ lf : Nat, V.int 0 = vn lf := ⟨0, rfl⟩
             show gName 4 (V.int 0) _ _ _
             rw [hlf])
        all_goals
          refine ⟨_, rfl, .inl ⟨rfl, _, SqL.of g3⟩, fun D hD => ?_⟩
          have s7 := same_new (o := .dK []) hD
          have d7 : upd H6 D (.dK []) D = some (.dK []) := upd_same
          generalize upd H6 D (.dK []) = H7 at s7 d7 ⊢
          have cl7 := s7 _ _ g2
          refine ⟨_, rfl, _, rfl, _, rfl, cl, _, rfl, SqL.of cl7, fun p1 n1 => ?_⟩
          have s8 := same_new (o := .lst (cutV (cl0.map V.int) (some (i : Int)) none)) n1
          have q1 : upd H7 p1 (.lst (cutV (cl0.map V.int) (some (i : Int)) none)) p1 = some (.lst (cutV (cl0.map V.int) (some (i : Int)) none)) := upd_same
          generalize upd H7 p1 (.lst (cutV (cl0.map V.int) (some (i : Int)) none)) = H8 at s8 q1 ⊢
          refine ⟨_, rfl, _, rfl, _, rfl, cl, _, rfl, SqL.of (s8 _ _ cl7), fun p2 n2 => ?_⟩
          have s9 := same_new (o := .lst (cutV (cl0.map V.int) none (some (i : Int)))) n2
          have q2 : upd H8 p2 (.lst (cutV (cl0.map V.int) none (some (i : Int)))) p2 = some (.lst (cutV (cl0.map V.int) none (some (i : Int)))) := upd_same
          have q19 := s9 _ _ q1
          generalize upd H8 p2 (.lst (cutV (cl0.map V.int) none (some (i : Int)))) = H9 at s9 q2 q19 ⊢
          have hll : (cutV (cl0.map V.int) (some (i : Int)) none ++ cutV (cl0.map V.int) none (some (i : Int))).length ≤ 64 ∧ 0 < (cutV (cl0.map V.int) (some (i : Int)) none ++ cutV (cl0.map V.int) none (some (i : Int))).length := by
            have h0 : 0 < (cutV (cl0.map V.int) (some (i : Int)) none).length := cut_pos (by rw [List.length_map]; omega)
            rw [List.length_append]
            refine ⟨?_, by omega⟩
            rw [cut_from, cut_to, List.length_drop, List.length_take, hcl]
            omega
          obtain ⟨cl1, hcl1⟩ := ints_of (cutV (cl0.map V.int) (some (i : Int)) none ++ cutV (cl0.map V.int) none (some (i : Int))) fun x hx => by
            rcases List.mem_append.mp hx with h | h <;> (obtain ⟨z, _, rfl⟩ := List.mem_map.mp (cut_mem h); exact ⟨z, rfl⟩)
          refine ⟨p1, p2, _, _, rfl, rfl, SqL.of q19, SqL.of q2, ?_, fun p3 n3 => ?_⟩
          · rw [← List.length_append]
            exact small_ok (b := 64) hll.1
          rw [hcl1, List.length_map] at hll
          rw [hcl1]
          have s10 := same_new (o := .lst (cl1.map V.int)) n3
          have q3 : upd H9 p3 (.lst (cl1.map V.int)) p3 = some (.lst (cl1.map V.int)) := upd_same
          have s610 := Same.trans s7 (Same.trans s8 (Same.trans s9 s10))
          have d10 := (Same.trans s8 (Same.trans s9 s10)) _ _ d7
          generalize upd H9 p3 (.lst (cl1.map V.int)) = H10 at s10 q3 s610 d10 ⊢
          refine ⟨_, rfl, 97, i, rfl, rfl, ⟨7, 20, by decide, by omega, by decide, by decide, by decide⟩, _, rfl, ?_⟩
          refine ⟨d10, [(kS "cells", .ref p3), (kS "turn", vn (97 * i)), (kS "rest", vn lf)], rfl, by show 3 ≤ 15; decide, ?_⟩
          have e11 : upd H10 D (.dK (mergeK [] [(kS "cells", .ref p3), (kS "turn", vn (97 * i)), (kS "rest", vn lf)])) D = some (.dK [(kS "cells", .ref p3), (kS "turn", vn (97 * i)), (kS "rest", vn lf)]) := upd_same
          have s11 : Same H6 (upd H10 D (.dK (mergeK [] [(kS "cells", .ref p3), (kS "turn", vn (97 * i)), (kS "rest", vn lf)]))) := Same.mut s610 hD
          have q11 : upd H10 D (.dK (mergeK [] [(kS "cells", .ref p3), (kS "turn", vn (97 * i)), (kS "rest", vn lf)])) p3 = some (.lst (cl1.map V.int)) := by rw [upd_ne (ne_of q3 d10 (by intro z; cases z))]; exact q3
          generalize upd H10 D (.dK (mergeK [] [(kS "cells", .ref p3), (kS "turn", vn (97 * i)), (kS "rest", vn lf)])) = H11 at e11 s11 q11 ⊢
          refine ⟨f, _, _, rfl, rfl, s11 _ _ g3, by rw [List.length_map]; exact small_lt (b := 64) (by omega), ⟨ts ++ [D], _, _, rfl, ?_⟩⟩
          have sf : ∀ b o, b ≠ f → H6 b = some o → upd H11 f (.lst (ts.map V.ref ++ [.ref D])) b = some o := fun b o hb e => by rw [upd_ne hb]; exact s11 _ _ e
          have hfc2 : cl ≠ f := lst_ne g2 l0 g3
          have sd : ∀ t a0, SrcD H11 t a0 → H11 f = some (.lst (ts.map V.ref)) → SrcD (upd H11 f (.lst (ts.map V.ref ++ [.ref D]))) t a0 := fun t a0 ⟨c1, l1, lf1, h1, h2, h3, h4⟩ h5 =>
            ⟨c1, l1, lf1, by rw [upd_ne (ne_of h1 h5 (by intro z; cases z))]; exact h1, by rw [upd_ne (lst_ne h2 h3 h5)]; exact h2, h3, h4⟩
          refine ⟨sf _ _ hfc2 g2, by rw [upd_same, List.map_append]; rfl, by rw [List.length_append, g4]; rfl, List.nodup_append.mpr ⟨gn, List.nodup_cons.mpr ⟨List.not_mem_nil, .nil⟩, fun u hu v hv => ?_⟩, fun t ht => ?_⟩
          · obtain rfl := List.mem_singleton.mp hv
            obtain ⟨a0, _, ⟨_, _, _, h1, _⟩⟩ := g5 u hu
            exact ne_of_none h1 hD
          rcases List.mem_append.mp ht with ht | ht
          · obtain ⟨a0, h0, sa⟩ := g5 t ht
            exact ⟨a0, h0, sd t a0 (sa.same s11) (s11 _ _ g3)⟩
          · obtain rfl := List.mem_singleton.mp ht
            exact ⟨97 * i, by omega, sd _ _ ⟨p3, cl1, lf, e11, q11, hll.2, hll.1⟩ (s11 _ _ g3)⟩
      · rintro σ H5 ⟨ts, y3, y4, rfl, g2, g3, g4, gn, g5⟩
        rw [Int.toNat_natCast] at g4
        exact ⟨_, rfl, q _ _ ts g3 (by omega) gn g5⟩
end
end K14

namespace K14
open PySem PySem.Spec PyProof.Rows L2 TM TF GS
/-- a pair's two ints, by the heap -/
def kOf (H : Hp) : V → Int × Int
  | .ref t => match H t with
    | some (.tup [.int a, .int b]) => (a, b)
    | _ => (0, 0)
  | _ => (0, 0)
theorem kOf_at {H : Hp} {t : Addr} {a b : Int} (h : H t = some (.tup [.int a, .int b])) : kOf H (.ref t) = (a, b) := by
  simp only [kOf, h]
theorem PrA.get {H : Hp} : ∀ {ts : List Addr} {l : List (Nat × Nat)} {i : Nat} {t : Addr}, PrA H ts l → ts[i]? = some t → ∃ p, l[i]? = some p ∧ H t = some (.tup [vn p.1, vn p.2])
  | t :: ts, p :: l, 0, _, ⟨a, _⟩, h => by cases h; exact ⟨p, rfl, a⟩
  | t :: ts, p :: l, i + 1, _, ⟨_, b⟩, h => PrA.get (i := i) b h
  | [], [], _, _, _, h => by simp at h
  | [], _ :: _, _, _, z, _ => z.elim
  | _ :: _, [], _, _, z, _ => z.elim
theorem PrA.hx {H : Hp} {ts : List Addr} {l : List (Nat × Nat)} (h : PrA H ts l) : ∀ x ∈ ts.map V.ref, ∃ t, x = V.ref t ∧ H t = some (.tup [.int (kOf H x).1, .int (kOf H x).2]) := fun x hx => by
  obtain ⟨t, ht, rfl⟩ := List.mem_map.mp hx
  obtain ⟨j, hj⟩ := List.getElem?_of_mem ht
  obtain ⟨p, _, e⟩ := h.get hj
  refine ⟨t, rfl, ?_⟩
  rw [kOf_at e]
  exact e
theorem PrA.srtd {H : Hp} {ts : List Addr} {l : List (Nat × Nat)} (h : PrA H ts l) (hl : l.Pairwise fun a b => a.1 < b.1) : SrtO.Srtd (ltP (kOf H)) (ts.map V.ref) := by
  unfold SrtO.Srtd
  rw [List.pairwise_map]
  refine List.pairwise_iff_getElem.mpr fun i j hi hj hij => ?_
  obtain ⟨p, e1, e2⟩ := h.get (List.getElem?_eq_getElem hi)
  obtain ⟨q, e3, e4⟩ := h.get (List.getElem?_eq_getElem hj)
  obtain ⟨hi', e1'⟩ := List.getElem?_eq_some_iff.mp e1
  obtain ⟨hj', e3'⟩ := List.getElem?_eq_some_iff.mp e3
  have := List.pairwise_iff_getElem.mp hl i j hi' hj' hij
  rw [e1', e3'] at this
  refine SrtO.lexB_no.mpr ?_
  rw [kOf_at e2, kOf_at e4]
  show _
  simp only
  omega
/-- the pairs of a list of numbers that cover x -/
def prs (l : List Nat) (x : Nat) : List (Nat × Nat) := (l.filter fun m => decide (m < x ∧ x ≤ 2 * m ∧ 2 * m - x ∈ l)).map fun m => (2 * m - x, m)
theorem prs_srt {l : List Nat} {x : Nat} (h : l.Pairwise (· < ·)) : (prs l x).Pairwise fun a b => a.1 < b.1 := by
  unfold prs
  rw [List.pairwise_map]
  refine (h.filter _).imp_of_mem fun {a b} ha hb hab => ?_
  have h1 := of_decide_eq_true (List.mem_filter.mp ha).2
  have h2 := of_decide_eq_true (List.mem_filter.mp hb).2
  show 2 * a - x < 2 * b - x
  omega
theorem prs_nil {l : List Nat} {x : Nat} : prs l x = [] ↔ ¬ GS.Cv l x := by
  unfold prs
  rw [List.map_eq_nil_iff, List.filter_eq_nil_iff]
  constructor
  · rintro h ⟨y, z, hy, hz, hyz, e⟩
    refine h z hz (decide_eq_true ⟨by omega, by omega, ?_⟩)
    rw [show 2 * z - x = y by omega]
    exact hy
  · intro h m hm c
    obtain ⟨h1, h2, h3⟩ := of_decide_eq_true c
    exact h ⟨2 * m - x, m, h3, hm, by omega, by omega⟩
theorem presK_neg (ms : List Nat) {z : Int} (hz : z < 0) : (valV (presK ms) (Sum.inl z)).isSome = false := by
  unfold valV presK
  induction ms with
  | nil => rfl
  | cons a l ih =>
    rw [List.map_cons, List.find?_cons]
    have h1 : decide ((Sum.inl ((a : Nat) : Int) : Key) = Sum.inl z) = false := decide_eq_false fun q => by have := Sum.inl.inj q; omega
    simp only [h1]
    exact ih
section
variable {P : Program} {w : World} {K : PySem.W.Frag} {mg : Str → Option Value} {base : Heap}
def sp_l_pairs (K : PySem.W.Frag) : Sp := fun vs H Q _ => ∃ (pl : Addr) (l : List Nat) (x : Nat), vs = [.ref pl, vn x] ∧ H pl = some (.dK (presK l)) ∧ l.Pairwise (· < ·) ∧ l.length ≤ 2500 ∧ (∀ m ∈ l, m < 2 ^ 40) ∧
  ∀ H' p ts, Same H H' → H' p = some (.lst (ts.map V.ref)) → PrA H' ts (prs l x) → Q (.ref p) H'
theorem ok_l_pairs (T : Txt K mg) : FnOk P w K mg base CX0 1 T.f_l_pairs T.fd_l_pairs ["places", "spot"] (sp_l_pairs K) := by
  have nd := sc_l_pairs.nd
  refine T.F_l_pairs.ok sc_l_pairs (fun vs H Q E h => ?_) (fun cdv A outer s H vs Q E hr h => ?_)
  · obtain ⟨pl, l, x, rfl, _⟩ := h
    rfl
  · obtain ⟨pl, l, x, rfl, hd, hl, hn, hb, q⟩ := h
    refine ⟨_, (pss_cons (ps_set (i := 2) nd rfl (.inl rfl) (pe_lst pa_nil))
      (pss_cons (ps_lock (ps_for PassesOwn.never rfl (pi_keys (pv 0)) (pg_name (i := 3) nd rfl (.inl rfl)) (pss_cons (ps_set (i := 4) nd rfl (.inl rfl) (pe_op op_sub (pe_op op_mulW pe_int (pv 3)) (pv 1)))
      (pss_one (ps_if (PW.pt (pw_and (pt_cmpR op_lt (pv 4) (pv 3) (nomark _)) (pw_and1 (pt_cmp (pc_din (hu_of hr) (pv 4) (pv 0)))))) (pss_one (ps_expr (pe_bm PySem.F.plainAttrs_list PySem.F.slot_list_append PySem.F.type_list_append mt_append (pv 2) (pa_cons (pe_tup (pa_cons (pv 4) (pa_cons (pv 3) pa_nil))) pa_nil)))) pss_nil)))))
      (pss_one (ps_ret (pe_callB cr_sortedPO (by rfl) T.m_sorted (by decide +kernel) (pa_cons (pv 2) pa_nil)))))), ?_⟩
    refine ⟨(by show 0 ≤ sizeLine; decide), fun f hf => ?_⟩
    have s1 := same_new (o := .lst []) hf
    have ef : upd H f (.lst []) f = some (.lst (([] : List Addr).map V.ref)) := upd_same
    have hd1 := s1 _ _ hd
    generalize upd H f (.lst []) = H1 at s1 ef hd1 ⊢
    have fpl : f ≠ pl := (ne_of_none hd hf).symm
    refine ⟨pl, _, hd1, trivial, fun od => ?_⟩
    refine ⟨_, rfl, pl, od, rfl, .inl ⟨presK l, upd_same, ?_⟩⟩
    have b1 : Bt2 pl f H (upd H1 pl (.frz od (.dK (presK l)))) := (Bt2.of s1).upd1
    have ed : upd H1 pl (.frz od (.dK (presK l))) pl = some (.frz od (.dK (presK l))) := upd_same
    have ef2 : upd H1 pl (.frz od (.dK (presK l))) f = some (.lst (([] : List Addr).map V.ref)) := by rw [upd_ne fpl]; exact ef
    generalize upd H1 pl (.frz od (.dK (presK l))) = H2 at b1 ed ef2 ⊢
    let fm : Nat → Bool := fun m => decide (m < x ∧ x ≤ 2 * m ∧ 2 * m - x ∈ l)
    refine for_it walk_keys (fun i σ H' => ∃ (y3 y4 : Option V) (us : List Addr), σ = [some (.ref pl), some (vn x), some (.ref f), y3, y4] ∧ H' pl = some (.frz od (.dK (presK l))) ∧ H' f = some (.lst (us.map V.ref)) ∧ Bt2 pl f H H' ∧ PrA H' us (((l.take i).filter fm).map fun m => (2 * m - x, m))) ⟨none, none, [], rfl, ed, ef2, b1, trivial⟩ (fun i σ H' _ ⟨_, _, _, _, e, _⟩ => e) ?_ ?_
    · rintro i v σ H3 H4 hi ⟨y3, y4, us, rfl, e3, ef3, b3, pr⟩ ⟨rfl, k, v', hk, rfl⟩
      rw [presK_len] at hi
      obtain ⟨m, gm, rfl⟩ : ∃ m : Nat, l[i]? = some m ∧ k = Sum.inl ((m : Nat) : Int) := by
        unfold presK at hk
        rw [List.getElem?_map] at hk
        cases e : l[i]? with
        | none => rw [e] at hk; cases hk
        | some p =>
          rw [e] at hk
          cases hk
          exact ⟨p, rfl, rfl⟩
      have hm := List.mem_of_getElem? gm
      have hmb := hb m hm
      have et : (l.take (i + 1)).filter fm = (l.take i).filter fm ++ (if fm m = true then [m] else []) := by
        rw [List.take_succ, gm, List.filter_append]
        by_cases h : fm m = true <;> simp [h]
      have no : fm m = false → PrA H4 us (((l.take (i + 1)).filter fm).map fun m => (2 * m - x, m)) := fun h => by
        rw [if_neg (by rw [h]; decide), List.append_nil] at et
        rw [et]
        exact pr
      show gName 3 (vn m) _ _ _
      refine ⟨_, rfl, _, _, rfl, rfl, wide_mul (a := 2) (b := 41) (by decide) (by omega) (by decide) (by decide) (by decide), _, rfl, _, _, rfl, rfl, ?_⟩
      show gName 4 (V.int (2 * (m : Int) - (x : Int))) _ _ _
      refine ⟨_, rfl, _, rfl, _, _, rfl, rfl, _, rfl, ite2 (fun c => ?_) (fun c => iteF ⟨_, _, us, rfl, e3, ef3, b3, no ?_⟩)⟩
      rotate_left
      · exact decide_eq_false fun z => c (decide_eq_true (show (2 : Int) * (m : Int) - (x : Int) < (m : Int) by have := z.1; omega))
      have hmx : m < x := by
        have : (2 : Int) * (m : Int) - (x : Int) < (m : Int) := of_decide_eq_true c
        omega
      refine ⟨_, rfl, _, rfl, pl, _, rfl, .inl ⟨presK l, Sum.inl (2 * (m : Int) - (x : Int)), .inr ⟨od, e3⟩, rfl, rfl⟩, _, rfl, ?_⟩
      have hval : (valV (presK l) (Sum.inl (2 * (m : Int) - (x : Int)))).isSome = fm m := by
        rcases Nat.lt_or_ge (2 * m) x with z | z
        · rw [presK_neg l (by omega)]
          exact (decide_eq_false fun y => by have := y.2.1; omega).symm
        · rw [show 2 * (m : Int) - (x : Int) = ((2 * m - x : Nat) : Int) by omega, presK_val]
          show decide _ = decide _
          rw [decide_eq_decide]
          exact ⟨fun y => ⟨hmx, z, y⟩, fun y => y.2.2⟩
      rw [hval]
      by_cases hf1 : fm m = true
      · rw [hf1]
        rw [if_pos hf1] at et
        have hxm : x ≤ 2 * m := (of_decide_eq_true hf1).2.1
        have el : V.int (2 * (m : Int) - (x : Int)) = vn (2 * m - x) := congrArg V.int (by omega)
        refine iteT ⟨_, rfl, .inl ⟨rfl, _, SqL.of ef3⟩, _, rfl, _, rfl, (by show 2 ≤ sizeLine; decide), fun u hu => ?_⟩
        rw [el]
        have s5 := same_new (o := .tup [vn (2 * m - x), vn m]) hu
        have eu : upd H4 u (.tup [vn (2 * m - x), vn m]) u = some (.tup [vn (2 * m - x), vn m]) := upd_same
        have e5 := s5 _ _ e3
        have ef5 := s5 _ _ ef3
        have b5 := Bt2.same b3 s5
        have pr5 := pr.mono (H' := upd H4 u (.tup [vn (2 * m - x), vn m])) fun t xs e => s5 _ _ e
        generalize upd H4 u (.tup [vn (2 * m - x), vn m]) = H5 at s5 eu e5 ef5 b5 pr5 ⊢
        have pl2 := pr.len
        rw [List.length_map] at pl2
        have fl := List.length_filter_le fm (l.take i)
        rw [List.length_take] at fl
        refine ⟨f, _, _, rfl, rfl, ef5, small_lt (b := 3000) (by rw [List.length_map]; omega), _, _, us ++ [u], rfl, ?_, ?_, b5.upd2, ?_⟩
        · rw [upd_ne fpl.symm]; exact e5
        · rw [upd_same, List.map_append]
          rfl
        · rw [et, List.map_append]
          exact (PrA.snoc (q := (2 * m - x, m)) eu pr5).mono fun t xs e => by rw [upd_ne (ne_of e ef5 (fun z => nomatch z))]; exact e
      · rw [Bool.eq_false_iff.mpr hf1]
        exact iteF ⟨_, _, us, rfl, e3, ef3, b3, no (Bool.eq_false_iff.mpr hf1)⟩
    · rintro σ H3 ⟨y3, y4, us, rfl, e3, ef3, b3, pr⟩
      rw [presK_len, List.take_length] at pr
      refine ⟨e3, ?_⟩
      have s4 : Same H (upd H3 pl (.dK (presK l))) := fun b o e => by
        by_cases z : b = pl
        · rw [z] at e ⊢
          rw [upd_same, ← hd, e]
        · rw [upd_ne z]
          exact b3 b o z (ne_of_none e hf) e
      have ef4 : upd H3 pl (.dK (presK l)) f = some (.lst (us.map V.ref)) := by rw [upd_ne fpl]; exact ef3
      have pr4 : PrA (upd H3 pl (.dK (presK l))) us (prs l x) := PrA.mono (fun t xs e => by rw [upd_ne (ne_of e e3 (fun z => nomatch z))]; exact e) pr
      generalize upd H3 pl (.dK (presK l)) = H4 at s4 ef4 pr4 ⊢
      refine ⟨_, rfl, f, us.map V.ref, kOf H4, rfl, SqL.of ef4, pr4.hx, fun ys p hs hst hp => ?_⟩
      have ey : ys = us.map V.ref := SrtO.stb_uniq (ltP_swo _) hs (pr4.srtd (prs_srt hl)) hst
      rw [ey]
      exact q _ p us (Same.trans s4 (same_new hp)) upd_same (pr4.mono fun t xs e => same_new hp _ _ e)
end
end K14

namespace TFZT
open PySem PySem.Calls PyProof.Rows PyProof.V PySem.Spec
/-- a zip whose last pair still lives at a -/
abbrev ZipB (h : Heap) (z TI TO a : Addr) (f : Bool) : Prop :=
  h.get? z = some { cls := .type "zip", dict := none, data := .fields #[rawInt a, .bool f, .bool false, .ref TI, .ref TO], slots := #[] }
section
variable {prog : Program} {w : World} {A : Around} {E : Value → Shared → Prop} {s : Shared}
theorem zip_more {z TI TO i1 i2 l1 l2 a : Addr} {f : Bool} {oa : Obj} {k1 k2 : Nat} {xs ys : Array Value} {x y : Value} {Q : Value → Shared → Prop}
    (D : ZipApart z TI TO i1 i2 l1 l2) (hz : ZipB s.heap z TI TO a f) (ha : s.heap.get? a = some oa) (haz : a ≠ z)
    (hTI : IsPair s.heap TI (.ref i1) (.ref i2)) (h1 : s.heap.IsTupleIter i1 l1 k1) (h2 : s.heap.IsTupleIter i2 l2 k2)
    (hl1 : s.heap.IsTuple l1 xs) (hl2 : s.heap.IsTuple l2 ys) (hx : xs[k1]? = some x) (hy : ys[k2]? = some y)
    (hQ : ∀ h', ZipB h' z TI TO a true → h'.IsTupleIter i1 l1 (k1 + 1) → h'.IsTupleIter i2 l2 (k2 + 1) →
      IsPair h' s.heap.objs.size x y → h'.objs.size = s.heap.objs.size + 1 →
      (∀ c o, c ≠ z → c ≠ i1 → c ≠ i2 → s.heap.get? c = some o → h'.get? c = some o) → Q (.ref s.heap.objs.size) { s with heap := h' }) :
    wpAny (model prog w) A (Builtin.«zip.__next__» ⟨[.ref z], []⟩) (fun fin s' => ∃ v, fin = .done (.ret v) ∧ Q v s') E s := by
  obtain ⟨hp, g, dr, tk, os⟩ := s
  replace hz : ZipB hp z TI TO a f := hz
  show wpAny _ _ (field (.ref z) 2 >>= _) _ _ _
  refine wpAny_bind (wpAny_field hz rfl (x := .bool false) rfl ?_)
  show wpAny _ _ (field (.ref z) 3 >>= _) _ _ _
  refine wpAny_bind (wpAny_field hz rfl (x := .ref TI) rfl ?_)
  refine wpAny_bind (wpAny_seqItems hTI rfl ?_)
  show wpAny _ _ (Builtin.SmallTypes.ownedTupleIsFree (.ref z) >>= _) _ _ _
  refine wpAny_bind ?_
  unfold Builtin.SmallTypes.ownedTupleIsFree
  refine wpAny_bind (wpAny_field hz rfl (x := rawInt a) rfl ?_)
  show wpAny _ _ (loadIfAlive ((a : Int).toNat) >>= _) _ _ _
  rw [Int.toNat_natCast]
  refine wpAny_bind (PySem.W.kdx_alive ha ?_)
  simp only [Option.isNone_some, Bool.false_eq_true, if_false]
  refine wpAny_bind (wpAny_field hz rfl (x := .bool f) rfl ?_)
  have fin : ∀ h₁ : Heap, ZipB h₁ z TI TO a true → Heap.SameBut z hp h₁ → ∀ h₃, h₃.IsTupleIter i1 l1 (k1 + 1) → h₃.IsTupleIter i2 l2 (k2 + 1) →
      h₃.objs.size = hp.objs.size → ZipB h₃ z TI TO a true → (∀ c o, c ≠ z → c ≠ i1 → c ≠ i2 → hp.get? c = some o → h₃.get? c = some o) →
      wpAny (model prog w) A (newTuple [x, y] >>= fun v => ret v) (fun fin s' => ∃ v, fin = .done (.ret v) ∧ Q v s') E ⟨h₃, g, dr, tk, os⟩ := by
    intro h₁ hz₁ hs₁ h₃ e1 e2 e3 e4 e5
    refine wpAny_bind (wpAny_newTuple ?_)
    refine wpAny_pure ⟨_, rfl, ?_⟩
    show Q (.ref h₃.objs.size) _
    rw [e3]
    refine hQ _ (Heap.get?_push_of_some _ e4) (e1.at fun o e => Heap.get?_push_of_some _ e) (e2.at fun o e => Heap.get?_push_of_some _ e) ?_ (by rw [Heap.size_push, e3]) fun c o c1 c2 c3 e => Heap.get?_push_of_some _ (e5 c o c1 c2 c3 e)
    rw [← e3]
    exact Heap.get?_push_size _ rfl
  have n1 : ∀ h₁ : Heap, ZipB h₁ z TI TO a true → Heap.SameBut z hp h₁ → ∀ R : Value → Shared → Prop,
      (∀ h₂, h₂.IsTupleIter i1 l1 (k1 + 1) → Heap.SameBut i1 h₁ h₂ → R x ⟨h₂, g, dr, tk, os⟩) → wpAny (model prog w) A (Builtin.SmallTypes.nextOf (.ref i1)) R E ⟨h₁, g, dr, tk, os⟩ :=
    fun h₁ _ hs₁ R q => RZ.nextOf_tuple_item (h1.extBut hs₁.extBut D.i1z) (hl1.extBut hs₁.extBut D.l1z) hx q
  have n2 : ∀ h₁ h₂ : Heap, Heap.SameBut z hp h₁ → Heap.SameBut i1 h₁ h₂ → ∀ R : Value → Shared → Prop,
      (∀ h₃, h₃.IsTupleIter i2 l2 (k2 + 1) → Heap.SameBut i2 h₂ h₃ → R y ⟨h₃, g, dr, tk, os⟩) → wpAny (model prog w) A (Builtin.SmallTypes.nextOf (.ref i2)) R E ⟨h₂, g, dr, tk, os⟩ :=
    fun h₁ h₂ hs₁ hs₂ R q => RZ.nextOf_tuple_item ((h2.extBut hs₁.extBut D.i2z).extBut hs₂.extBut D.i12.symm) ((hl2.extBut hs₁.extBut D.l2z).extBut hs₂.extBut D.l2i1) hy q
  cases f with
  | true =>
    rw [if_neg (show ¬ ((Value.bool true != Value.bool true) = true) from Bool.false_ne_true)]
    refine wpAny_pure ?_
    simp only [Bool.false_eq_true, if_false]
    simp only [← Array.forIn_toList, List.forIn_cons, List.forIn_nil]
    refine wpAny_bind (wpAny_bind (wpAny_bind (wpAny_holding ?_)))
    show wpAny _ _ (Builtin.SmallTypes.nextOf (.ref i1) >>= _) _ _ _
    refine wpAny_bind (n1 hp hz (Heap.SameBut.refl _ _) _ fun h₂ h1₂ hs₂ => wpAny_pure (wpAny_pure ?_))
    refine wpAny_bind (wpAny_bind (wpAny_holding ?_))
    show wpAny _ _ (Builtin.SmallTypes.nextOf (.ref i2) >>= _) _ _ _
    refine wpAny_bind (n2 hp h₂ (Heap.SameBut.refl _ _) hs₂ _ fun h₃ h2₃ hs₃ => wpAny_pure (wpAny_pure (wpAny_pure ?_)))
    exact fin hp hz (Heap.SameBut.refl _ _) h₃ (h1₂.extBut hs₃.extBut D.i12) h2₃ (by rw [hs₃.1, hs₂.1]) (hs₃.extBut _ _ D.i2z.symm (hs₂.extBut _ _ D.i1z.symm hz))
      fun c o c1 c2 c3 e => hs₃.extBut _ _ c3 (hs₂.extBut _ _ c2 e)
  | false =>
    rw [if_pos (show (Value.bool false != Value.bool true) = true from rfl)]
    refine wpAny_bind (wpAny_setField_rec hz (by simp) fun h₁ hz₁ hs₁ => wpAny_pure ?_)
    replace hz₁ : ZipB h₁ z TI TO a true := hz₁
    simp only [Bool.false_eq_true, if_false]
    simp only [← Array.forIn_toList, List.forIn_cons, List.forIn_nil]
    refine wpAny_bind (wpAny_bind (wpAny_bind (wpAny_holding ?_)))
    show wpAny _ _ (Builtin.SmallTypes.nextOf (.ref i1) >>= _) _ _ _
    refine wpAny_bind (n1 h₁ hz₁ hs₁ _ fun h₂ h1₂ hs₂ => wpAny_pure (wpAny_pure ?_))
    refine wpAny_bind (wpAny_bind (wpAny_holding ?_))
    show wpAny _ _ (Builtin.SmallTypes.nextOf (.ref i2) >>= _) _ _ _
    refine wpAny_bind (n2 h₁ h₂ hs₁ hs₂ _ fun h₃ h2₃ hs₃ => wpAny_pure (wpAny_pure (wpAny_pure ?_)))
    exact fin h₁ hz₁ hs₁ h₃ (h1₂.extBut hs₃.extBut D.i12) h2₃ (by rw [hs₃.1, hs₂.1, hs₁.1]) (hs₃.extBut _ _ D.i2z.symm (hs₂.extBut _ _ D.i1z.symm hz₁))
      fun c o c1 c2 c3 e => hs₃.extBut _ _ c3 (hs₂.extBut _ _ c2 (hs₁.extBut _ _ c1 e))
/-- its end -/
theorem zip_over {z TI TO i1 i2 l1 l2 a : Addr} {f : Bool} {oa : Obj} {k1 k2 : Nat} {xs ys : Array Value} {Q : Fin → Shared → Prop} (hh : A.handled = none)
    (D : ZipApart z TI TO i1 i2 l1 l2) (hz : ZipB s.heap z TI TO a f) (ha : s.heap.get? a = some oa) (haz : a ≠ z)
    (hTI : IsPair s.heap TI (.ref i1) (.ref i2)) (h1 : s.heap.IsTupleIter i1 l1 k1) (h2 : s.heap.IsTupleIter i2 l2 k2)
    (hl1 : s.heap.IsTuple l1 xs) (hl2 : s.heap.IsTuple l2 ys) (hend : xs[k1]? = none ∨ ys[k2]? = none)
    (hE : ∀ h' e, (∀ c o, c ≠ z → c ≠ i1 → c ≠ i2 → s.heap.get? c = some o → h'.get? c = some o) → (∃ o, h'.get? e = some o ∧ o.cls = .type "StopIteration") → E (.ref e) { s with heap := h' }) :
    wpAny (model prog w) A (Builtin.«zip.__next__» ⟨[.ref z], []⟩) Q E s := by
  obtain ⟨hp, g, dr, tk, os⟩ := s
  replace hz : ZipB hp z TI TO a f := hz
  show wpAny _ _ (field (.ref z) 2 >>= _) _ _ _
  refine wpAny_bind (wpAny_field hz rfl (x := .bool false) rfl ?_)
  show wpAny _ _ (field (.ref z) 3 >>= _) _ _ _
  refine wpAny_bind (wpAny_field hz rfl (x := .ref TI) rfl ?_)
  refine wpAny_bind (wpAny_seqItems hTI rfl ?_)
  show wpAny _ _ (Builtin.SmallTypes.ownedTupleIsFree (.ref z) >>= _) _ _ _
  refine wpAny_bind ?_
  unfold Builtin.SmallTypes.ownedTupleIsFree
  refine wpAny_bind (wpAny_field hz rfl (x := rawInt a) rfl ?_)
  show wpAny _ _ (loadIfAlive ((a : Int).toNat) >>= _) _ _ _
  rw [Int.toNat_natCast]
  refine wpAny_bind (PySem.W.kdx_alive ha ?_)
  simp only [Option.isNone_some, Bool.false_eq_true, if_false]
  refine wpAny_bind (wpAny_field hz rfl (x := .bool f) rfl ?_)
  have go : ∀ h₁ : Heap, Heap.SameBut z hp h₁ → ∀ R : Value → Shared → Prop, (∀ h₂, h₂.IsTupleIter i1 l1 (k1 + 1) → Heap.SameBut i1 h₁ h₂ → ∀ x, xs[k1]? = some x → R x ⟨h₂, g, dr, tk, os⟩) →
      wpAny (model prog w) A (Builtin.SmallTypes.nextOf (.ref i1)) R E ⟨h₁, g, dr, tk, os⟩ := fun h₁ hs₁ R q => by
    cases hx : xs[k1]? with
    | none => exact RZ.nextOf_tuple_end hh (h1.extBut hs₁.extBut D.i1z) (hl1.extBut hs₁.extBut D.l1z) hx fun h₂ e hs₂ he => hE h₂ e (fun c o c1 c2 c3 x => hs₂ _ _ c2 (hs₁.extBut _ _ c1 x)) he
    | some x => exact RZ.nextOf_tuple_item (h1.extBut hs₁.extBut D.i1z) (hl1.extBut hs₁.extBut D.l1z) hx fun h₂ a1 a2 => q h₂ a1 a2 x hx
  have go2 : ∀ h₁ h₂ : Heap, Heap.SameBut z hp h₁ → Heap.SameBut i1 h₁ h₂ → (∃ x, xs[k1]? = some x) → ∀ R : Value → Shared → Prop, 
      wpAny (model prog w) A (Builtin.SmallTypes.nextOf (.ref i2)) R E ⟨h₂, g, dr, tk, os⟩ := fun h₁ h₂ hs₁ hs₂ ⟨x, hx⟩ R => by
    have hy : ys[k2]? = none := by
      rcases hend with h | h
      · rw [h] at hx; cases hx
      · exact h
    exact RZ.nextOf_tuple_end hh ((h2.extBut hs₁.extBut D.i2z).extBut hs₂.extBut D.i12.symm) ((hl2.extBut hs₁.extBut D.l2z).extBut hs₂.extBut D.l2i1) hy fun h₃ e hs₃ he =>
      hE h₃ e (fun c o c1 c2 c3 x => hs₃ _ _ c3 (hs₂.extBut _ _ c2 (hs₁.extBut _ _ c1 x))) he
  cases f with
  | true =>
    rw [if_neg (show ¬ ((Value.bool true != Value.bool true) = true) from Bool.false_ne_true)]
    refine wpAny_pure ?_
    simp only [Bool.false_eq_true, if_false]
    simp only [← Array.forIn_toList, List.forIn_cons, List.forIn_nil]
    refine wpAny_bind (wpAny_bind (wpAny_bind (wpAny_holding ?_)))
    show wpAny _ _ (Builtin.SmallTypes.nextOf (.ref i1) >>= _) _ _ _
    refine wpAny_bind (go hp (Heap.SameBut.refl _ _) _ fun h₂ h1₂ hs₂ x hx => wpAny_pure (wpAny_pure ?_))
    refine wpAny_bind (wpAny_bind (wpAny_holding ?_))
    show wpAny _ _ (Builtin.SmallTypes.nextOf (.ref i2) >>= _) _ _ _
    exact wpAny_bind (go2 hp h₂ (Heap.SameBut.refl _ _) hs₂ ⟨x, hx⟩ _)
  | false =>
    rw [if_pos (show (Value.bool false != Value.bool true) = true from rfl)]
    refine wpAny_bind (wpAny_setField_rec hz (by simp) fun h₁ hz₁ hs₁ => wpAny_pure ?_)
    simp only [Bool.false_eq_true, if_false]
    simp only [← Array.forIn_toList, List.forIn_cons, List.forIn_nil]
    refine wpAny_bind (wpAny_bind (wpAny_bind (wpAny_holding ?_)))
    show wpAny _ _ (Builtin.SmallTypes.nextOf (.ref i1) >>= _) _ _ _
    refine wpAny_bind (go h₁ hs₁ _ fun h₂ h1₂ hs₂ x hx => wpAny_pure (wpAny_pure ?_))
    refine wpAny_bind (wpAny_bind (wpAny_holding ?_))
    show wpAny _ _ (Builtin.SmallTypes.nextOf (.ref i2) >>= _) _ _ _
    exact wpAny_bind (go2 h₁ h₂ hs₁ hs₂ ⟨x, hx⟩ _)
theorem pyNext_more {z TI TO i1 i2 l1 l2 a : Addr} {f : Bool} {oa : Obj} {k1 k2 : Nat} {xs ys : Array Value} {x y : Value} {Q : Option Value → Shared → Prop}
    (D : ZipApart z TI TO i1 i2 l1 l2) (hz : ZipB s.heap z TI TO a f) (ha : s.heap.get? a = some oa) (haz : a ≠ z)
    (hTI : IsPair s.heap TI (.ref i1) (.ref i2)) (h1 : s.heap.IsTupleIter i1 l1 k1) (h2 : s.heap.IsTupleIter i2 l2 k2)
    (hl1 : s.heap.IsTuple l1 xs) (hl2 : s.heap.IsTuple l2 ys) (hx : xs[k1]? = some x) (hy : ys[k2]? = some y)
    (hQ : ∀ h', ZipB h' z TI TO a true → h'.IsTupleIter i1 l1 (k1 + 1) → h'.IsTupleIter i2 l2 (k2 + 1) →
      IsPair h' s.heap.objs.size x y → h'.objs.size = s.heap.objs.size + 1 →
      (∀ c o, c ≠ z → c ≠ i1 → c ≠ i2 → s.heap.get? c = some o → h'.get? c = some o) → Q (some (.ref s.heap.objs.size)) { s with heap := h' }) :
    wpAny (model prog w) A (pyNext (.ref z)) Q E s := by
  have hT : s.TypeIs (.ref z) "zip" := ⟨_, hz, rfl⟩
  unfold pyNext
  exact wpAny_bind (wpAny_attempt (wpAny_callSpecial?_slot (name := Str.ofString "__next__") hT PySem.F.slot_zip_next
    (wpAny_call_entry PySem.F.slot_zip_next hT PySem.F.entry_zip_next
      (zip_more D hz ha haz hTI h1 h2 hl1 hl2 hx hy fun h' a1 a2 a3 a4 a5 a6 => wpAny_pure (hQ h' a1 a2 a3 a4 a5 a6)) (PySem.F.args_zip_next_1 _))))
theorem pyNext_over {z TI TO i1 i2 l1 l2 a : Addr} {f : Bool} {oa : Obj} {k1 k2 : Nat} {xs ys : Array Value} {Q : Option Value → Shared → Prop} (hh : A.handled = none)
    (D : ZipApart z TI TO i1 i2 l1 l2) (hz : ZipB s.heap z TI TO a f) (ha : s.heap.get? a = some oa) (haz : a ≠ z)
    (hTI : IsPair s.heap TI (.ref i1) (.ref i2)) (h1 : s.heap.IsTupleIter i1 l1 k1) (h2 : s.heap.IsTupleIter i2 l2 k2)
    (hl1 : s.heap.IsTuple l1 xs) (hl2 : s.heap.IsTuple l2 ys) (hend : xs[k1]? = none ∨ ys[k2]? = none)
    (hQ : ∀ h', (∀ c o, c ≠ z → c ≠ i1 → c ≠ i2 → s.heap.get? c = some o → h'.get? c = some o) → Q none { s with heap := h' }) :
    wpAny (model prog w) A (pyNext (.ref z)) Q E s := by
  have hT : s.TypeIs (.ref z) "zip" := ⟨_, hz, rfl⟩
  unfold pyNext
  refine wpAny_bind (wpAny_attempt (wpAny_callSpecial?_slot (name := Str.ofString "__next__") hT PySem.F.slot_zip_next
    (wpAny_call_entry PySem.F.slot_zip_next hT PySem.F.entry_zip_next (zip_over hh D hz ha haz hTI h1 h2 hl1 hl2 hend fun h' e hk he => ?_) (PySem.F.args_zip_next_1 _))))
  obtain ⟨o, ho, hc⟩ := he
  refine wpAny_bind (wpAny_isInstance (T := "StopIteration") (b := true) ⟨o, ho, hc⟩ isSubtype_stop ?_)
  exact wpAny_pure (hQ _ hk)
end
end TFZT

namespace TFZT
open PySem PySem.Calls PyProof.Rows PyProof.V PySem.Spec
structure ZSt (h : Heap) (z TI TO i1 i2 l1 l2 S : Addr) (xs ys : Array Value) (i : Nat) : Prop where
  zip : (IsZip h z TI TO .none ∧ ∃ a b, IsPair h TO a b) ∨ ∃ a f oa, ZipB h z TI TO a f ∧ h.get? a = some oa ∧ a ≠ z ∧ a ≠ S ∧ a ≠ i1 ∧ a ≠ i2
  pair : IsPair h TI (.ref i1) (.ref i2)
  one : h.IsTupleIter i1 l1 i
  two : h.IsTupleIter i2 l2 i
  left : h.IsTuple l1 xs
  right : h.IsTuple l2 ys
/-- where all that belongs to the zip lies: above the two lists, below the new list S -/
structure ZAt (z TI TO i1 i2 l1 l2 S lo : Addr) : Prop where
  ap : ZipApart z TI TO i1 i2 l1 l2
  zS : z < S
  TIS : TI < S
  TOS : TO < S
  i1S : i1 < S
  i2S : i2 < S
  loz : lo ≤ z
  loTI : lo ≤ TI
  loTO : lo ≤ TO
  lo1 : lo ≤ i1
  lo2 : lo ≤ i2
  l1lo : l1 < lo
  l2lo : l2 < lo
theorem ZSt.keep {h h' : Heap} {z TI TO i1 i2 l1 l2 S lo : Addr} {xs ys : Array Value} {i : Nat} (x : ZSt h z TI TO i1 i2 l1 l2 S xs ys i) (P : ZAt z TI TO i1 i2 l1 l2 S lo)
    (hk : ∀ b o, b ≠ S → h.get? b = some o → h'.get? b = some o) : ZSt h' z TI TO i1 i2 l1 l2 S xs ys i := by
  have q : ∀ {b : Addr}, b < S → ∀ o, h.get? b = some o → h'.get? b = some o := fun l o e => hk _ o (Nat.ne_of_lt l) e
  have lo' : lo ≤ S := Nat.le_trans P.loz (Nat.le_of_lt P.zS)
  refine ⟨?_, q P.TIS _ x.pair, x.one.at fun o e => q P.i1S o e, x.two.at fun o e => q P.i2S o e, x.left.at fun o e => q (Nat.lt_of_lt_of_le P.l1lo lo') o e, x.right.at fun o e => q (Nat.lt_of_lt_of_le P.l2lo lo') o e⟩
  rcases x.zip with ⟨e, a, b, e2⟩ | ⟨a, f, oa, e, ha, h1, h2, h3, h4⟩
  · exact .inl ⟨q P.zS _ e, a, b, q P.TOS _ e2⟩
  · exact .inr ⟨a, f, oa, q P.zS _ e, hk a oa h2 ha, h1, h2, h3, h4⟩
section
variable {prog : Program} {w : World} {A : Around} {E : Value → Shared → Prop} {s : Shared} {z TI TO i1 i2 l1 l2 S lo : Addr} {xs ys : Array Value} {i : Nat}
theorem z_item (P : ZAt z TI TO i1 i2 l1 l2 S lo) {x y : Value} {Q : Option Value → Shared → Prop} (st : ZSt s.heap z TI TO i1 i2 l1 l2 S xs ys i) (hS : S < s.heap.objs.size) (hx : xs[i]? = some x) (hy : ys[i]? = some y)
    (hQ : ∀ h', ZSt h' z TI TO i1 i2 l1 l2 S xs ys (i + 1) → IsPair h' s.heap.objs.size x y → h'.objs.size = s.heap.objs.size + 1 →
      (∀ c o, c ≠ z → c ≠ TO → c ≠ i1 → c ≠ i2 → s.heap.get? c = some o → h'.get? c = some o) → Q (some (.ref s.heap.objs.size)) { s with heap := h' }) : wpAny (model prog w) A (pyNext (.ref z)) Q E s := by
  have D := P.ap
  have new : ∀ {b : Addr}, b < S → s.heap.objs.size ≠ b := fun l => Nat.ne_of_gt (Nat.lt_trans l hS)
  rcases st.zip with ⟨e, a, b, e2⟩ | ⟨a, f, oa, e, ha, g1, g2, g3, g4⟩
  · refine RZ.pyNext_zipT_item D e st.pair e2 st.one st.two st.left st.right hx hy fun h' a1 a2 a3 a4 a5 a6 hk => ?_
    refine hQ h' ⟨.inr ⟨_, false, _, a1, a5, new P.zS, Nat.ne_of_gt hS, new P.i1S, new P.i2S⟩, hk _ _ D.TIz D.TITO D.TIi1 D.TIi2 st.pair, a3, a4, st.left.at fun o q => hk _ o D.l1z D.l1TO D.l1i1 D.l1i2 q,
      st.right.at fun o q => hk _ o D.l2z D.l2TO D.l2i1 D.l2i2 q⟩ a5 a6 hk
  · refine pyNext_more D e ha g1 st.pair st.one st.two st.left st.right hx hy fun h' a1 a3 a4 a5 a6 hk => ?_
    refine hQ h' ⟨.inr ⟨a, true, oa, a1, hk a oa g1 g3 g4 ha, g1, g2, g3, g4⟩, hk _ _ D.TIz D.TIi1 D.TIi2 st.pair, a3, a4, st.left.at fun o q => hk _ o D.l1z D.l1i1 D.l1i2 q,
      st.right.at fun o q => hk _ o D.l2z D.l2i1 D.l2i2 q⟩ a5 a6 fun c o c1 _ c3 c4 => hk c o c1 c3 c4
theorem z_done (hh : A.handled = none) (P : ZAt z TI TO i1 i2 l1 l2 S lo) {Q : Option Value → Shared → Prop} (st : ZSt s.heap z TI TO i1 i2 l1 l2 S xs ys i) (hend : xs[i]? = none ∨ ys[i]? = none)
    (hQ : ∀ h', (∀ c o, c ≠ z → c ≠ TO → c ≠ i1 → c ≠ i2 → s.heap.get? c = some o → h'.get? c = some o) → Q none { s with heap := h' }) : wpAny (model prog w) A (pyNext (.ref z)) Q E s := by
  have D := P.ap
  rcases st.zip with ⟨e, a, b, e2⟩ | ⟨a, f, oa, e, ha, g1, g2, g3, g4⟩
  · exact RZ.pyNext_zipT_end hh D e st.pair e2 st.one st.two st.left st.right hend hQ
  · exact pyNext_over hh D e ha g1 st.pair st.one st.two st.left st.right hend fun h' hk => hQ h' fun c o c1 _ c3 c4 => hk c o c1 c3 c4
end
structure ZG (xs ys : Array Value) (lo : Addr) (h : Heap) (as : List Addr) : Prop where
  rise : as.Pairwise (· < ·)
  above : ∀ a ∈ as, lo < a
  pairs : ∀ (j : Nat) (a : Addr), as[j]? = some a → ∃ x y, xs[j]? = some x ∧ ys[j]? = some y ∧ IsPair h a x y
theorem ZG.there {xs ys : Array Value} {lo : Addr} {h : Heap} {as : List Addr} (g : ZG xs ys lo h as) {a : Addr} (ha : a ∈ as) : a < h.objs.size := by
  obtain ⟨j, hj⟩ := List.mem_iff_getElem?.mp ha
  obtain ⟨_, _, _, _, e⟩ := g.pairs j a hj
  exact Heap.lt_size e
abbrev lstAt (h : Heap) (S : Addr) (acc : Array Value) (c : Nat) : Prop := h.get? S = some { cls := .type "list", dict := none, data := .seq acc c, slots := #[] }
section
variable {prog : Program} {w : World} {A : Around} {s : Shared} {R : Result → Shared → Prop} {z TI TO i1 i2 l1 l2 S lo : Addr} {xs ys : Array Value}
theorem z_loop (hh : A.handled = none) (P : ZAt z TI TO i1 i2 l1 l2 S lo) (n : Nat) (hnn : n = min xs.size ys.size) (hn : n ≤ sizeLine) (res : Value) {h₁ : Heap} (hlo : h₁.objs.size ≤ lo)
    (hR : ∀ h' tk acc c as, (∀ b o, h₁.get? b = some o → h'.get? b = some o) → lstAt h' S acc c → as.length = n → ZG xs ys S h' as → acc.toList = as.map Value.ref →
      R (.ok (.ret res)) { s with heap := h', toks := tk }) :
    ∀ (k i : Nat) (h : Heap) (tk c : Nat) (acc : Array Value) (as : List Addr), n - i = k → i ≤ n → ZSt h z TI TO i1 i2 l1 l2 S xs ys i → (∀ b o, h₁.get? b = some o → h.get? b = some o) →
      lstAt h S acc c → acc.toList = as.map Value.ref → as.length = i → ZG xs ys S h as →
      codeAny (model prog w) A (.builtin "list.extend.loop" ⟨[.ref S, .ref z, res], []⟩) R { s with heap := h, toks := tk } := by
  have old : ∀ {b : Addr} {o : Obj}, h₁.get? b = some o → b < lo := fun e => Nat.lt_of_lt_of_le (Heap.lt_size e) hlo
  have loS : lo < S := Nat.lt_of_le_of_lt P.loz P.zS
  intro k
  induction k with
  | zero =>
    intro i h tk c acc as hk hi st hkeep hS hacc hal hG
    have hend : xs[i]? = none ∨ ys[i]? = none := by
      rcases Nat.le_total xs.size ys.size with q | q
      · exact .inl (Array.getElem?_eq_none (by omega))
      · exact .inr (Array.getElem?_eq_none (by omega))
    refine codeAny_builtin PySem.F.entry_extend_loop ?_
    rw [Around.under_plainId PySem.F.plain_extend_loop _]
    show wpAny _ A.in1 (pyNext (.ref z) >>= _) _ _ _
    refine wpAny_bind (z_done (s := { s with heap := h, toks := tk }) (A := A.in1) hh P st hend fun h' he => ?_)
    have up : ∀ b o, S ≤ b → h.get? b = some o → h'.get? b = some o := fun b o l e => he b o (Nat.ne_of_gt (Nat.lt_of_lt_of_le P.zS l)) (Nat.ne_of_gt (Nat.lt_of_lt_of_le P.TOS l)) (Nat.ne_of_gt (Nat.lt_of_lt_of_le P.i1S l)) (Nat.ne_of_gt (Nat.lt_of_lt_of_le P.i2S l)) e
    have dn : ∀ b o, b < lo → h.get? b = some o → h'.get? b = some o := fun b o l e => he b o (Nat.ne_of_lt (Nat.lt_of_lt_of_le l P.loz)) (Nat.ne_of_lt (Nat.lt_of_lt_of_le l P.loTO)) (Nat.ne_of_lt (Nat.lt_of_lt_of_le l P.lo1)) (Nat.ne_of_lt (Nat.lt_of_lt_of_le l P.lo2)) e
    refine wpAny_pure (hR h' tk acc c as (fun b o e => dn b o (old e) (hkeep b o e)) (up S _ (Nat.le_refl _) hS) (by omega) ⟨hG.rise, hG.above, fun j a hj => ?_⟩ hacc)
    obtain ⟨x, y, e1, e2, e3⟩ := hG.pairs j a hj
    exact ⟨x, y, e1, e2, up a _ (Nat.le_of_lt (hG.above a (List.mem_of_getElem? hj))) e3⟩
  | succ k ih =>
    intro i h tk c acc as hk hi st hkeep hS hacc hal hG
    have hx : i < xs.size := by omega
    have hy : i < ys.size := by omega
    have hsz : acc.size = i := by rw [← Array.length_toList, hacc, List.length_map, hal]
    have hSl : S < h.objs.size := Heap.lt_size hS
    refine codeAny_builtin PySem.F.entry_extend_loop ?_
    rw [Around.under_plainId PySem.F.plain_extend_loop _]
    show wpAny _ A.in1 (pyNext (.ref z) >>= _) _ _ _
    refine wpAny_bind (z_item (s := { s with heap := h, toks := tk }) P st hSl (Array.getElem?_eq_getElem hx) (Array.getElem?_eq_getElem hy) fun h' st' ht hz hkp => ?_)
    dsimp only at ht hz hkp ⊢
    have upS : ∀ b o, S ≤ b → h.get? b = some o → h'.get? b = some o := fun b o l e => hkp b o (Nat.ne_of_gt (Nat.lt_of_lt_of_le P.zS l)) (Nat.ne_of_gt (Nat.lt_of_lt_of_le P.TOS l)) (Nat.ne_of_gt (Nat.lt_of_lt_of_le P.i1S l)) (Nat.ne_of_gt (Nat.lt_of_lt_of_le P.i2S l)) e
    have dn : ∀ b o, b < lo → h.get? b = some o → h'.get? b = some o := fun b o l e => hkp b o (Nat.ne_of_lt (Nat.lt_of_lt_of_le l P.loz)) (Nat.ne_of_lt (Nat.lt_of_lt_of_le l P.loTO)) (Nat.ne_of_lt (Nat.lt_of_lt_of_le l P.lo1)) (Nat.ne_of_lt (Nat.lt_of_lt_of_le l P.lo2)) e
    have hS' := upS S _ (Nat.le_refl _) hS
    have up : ∀ b o, b ≠ S → h'.get? b = some o → (h'.update S (Obj.mapSeq (·.push (Value.ref h.objs.size)))).get? b = some o := fun b o hb e => (Heap.get?_update_other _ _ (Ne.symm hb)).trans e
    show wpAny _ A.in1 (updateSeq S (·.push (Value.ref h.objs.size)) >>= _) _ _ _
    refine wpAny_bind ?_
    refine wpAny_updateSeq hS' rfl (wpAny_pure ⟨plainId_quiet PySem.F.plain_extend_loop _, ih (i + 1) _ tk _ (acc.push (Value.ref h.objs.size)) (as ++ [h.objs.size]) (by omega) (by omega) (st'.keep P up)
      (fun b o e => up b o (Nat.ne_of_lt (Nat.lt_trans (old e) loS)) (dn b o (old e) (hkeep b o e))) (Heap.get?_update_self _ hS' rfl) (by rw [Array.toList_push, hacc, List.map_append]; rfl) (by rw [List.length_append, hal]; rfl) ⟨?_, ?_, ?_⟩⟩)
      (by rw [hsz]; omega) (by show (acc.push (Value.ref h.objs.size)).size ≤ sizeLine + 1; rw [Array.size_push, hsz]; omega)
    · refine List.pairwise_append.mpr ⟨hG.rise, List.pairwise_singleton _ _, fun a ha b hb => ?_⟩
      rw [List.mem_singleton.mp hb]
      exact hG.there ha
    · intro a ha
      rcases List.mem_append.mp ha with ha | ha
      · exact hG.above a ha
      · rw [List.mem_singleton.mp ha]; exact hSl
    · intro j b hj
      rcases Nat.lt_trichotomy j as.length with q | q | q
      · rw [List.getElem?_append_left q] at hj
        obtain ⟨x', y', e1, e2, e3⟩ := hG.pairs j b hj
        have hb := hG.above b (List.mem_of_getElem? hj)
        exact ⟨x', y', e1, e2, up b _ (Nat.ne_of_gt hb) (upS b _ (Nat.le_of_lt hb) e3)⟩
      · subst q
        have hb : h.objs.size = b := by simpa using hj
        subst hb
        exact ⟨_, _, by rw [hal]; exact Array.getElem?_eq_getElem hx, by rw [hal]; exact Array.getElem?_eq_getElem hy, up _ _ (Nat.ne_of_gt hSl) ht⟩
      · have hnone : (as ++ [h.objs.size])[j]? = none := List.getElem?_eq_none (by rw [List.length_append, List.length_singleton]; omega)
        rw [hnone] at hj; cases hj
end
theorem zip_no_len : typeLookup (.type "zip") "__len__" = pure none := by rw [typeLookup_type, builtinLookup_eq_fast]; kernel_rfl
theorem zip_no_hint : typeLookup (.type "zip") "__length_hint__" = pure none := by rw [typeLookup_type, builtinLookup_eq_fast]; kernel_rfl
end TFZT

namespace TFZT
open PySem PySem.Calls PyProof.Rows PyProof.V PySem.Spec
theorem ZSt.type {h : Heap} {z TI TO i1 i2 l1 l2 S : Addr} {xs ys : Array Value} {i : Nat} (x : ZSt h z TI TO i1 i2 l1 l2 S xs ys i) {s : Shared} (e : s.heap = h) : s.TypeIs (.ref z) "zip" := by
  rcases x.zip with ⟨q, _⟩ | ⟨_, _, _, q, _⟩
  · exact ⟨_, by rw [e]; exact q, rfl⟩
  · exact ⟨_, by rw [e]; exact q, rfl⟩
section
variable {prog : Program} {w : World} {A : Around} {E : Value → Shared → Prop} {s : Shared} {z TI TO i1 i2 l1 l2 S lo : Addr} {xs ys : Array Value}
theorem z_extend {R : Result → Shared → Prop} (hh : A.handled = none) (P : ZAt z TI TO i1 i2 l1 l2 S lo) (n : Nat) (hnn : n = min xs.size ys.size) (hn : n ≤ sizeLine) (res : Value) {h₁ : Heap} (hlo : h₁.objs.size ≤ lo) (c₀ : Nat)
    (hz0 : IsZip s.heap z TI TO .none) (st : ZSt s.heap z TI TO i1 i2 l1 l2 S xs ys 0) (hkeep : ∀ b o, h₁.get? b = some o → s.heap.get? b = some o) (hS : lstAt s.heap S #[] c₀)
    (hR : ∀ h' tk acc c as, (∀ b o, h₁.get? b = some o → h'.get? b = some o) → lstAt h' S acc c → as.length = n → ZG xs ys S h' as → acc.toList = as.map Value.ref →
      R (.ok (.ret res)) { s with heap := h', toks := tk }) :
    wpAny (model prog w) A.in1 (Builtin.List.listExtendWith (.ref S) (.ref z) res)
      (fun fin s' => match fin with | .done f => R (.ok f) s' | .again c' => c'.quiet = true ∧ codeAny (model prog w) A c' R s') (fun e s' => R (.error e) s') s := by
  have hSz : S ≠ z := Nat.ne_of_gt P.zS
  have loS : lo < S := Nat.lt_of_le_of_lt P.loz P.zS
  have key : ∀ (h : Heap) (c₁ tk : Nat), (∀ b o, b ≠ S → s.heap.get? b = some o → h.get? b = some o) → lstAt h S #[] c₁ →
      codeAny (model prog w) A (.builtin "list.extend.loop" ⟨[.ref S, .ref z, res], []⟩) R { s with heap := h, toks := tk } := fun h c₁ tk hk hS₁ =>
    z_loop (s := s) hh P n hnn hn res hlo hR n 0 h tk c₁ #[] [] (Nat.sub_zero _) (Nat.zero_le _) (st.keep P hk)
      (fun b o e => hk b o (Nat.ne_of_lt (Nat.lt_trans (Nat.lt_of_lt_of_le (Heap.lt_size e) hlo) loS)) (hkeep b o e)) hS₁ rfl rfl ⟨List.Pairwise.nil, (fun _ ha => nomatch ha), (fun j a hj => by simp at hj)⟩
  unfold Builtin.List.listExtendWith
  refine wpAny_bind (wpAny_typeOf (st.type rfl) ?_)
  have e1 : Builtin.List.listSameRef (.ref S) (.ref z) = false := by simp [Builtin.List.listSameRef, hSz]
  have e2 : (Value.type "zip" == Value.type "list") = false := by decide
  have e3 : (Value.type "zip" == Value.type "tuple") = false := by decide
  simp only [e1, e2, e3, Bool.or_false, Bool.false_eq_true, if_false]
  refine wpAny_bind (wpAny_pyIter_zip hz0 ?_)
  refine wpAny_bind (wpAny_holding ?_)
  unfold Builtin.List.listLengthHint
  refine wpAny_bind (wpAny_specialOf (st.type rfl) zip_no_len ?_)
  show wpAny _ A.in1 (specialOf (Value.ref z) (Str.ofString "__length_hint__") >>= _) _ _ _
  refine wpAny_bind (wpAny_specialOf (st.type rfl) zip_no_hint ?_)
  refine wpAny_pure ?_
  show wpAny _ A.in1 (rule "list.extend.makes-room" >>= fun _ => Builtin.List.listTouch (.ref S) >>= fun _ => again (.builtin "list.extend.loop" ⟨[.ref S, .ref z, res], []⟩)) _ _ _
  refine wpAny_bind (wpAny_rule ?_)
  refine wpAny_bind ?_
  show wpAny _ _ (updateSeq S (·.push .none) >>= fun _ => updateSeq S (·.pop)) _ _ _
  refine wpAny_bind (wpAny_updateSeq hS rfl ?_)
  have hS₂ := Heap.get?_update_self (Obj.mapSeq (·.push Value.none)) hS rfl
  refine wpAny_updateSeq (hz := by seq_fits) hS₂ rfl ?_
  have hS₃ := Heap.get?_update_self (Obj.mapSeq (·.pop)) hS₂ rfl
  refine wpAny_pure ⟨plainId_quiet PySem.F.plain_extend_loop _, key _ _ _ (fun b o hb e => ?_) hS₃⟩
  exact (Heap.get?_update_other _ _ (Ne.symm hb)).trans ((Heap.get?_update_other _ _ (Ne.symm hb)).trans e)
theorem z_init {R : Result → Shared → Prop} (hh : A.handled = none) (P : ZAt z TI TO i1 i2 l1 l2 S lo) (n : Nat) (hnn : n = min xs.size ys.size) (hn : n ≤ sizeLine) {h₁ : Heap} (hlo : h₁.objs.size ≤ lo)
    (hz0 : IsZip s.heap z TI TO .none) (st : ZSt s.heap z TI TO i1 i2 l1 l2 S xs ys 0) (hkeep : ∀ b o, h₁.get? b = some o → s.heap.get? b = some o) (hS : s.heap.get? S = some { cls := .type "list", data := .seq #[] })
    (hR : ∀ h' tk acc c as, (∀ b o, h₁.get? b = some o → h'.get? b = some o) → lstAt h' S acc c → as.length = n → ZG xs ys S h' as → acc.toList = as.map Value.ref →
      R (.ok (.ret .none)) { s with heap := h', toks := tk }) :
    wpAny (model prog w) A.in1 (Builtin.«list.__init__» ⟨[.ref S, .ref z], []⟩)
      (fun fin s' => match fin with | .done f => R (.ok f) s' | .again c' => c'.quiet = true ∧ codeAny (model prog w) A c' R s') (fun e s' => R (.error e) s') s := by
  have loS : lo < S := Nat.lt_of_le_of_lt P.loz P.zS
  show wpAny _ _ (do let old ← Builtin.List.listItems (.ref S); Builtin.List.listUpdate (.ref S) (fun _ => #[]); letGo old.toList.reverse; Builtin.List.listExtendWith (.ref S) (.ref z) .none) _ _ s
  refine wpAny_bind ?_
  unfold Builtin.List.listItems
  refine wpAny_bind (wpAny_seqItems hS rfl (wpAny_pure ?_))
  show wpAny _ _ (updateSeq S (fun _ => #[]) >>= fun _ => letGo (#[] : Array Value).toList.reverse >>= fun _ => Builtin.List.listExtendWith (.ref S) (.ref z) .none) _ _ s
  refine wpAny_bind (wpAny_updateSeq hS rfl ?_)
  have hS₂ := Heap.get?_update_self (Obj.mapSeq (fun _ => (#[] : Array Value))) hS rfl
  have oth : ∀ b o, b ≠ S → s.heap.get? b = some o → (s.heap.update S (Obj.mapSeq (fun _ => (#[] : Array Value)))).get? b = some o :=
    fun b o hb e => (Heap.get?_update_other _ _ (Ne.symm hb)).trans e
  refine wpAny_bind (wpAny_letGo ?_)
  exact z_extend hh P n hnn hn .none hlo _ (oth _ _ (Nat.ne_of_lt P.zS) hz0) (st.keep P oth)
    (fun b o e => oth b o (Nat.ne_of_lt (Nat.lt_trans (Nat.lt_of_lt_of_le (Heap.lt_size e) hlo) loS)) (hkeep b o e)) hS₂ hR
/-- list(zip) right behind the zip's making -/
theorem z_call {Q : Value → Shared → Prop} (hh : A.handled = none) (hl1 : s.heap.IsTuple l1 xs) (hl2 : s.heap.IsTuple l2 ys) {h₀ : Heap} (hlo : h₀.objs.size + 5 = s.heap.objs.size) (ha : l1 < h₀.objs.size) (hb : l2 < h₀.objs.size)
    (hz : IsZip s.heap (h₀.objs.size + 4) (h₀.objs.size + 2) (h₀.objs.size + 3) .none) (hTI : IsPair s.heap (h₀.objs.size + 2) (.ref h₀.objs.size) (.ref (h₀.objs.size + 1)))
    (hTO : IsPair s.heap (h₀.objs.size + 3) .none .none) (h1 : s.heap.IsTupleIter h₀.objs.size l1 0) (h2 : s.heap.IsTupleIter (h₀.objs.size + 1) l2 0) (hk : ∀ b o, h₀.get? b = some o → s.heap.get? b = some o)
    (n : Nat) (hnn : n = min xs.size ys.size) (hn : n ≤ sizeLine)
    (hQ : ∀ h' tk acc c as, (∀ b o, h₀.get? b = some o → h'.get? b = some o) → lstAt h' (h₀.objs.size + 5) acc c → as.length = n → ZG xs ys (h₀.objs.size + 5) h' as → acc.toList = as.map Value.ref →
      Q (.ref (h₀.objs.size + 5)) { s with heap := h', toks := tk }) :
    wpAny (model prog w) A (call (.type "list") [.ref (h₀.objs.size + 4)]) Q E s := by
  refine callType_codes (Q₁ := fun obj s₁ => obj = .ref s.heap.objs.size ∧ s₁ = { s with heap := s.heap.push { cls := .type "list", data := .seq #[] } }) PySem.F.called_list (PySem.F.typeCall_list_1 _) PySem.F.entry_list_init
    (code_list_new _ ⟨rfl, rfl⟩) fun obj s₁ h₁ => ?_
  obtain ⟨rfl, rfl⟩ := h₁
  have hS : (s.heap.push { cls := .type "list", data := .seq #[] }).get? s.heap.objs.size = some { cls := .type "list", data := .seq #[] } := Heap.get?_push_size _ rfl
  have lt5 : ∀ k : Nat, k < 5 → h₀.objs.size + k < s.heap.objs.size := fun k hk => by rw [← hlo]; exact Nat.add_lt_add_left hk _
  have P : ZAt (h₀.objs.size + 4) (h₀.objs.size + 2) (h₀.objs.size + 3) h₀.objs.size (h₀.objs.size + 1) l1 l2 s.heap.objs.size h₀.objs.size :=
    ⟨PySem.W.ktu_apart h₀.objs.size l1 l2 ha hb, lt5 4 (by decide), lt5 2 (by decide), lt5 3 (by decide), lt5 0 (by decide), lt5 1 (by decide), Nat.le_add_right _ _, Nat.le_add_right _ _, Nat.le_add_right _ _, Nat.le_refl _, Nat.le_add_right _ _, ha, hb⟩
  have up : ∀ b o, s.heap.get? b = some o → (s.heap.push { cls := .type "list", data := .seq #[] }).get? b = some o := fun b o e => Heap.get?_push_of_some _ e
  have st : ZSt (s.heap.push { cls := .type "list", data := .seq #[] }) (h₀.objs.size + 4) (h₀.objs.size + 2) (h₀.objs.size + 3) h₀.objs.size (h₀.objs.size + 1) l1 l2 s.heap.objs.size xs ys 0 :=
    ⟨.inl ⟨up _ _ hz, _, _, up _ _ hTO⟩, up _ _ hTI, h1.at fun o e => up _ o e, h2.at fun o e => up _ o e, hl1.at fun o e => up _ o e, hl2.at fun o e => up _ o e⟩
  refine ⟨⟨_, hS, rfl⟩, PySem.F.args_list_init_2 _ _, z_init (A := A.in1) hh P n hnn hn (Nat.le_refl _) (up _ _ hz) st (fun b o e => up b o (hk b o e)) hS (fun h' tk acc c as g1 g2 g3 g4 g5 => ?_)⟩
  rw [← hlo] at g2 g4
  rw [← hlo]
  exact ⟨rfl, hQ h' tk acc c as g1 g2 g3 g4 g5⟩
end
end TFZT

namespace TFT
open PySem PySem.Spec PyProof.Rows L2 TFZT
/-- the pairs at their places -/
def putP : Hp → List Addr → List (V × V) → Hp
  | H, a :: as, p :: ps => putP (upd H a (.tup [p.1, p.2])) as ps
  | H, _, _ => H
theorem putP_off {b : Addr} : ∀ (as : List Addr) (ps : List (V × V)) (H : Hp), b ∉ as → putP H as ps b = H b
  | [], _, _, _ => rfl
  | _ :: _, [], _, _ => rfl
  | a :: as, p :: ps, H, h => by
    have h2 : b ≠ a ∧ b ∉ as := ⟨fun z => h (by rw [z]; exact List.mem_cons_self), fun z => h (List.mem_cons_of_mem _ z)⟩
    show putP (upd H a (.tup [p.1, p.2])) as ps b = H b
    rw [putP_off as ps _ h2.2, upd_ne h2.1]
theorem putP_at : ∀ (as : List Addr) (ps : List (V × V)) (H : Hp), as.Nodup → ∀ (j : Nat) (a : Addr) (p : V × V), as[j]? = some a → ps[j]? = some p → putP H as ps a = some (.tup [p.1, p.2])
  | [], _, _, _, j, a, p, h, _ => by simp at h
  | _ :: _, [], _, _, j, a, p, _, h => by simp at h
  | b :: as, q :: ps, H, hn, 0, a, p, h, h' => by
    have e1 : b = a := Option.some.inj h
    have e2 : q = p := Option.some.inj h'
    subst e1 e2
    show putP (upd H b (.tup [q.1, q.2])) as ps b = _
    rw [putP_off as ps _ (List.nodup_cons.mp hn).1, upd_same]
  | b :: as, q :: ps, H, hn, j + 1, a, p, h, h' => putP_at as ps _ (List.nodup_cons.mp hn).2 j a p h h'
section
variable {X : Cx} {pins : List (Addr × Obj)} {σ : L2.St} {H : Hp} {s : Shared}
theorem refs_vals : ∀ as : List Addr, Vals (as.map V.ref) (as.map Value.ref)
  | [] => .nil
  | _ :: as => .cons rfl (refs_vals as)
theorem pairs_laid {h' : Heap} {tk : Nat} {S : Addr} {xs ys : List V} {us ws : List Value} {acc : Array Value} {c : Nat} {as : List Addr} (I : Inv X pins σ H s) (hSz : s.heap.objs.size ≤ S)
    (rx : Vals xs us) (ry : Vals ys ws) (hz : as.length ≤ sizeLine) (hal : as.length = min xs.length ys.length) (hk : ∀ b o, s.heap.get? b = some o → h'.get? b = some o) (hS : lstAt h' S acc c)
    (hG : ZG us.toArray ws.toArray S h' as) (hacc : acc.toList = as.map Value.ref) :
    ∃ H' : Hp, (∀ b o, H b = some o → H' b = some o) ∧ H S = none ∧ H' S = some (.lst (as.map V.ref)) ∧
      (∀ (j : Nat) (a : Addr) (x y : V), as[j]? = some a → xs[j]? = some x → ys[j]? = some y → H' a = some (.tup [x, y])) ∧ Inv X pins σ H' { s with heap := h', toks := tk } := by
  have hSn : S ∉ as := fun z => Nat.lt_irrefl _ (hG.above _ z)
  have nd : as.Nodup := List.Pairwise.imp (fun {a b} (h : a < b) => Nat.ne_of_lt h) hG.rise
  have big : ∀ t ∈ as, s.heap.objs.size ≤ t := fun t ht => Nat.le_of_lt (Nat.lt_of_le_of_lt hSz (hG.above t ht))
  have new : ∀ t ∈ as, H t = none := fun t ht => I.hok.fresh (big t ht)
  have newS : H S = none := I.hok.fresh hSz
  have lz : (xs.zip ys).length = as.length := by rw [List.length_zip, hal]
  have zat : ∀ (j : Nat) (x y : V), xs[j]? = some x → ys[j]? = some y → (xs.zip ys)[j]? = some (x, y) := fun j x y e1 e2 => by
    rw [List.getElem?_zip_eq_some]; exact ⟨e1, e2⟩
  have atP : ∀ (j : Nat) (a : Addr) (x y : V), as[j]? = some a → xs[j]? = some x → ys[j]? = some y → putP (upd H S (.lst (as.map V.ref))) as (xs.zip ys) a = some (.tup [x, y]) :=
    fun j a x y e0 e1 e2 => putP_at as (xs.zip ys) _ nd j a (x, y) e0 (zat j x y e1 e2)
  have off : ∀ b, b ∉ as → b ≠ S → putP (upd H S (.lst (as.map V.ref))) as (xs.zip ys) b = H b := fun b h1 h2 => by rw [putP_off as _ _ h1, upd_ne h2]
  have low : ∀ b o, s.heap.get? b = some o → b ∉ as ∧ b ≠ S := fun b o e => ⟨fun z => absurd (Heap.lt_size e) (Nat.not_lt.mpr (big b z)), Nat.ne_of_lt (Nat.lt_of_lt_of_le (Heap.lt_size e) hSz)⟩
  have kp : ∀ b u, H b = some u → (putP (upd H S (.lst (as.map V.ref))) as (xs.zip ys)) b = some u := fun b u e => by
    rw [off b (fun z => by rw [new b z] at e; cases e) (fun z => by rw [z, newS] at e; cases e)]
    exact e
  have eS : putP (upd H S (.lst (as.map V.ref))) as (xs.zip ys) S = some (.lst (as.map V.ref)) := by rw [putP_off as _ _ hSn, upd_same]
  refine ⟨putP (upd H S (.lst (as.map V.ref))) as (xs.zip ys), kp, newS, eS, atP, ?_⟩
  refine I.call' (ch := []) rfl ⟨fun b o q _ _ _ => hk b o q, fun b o q _ _ _ => ⟨o.slots, hk b o q⟩, fun b o q n _ => ?_, fun b o q _ => ⟨o, hk b o q⟩, fun b xs q => kp b _ q, fun b o u q => kp b _ q, fun b ps q => ⟨#[], by rw [kp b _ q]; simp⟩⟩ (fun b u q => ?_) I.bare fun b z => by simp at z
  · obtain ⟨z1, z2⟩ := low b o q
    rw [off b z1 z2]
    exact n
  · by_cases hb : b ∈ as
    · obtain ⟨j, hj⟩ := List.mem_iff_getElem?.mp hb
      have hjl : j < as.length := (List.getElem?_eq_some_iff.mp hj).1
      have hjx : j < xs.length := by omega
      have hjy : j < ys.length := by omega
      obtain ⟨u1, f1, r1⟩ := rx.get (List.getElem?_eq_getElem hjx)
      obtain ⟨u2, f2, r2⟩ := ry.get (List.getElem?_eq_getElem hjy)
      obtain ⟨a1, a2, g1, g2, g3⟩ := hG.pairs j b hj
      have g1' : us[j]? = some a1 := by simpa using g1
      have g2' : ws[j]? = some a2 := by simpa using g2
      have d1 : u1 = a1 := Option.some.inj (f1.symm.trans g1')
      have d2 : u2 = a2 := Option.some.inj (f2.symm.trans g2')
      subst d1 d2
      rw [atP j b _ _ hj (List.getElem?_eq_getElem hjx) (List.getElem?_eq_getElem hjy)] at q
      cases q
      exact ⟨by show 2 ≤ sizeLine; decide, [u1, u2], .cons r1 (.cons r2 .nil), ⟨_, g3, rfl, _, rfl⟩⟩
    · by_cases hb2 : b = S
      · rw [hb2] at q ⊢
        rw [eS] at q
        cases q
        refine ⟨by rw [List.length_map]; exact hz, acc.toList, c, by rw [hacc]; exact refs_vals as, ?_⟩
        rw [Array.toArray_toList]
        exact hS
      · rw [off b hb hb2] at q
        exact (I.hok b u q).stay (fun d v _ y => hk d v y) (fun d y => kp d _ y) fun d xs y => kp d _ y
/-- list(zip(e, e2)) of two lists -/
def tListZipT (K : PySem.W.Frag) (ta : TA) : TE := fun σ H Q => ta σ H fun vs H1 => ∃ (a b : Addr) (xs ys : List V), vs = [.ref a, .ref b] ∧ SqT K H1 a xs ∧ SqT K H1 b ys ∧
  ∀ (H' : Hp) (p : Addr) (ts : List Addr), (∀ b o, H1 b = some o → H' b = some o) → H1 p = none → H' p = some (.lst (ts.map V.ref)) → ts.length = min xs.length ys.length →
    (∀ (j : Nat) (t : Addr) (x y : V), ts[j]? = some t → xs[j]? = some x → ys[j]? = some y → H' t = some (.tup [x, y])) → Q (.ref p) H'
theorem pe_listZipT {e e2 : Expr} {ta : TA} {p p2 cpos pos : Pos} (hc : X.calm = true) (hg : Gl X "list") (hm : X.mg "list" = none) (hg2 : Gl X "zip") (hm2 : X.mg "zip" = none) (ha : PA X [e, e2] ta)
    (hv : bootBuiltins "list" = some (.type "list")) (hs2 : starEach [e, e2] X.env = (false, eval e X.env) :: starEach [e2] X.env := by rfl) (hpl : (backTo cpos (starEach [e2] X.env)).any (·.1) = false := by rfl)
    (hs : starEach [.Call (.Name "zip" p2) [e, e2] [] cpos] X.env = (false, eval (.Call (.Name "zip" p2) [e, e2] [] cpos) X.env) :: starEach [] X.env := by rfl) :
    PE X (.Call (.Name "list" p) [.Call (.Name "zip" p2) [e, e2] [] cpos] [] pos) (tListZipT X.K ta) := by
  refine ⟨fun pins s σ H Q I hq => ?_⟩
  refine wpAny_Call_Name_kw (ld_blt I hg hm hv ?_)
  refine PyProof.Rows.callWith_type1 ?_ hs rfl
  rw [hs]
  show wpAny _ _ (spliced ((false, eval (.Call (.Name "zip" p2) [e, e2] [] cpos) X.env) :: backTo pos (starEach [] X.env))) _ _ s
  refine Calls.spliced_cons ?_
  refine Call_ (ld_blt I hg2 hm2 PyProof.Rows.boot_zip (PyProof.Rows.callWith_type1 (thn (ha.run cpos pins s σ H _ I hq) fun us s1 ⟨vs, H1, I1, r1, q1⟩ => ?_) hs2 hpl))
  obtain ⟨a, b, xs, ys, ex, hqx, hqy, q⟩ := q1
  subst ex
  cases r1 with
  | cons r rr =>
    cases rr with
    | cons r' rr =>
      cases rr
      cases r
      cases r'
      obtain ⟨its, rv, p1, z1⟩ := I1.tuple hqx
      obtain ⟨its2, rv2, p2', z2⟩ := I1.tuple hqy
      have la : a < s1.heap.objs.size := by obtain ⟨_, z, _⟩ := p1; exact Heap.lt_size z
      have lb : b < s1.heap.objs.size := by obtain ⟨_, z, _⟩ := p2'; exact Heap.lt_size z
      refine RZ.call_zipT p1 p2' fun h' hz hTI hTO h1 h2 hsz hk => ?_
      refine Calls.spliced_nil ?_
      have I2 : Inv X pins σ H1 { s1 with heap := h' } := I1.kept (t' := s1.toks) hk
      have lx := rv.length
      have ly := rv2.length
      refine z_call (s := { s1 with heap := h' }) (h₀ := s1.heap) (I1.ok.hd hc) (Heap.IsTuple.at p1 fun o e => hk _ o e) (Heap.IsTuple.at p2' fun o e => hk _ o e) (by show _ = h'.objs.size; rw [hsz]) la lb hz hTI hTO h1 h2 hk (min xs.length ys.length) (by rw [List.size_toArray, List.size_toArray, lx, ly]) (Nat.le_trans (Nat.min_le_left _ _) z1)
        fun h3 tk acc c as g1 g2 g3 g4 g5 => ?_
      obtain ⟨H', k1, k2, k3, k4, J⟩ := pairs_laid (tk := tk) I1 (Nat.le_add_right _ 5) rv rv2 (by rw [g3]; exact Nat.le_trans (Nat.min_le_left _ _) z1) g3 g1 g2 g4 g5
      exact ⟨.ref _, H', J, rfl, q H' _ as k1 k2 k3 g3 k4⟩
end
end TFT

/-! max(xs) of a list of data that compare with one another -/
namespace L2
open PySem PySem.Spec PyProof.Rows
def rMaxD (K : PySem.W.Frag) : List V → Hp → VK → Prop := fun vs H Q => ∃ (a : Addr) (xs : List V) (d : PyData) (ds : List PyData), vs = [V.ref a] ∧ SqL K H a xs ∧ DpAll K H xs (d :: ds) ∧ PySem.W.AlikeAll (d :: ds) ∧ PyData.depthAll (d :: ds) ≤ 10 ∧
  ∀ (i : Nat) (x : V), xs[i]? = some x → (d :: ds)[i]? = some (PySem.W.maxD d ds) → Q x H
theorem cr_maxD {X : Cx} (hc : X.calm = true) (hu : X.A.units + 64 < cLine) : CallR X (.builtin "max") (rMaxD X.K) := by
  intro pins s σ H vs us Q I r h
  obtain ⟨a, xs, d, ds, rfl, hs, hd, al, dep, q⟩ := h
  obtain ⟨its, rv, hl, _⟩ := I.list hs
  rw [Vals.ref1 r]
  obtain ⟨as, ra⟩ := Dp.readsAll I _ _ its hd rv
  refine PySem.W.max_list_data (I.ok.hd hc) hl.isList (by simpa using ra) al (by omega) fun i v h' tk bs hv rd hk => ?_
  have hv' : its[i]? = some v := by simpa using hv
  obtain ⟨bs', r', hlt, _, _⟩ := PySem.W.readsAll_at ra i v hv'
  have hix : i < xs.length := by
    rw [rv.length]
    exact (List.getElem?_eq_some_iff.mp hv').1
  obtain ⟨w, ew, rw'⟩ := rv.get (List.getElem?_eq_getElem hix)
  rw [hv'] at ew
  obtain rfl := Option.some.inj ew
  have same := (reads_det (fun b o e _ => hk b o e) r' rd).1
  refine ⟨xs[i], H, I.kept hk, rw', q i _ (List.getElem?_eq_getElem hix) ?_⟩
  rw [same, List.getD_eq_getElem?_getD, List.getElem?_eq_getElem hlt]
  rfl
end L2

/-! the greatest of some pairs of whole numbers; repr of one pair -/
namespace TF
open PySem PySem.Spec PyProof.Rows L2 TM
def pdI (p : Int × Int) : PyData := prI p.1 p.2
theorem maxD_prs : ∀ (ps : List (Int × Int)) (p : Int × Int), ∃ q, q ∈ p :: ps ∧ PySem.W.maxD (pdI p) (ps.map pdI) = pdI q ∧ ∀ r, r ∈ p :: ps → r.1 < q.1 ∨ (r.1 = q.1 ∧ r.2 ≤ q.2)
  | [], p => ⟨p, List.mem_cons_self, rfl, fun r hr => by
      obtain rfl := List.mem_singleton.mp hr
      exact .inr ⟨rfl, Int.le_refl _⟩⟩
  | a :: ps, p => by
    have e : PySem.W.maxD (pdI p) ((a :: ps).map pdI) = PySem.W.maxD (if PySem.W.dataLt (pdI p) (pdI a) then pdI a else pdI p) (ps.map pdI) := rfl
    have lt : PySem.W.dataLt (pdI p) (pdI a) = decide (p.1 < a.1 ∨ (p.1 = a.1 ∧ p.2 < a.2)) := PySem.W.dataLt_ii _ _ _ _
    by_cases c : p.1 < a.1 ∨ (p.1 = a.1 ∧ p.2 < a.2)
    · rw [lt, decide_eq_true c, if_pos rfl] at e
      obtain ⟨q, hq, h1, h2⟩ := maxD_prs ps a
      refine ⟨q, List.mem_cons_of_mem _ hq, by rw [e, h1], fun r hr => ?_⟩
      rcases List.mem_cons.mp hr with rfl | hr
      · have := h2 a List.mem_cons_self
        omega
      · exact h2 r hr
    · rw [lt, decide_eq_false c, if_neg (by decide)] at e
      obtain ⟨q, hq, h1, h2⟩ := maxD_prs ps p
      refine ⟨q, ?_, by rw [e, h1], fun r hr => ?_⟩
      · rcases List.mem_cons.mp hq with rfl | hq
        · exact List.mem_cons_self
        · exact List.mem_cons_of_mem _ (List.mem_cons_of_mem _ hq)
      · rcases List.mem_cons.mp hr with rfl | hr
        · exact h2 r List.mem_cons_self
        · rcases List.mem_cons.mp hr with rfl | hr
          · have := h2 p List.mem_cons_self
            omega
          · exact h2 r (List.mem_cons_of_mem _ hr)
theorem prs_alike (ps : List (Int × Int)) : PySem.W.AlikeAll (ps.map pdI) := by
  refine ⟨fun x hx y hy => ?_, fun x hx z => ?_⟩
  · obtain ⟨a, _, rfl⟩ := List.mem_map.mp hx
    obtain ⟨b, _, rfl⟩ := List.mem_map.mp hy
    simp [pdI, prI, PySem.W.alike, PySem.W.alikeAll]
  · obtain ⟨a, _, rfl⟩ := List.mem_map.mp hx
    cases z
theorem prs_depth1 (ps : List (Int × Int)) : PyData.depthAll (ps.map pdI) ≤ 10 := Nat.le_trans (prs_depth ps) (by decide)
theorem pdI_inj {p q : Int × Int} (h : pdI p = pdI q) : p = q := by
  obtain ⟨a, b⟩ := p
  obtain ⟨c, d⟩ := q
  simp only [pdI, prI, PyData.tuple.injEq, List.cons.injEq, PyData.int.injEq, and_true] at h
  rw [h.1, h.2]
/-- what repr asks of one pair -/
theorem pr_repr {a b : Int} (ha : a.natAbs.log2 < 1920) (hb : b.natAbs.log2 < 1920) : (prI a b).showable = true ∧ (prI a b).hasDict = false ∧ (prI a b).depth ≤ 60 ∧ (prI a b).shown.length ≤ sizeLine :=
  ⟨prI_show ha hb, prI_nodict a b, by rw [prI_depth]; decide, Nat.le_trans (shown_prI ha hb) (by decide)⟩
end TF

/-! min(xs) of a list of data that compare with one another -/
namespace L2
open PySem PySem.Spec PyProof.Rows
def rMinD (K : PySem.W.Frag) : List V → Hp → VK → Prop := fun vs H Q => ∃ (a : Addr) (xs : List V) (d : PyData) (ds : List PyData), vs = [V.ref a] ∧ SqL K H a xs ∧ DpAll K H xs (d :: ds) ∧ PySem.W.AlikeAll (d :: ds) ∧ PyData.depthAll (d :: ds) ≤ 10 ∧
  ∀ (i : Nat) (x : V), xs[i]? = some x → (d :: ds)[i]? = some (PySem.W.minD d ds) → Q x H
theorem cr_minD {X : Cx} (hc : X.calm = true) (hu : X.A.units + 64 < cLine) : CallR X (.builtin "min") (rMinD X.K) := by
  intro pins s σ H vs us Q I r h
  obtain ⟨a, xs, d, ds, rfl, hs, hd, al, dep, q⟩ := h
  obtain ⟨its, rv, hl, _⟩ := I.list hs
  rw [Vals.ref1 r]
  obtain ⟨as, ra⟩ := Dp.readsAll I _ _ its hd rv
  refine PySem.W.min_list_data (I.ok.hd hc) hl.isList (by simpa using ra) al (by omega) fun i v h' tk bs hv rd hk => ?_
  have hv' : its[i]? = some v := by simpa using hv
  obtain ⟨bs', r', hlt, _, _⟩ := PySem.W.readsAll_at ra i v hv'
  have hix : i < xs.length := by
    rw [rv.length]
    exact (List.getElem?_eq_some_iff.mp hv').1
  obtain ⟨w, ew, rw'⟩ := rv.get (List.getElem?_eq_getElem hix)
  rw [hv'] at ew
  obtain rfl := Option.some.inj ew
  have same := (reads_det (fun b o e _ => hk b o e) r' rd).1
  refine ⟨xs[i], H, I.kept hk, rw', q i _ (List.getElem?_eq_getElem hix) ?_⟩
  rw [same, List.getD_eq_getElem?_getD, List.getElem?_eq_getElem hlt]
  rfl
end L2
/-! the least of some triples -/
namespace TF
open PySem PySem.Spec PyProof.Rows L2 TM
def tri (p : Nat × Nat × Nat) : PyData := .tuple [.int (p.1 : Int), .int (p.2.1 : Int), .int (p.2.2 : Int)]
theorem tri_lt (p q : Nat × Nat × Nat) : PySem.W.dataLt (tri p) (tri q) = lt3 p q := by
  obtain ⟨a, b, c⟩ := p
  obtain ⟨x, y, z⟩ := q
  unfold PySem.W.dataLt tri lt3
  simp [PySem.W.keyToks, PySem.W.keyToksAll, PyProof.Rows.lexLt, itemOrd, itemLt]
  by_cases h1 : a < x
  · simp [h1]
  · by_cases h2 : a = x
    · subst h2
      by_cases h3 : b < y
      · simp [h3]
      · by_cases h4 : b = y
        · subst h4; simp
        · have : y < b := by omega
          simp [h3, h4, this]
    · have : x < a := by omega
      simp [h1, h2, this]
theorem minD_tri : ∀ (ts : List (Nat × Nat × Nat)) (t : Nat × Nat × Nat), PySem.W.minD (tri t) (ts.map tri) = tri (minT t ts)
  | [], _ => rfl
  | a :: ts, t => by
    have e : PySem.W.minD (tri t) ((a :: ts).map tri) = PySem.W.minD (if PySem.W.dataLt (tri a) (tri t) then tri a else tri t) (ts.map tri) := rfl
    rw [e, tri_lt]
    by_cases c : lt3 a t = true
    · rw [if_pos c, minD_tri ts a]
      unfold minT
      rw [List.foldl_cons, if_pos c]
    · rw [if_neg c, minD_tri ts t]
      unfold minT
      rw [List.foldl_cons, if_neg c]
theorem tris_alike (ps : List (Nat × Nat × Nat)) : PySem.W.AlikeAll (ps.map tri) := by
  refine ⟨fun x hx y hy => ?_, fun x hx z => ?_⟩
  · obtain ⟨a, _, rfl⟩ := List.mem_map.mp hx
    obtain ⟨b, _, rfl⟩ := List.mem_map.mp hy
    simp [tri, PySem.W.alike, PySem.W.alikeAll]
  · obtain ⟨a, _, rfl⟩ := List.mem_map.mp hx
    cases z
theorem tris_depth : ∀ (ps : List (Nat × Nat × Nat)), PyData.depthAll (ps.map tri) ≤ 10
  | [] => Nat.zero_le _
  | a :: ps => by
    have := tris_depth ps
    simp only [List.map_cons, PyData.depthAll]
    refine Nat.max_le.mpr ⟨?_, this⟩
    simp [tri, PyData.depth, PyData.depthAll]
theorem tri_inj {p q : Nat × Nat × Nat} (h : tri p = tri q) : p = q := by
  obtain ⟨a, b, c⟩ := p
  obtain ⟨x, y, z⟩ := q
  simp only [tri, PyData.tuple.injEq, List.cons.injEq, PyData.int.injEq, and_true] at h
  obtain ⟨h1, h2, h3⟩ := h
  rw [Int.ofNat.inj h1, Int.ofNat.inj h2, Int.ofNat.inj h3]
end TF

/-! max of a tuple of numbers -/
namespace L2
open PySem PySem.Spec PyProof.Rows
def rMaxDT (K : PySem.W.Frag) : List V → Hp → VK → Prop := fun vs H Q => ∃ (a : Addr) (xs : List V) (d : PyData) (ds : List PyData), vs = [V.ref a] ∧ SqT K H a xs ∧ DpAll K H xs (d :: ds) ∧ PySem.W.AlikeAll (d :: ds) ∧ PyData.depthAll (d :: ds) ≤ 10 ∧
  ∀ (i : Nat) (x : V), xs[i]? = some x → (d :: ds)[i]? = some (PySem.W.maxD d ds) → Q x H
theorem cr_maxDT (K : PySem.W.Frag) {X : Cx} (hc : X.calm = true) (hu : X.A.units + 64 < cLine) (h : X.K = K := by rfl) : CallR X (.builtin "max") (rMaxDT K) := by
  subst h
  intro pins s σ H vs us Q I r h
  obtain ⟨a, xs, d, ds, rfl, hs, hd, al, dep, q⟩ := h
  obtain ⟨its, rv, hl, _⟩ := I.tuple hs
  rw [Vals.ref1 r]
  obtain ⟨as, ra⟩ := Dp.readsAll I _ _ its hd rv
  refine PySem.W.max_tuple_data (I.ok.hd hc) hl (by simpa using ra) al (by omega) fun i v h' tk bs hv rd hk => ?_
  have hv' : its[i]? = some v := by simpa using hv
  obtain ⟨bs', r', hlt, _, _⟩ := PySem.W.readsAll_at ra i v hv'
  have hix : i < xs.length := by
    rw [rv.length]
    exact (List.getElem?_eq_some_iff.mp hv').1
  obtain ⟨w, ew, rw'⟩ := rv.get (List.getElem?_eq_getElem hix)
  rw [hv'] at ew
  obtain rfl := Option.some.inj ew
  have same := (reads_det (fun b o e _ => hk b o e) r' rd).1
  refine ⟨xs[i], H, I.kept hk, rw', q i _ (List.getElem?_eq_getElem hix) ?_⟩
  rw [same, List.getD_eq_getElem?_getD, List.getElem?_eq_getElem hlt]
  rfl
end L2
namespace TF
open PySem PySem.Spec PyProof.Rows L2 TM
def pdn (n : Nat) : PyData := .int (n : Int)
theorem ints_alike (l : List Nat) : PySem.W.AlikeAll (l.map pdn) := by
  refine ⟨fun x hx y hy => ?_, fun x hx z => ?_⟩
  · obtain ⟨a, _, rfl⟩ := List.mem_map.mp hx
    obtain ⟨b, _, rfl⟩ := List.mem_map.mp hy
    rfl
  · obtain ⟨a, _, rfl⟩ := List.mem_map.mp hx
    cases z
theorem ints_dep : ∀ l : List Nat, PyData.depthAll (l.map pdn) ≤ 10
  | [] => Nat.zero_le _
  | a :: l => by
    have := ints_dep l
    simp only [List.map_cons, PyData.depthAll]
    exact Nat.max_le.mpr ⟨Nat.zero_le _, this⟩
/-- the greatest member of a stock cell -/
def hdD : List Nat → Option (PyData)
  | [] => none
  | a :: l => some (PySem.W.maxD (pdn a) (l.map pdn))
theorem stk8_max : ∀ f ∈ stk8, hdD f.2 = some (pdn (lastM f)) := by
  intro f hf
  simp only [stk8, List.mem_cons, List.not_mem_nil, or_false] at hf
  rcases hf with rfl | rfl | rfl | rfl | rfl | rfl | rfl | rfl <;> rfl
theorem pdn_inj {a b : Nat} (h : pdn a = pdn b) : a = b := Int.ofNat.inj (PyData.int.inj h)
end TF

/-! a static method called on its class; a method with *rest called by position -/
namespace L2
open PySem PySem.Spec PyProof.Rows
/-- C.m is a static method: its record at p, its def at g -/
structure SMet (K : PySem.W.Frag) (C : Addr) (mc : Value) (m : Str) (p g : Addr) : Prop where
  at_ : PySem.W.findCls K (.ref C) mc m = some (.get (.builtin "staticmethod.__get__") (.ref p) .none (.ref C))
  rc : ∃ rest, PySem.W.recIn K p "staticmethod" = some (.ref g :: rest)
  kp : PySem.W.keepIn K (.ref g) = true
def tSMeth (C : Addr) (sp : Sp) (E : XK) (ta : TE) (t : TA) : TE := fun σ H Q => ta σ H fun x H1 => x = .ref C ∧ t σ H1 fun vs H2 => sp vs H2 Q E
section
variable {X : Cx} {CX : CXT} {k : Nat} {C p g : Addr} {mc : Value} {sp : Sp} {E : XK} {o e : Expr} {es : List Expr} {f m : Str} {pos apos : Pos} {ta : TE} {t : TA} {pl : Sem Bool}
theorem pe_smeth (he : PE X o ta) (r : ClX.CRead X.K C mc) (c : SMet X.K C mc m p g) (F : FnR X.prog X.w X.K X.mg X.base CX k g sp) (hr : Room k X.A) (hx : Passes CX X E) (ha : PA X (e :: es) t)
    (hst : starEach (e :: es) X.env = (false, eval e X.env) :: starEach es X.env := by rfl) (hpl : (backTo pos (starEach es X.env)).any (·.1) = false := by rfl)
    (ht : eval (.Call (.Attribute o m apos) (e :: es) [] pos) X.env = (do
      let ov ← eval o X.env
      standAt apos.atName
      let (f, first) ← holding [ov] (getMethod ov m pl)
      callWith pos f first (backTo pos (starEach (e :: es) X.env)) (backToKw pos (keywordEach [] X.env))) := by rfl) :
    PE X (.Call (.Attribute o m apos) (e :: es) [] pos) (tSMeth C sp E ta t) := by
  refine ⟨fun pins s σ H Q I h => ?_⟩
  refine PySem.W.methodCall_KW (pl := pl) (thn (he.run pins s σ H _ I h) fun u s1 ⟨x, H1, I1, rx, ex, q⟩ => ?_) ht
  subst ex
  obtain rfl : u = Value.ref C := rx
  obtain ⟨rest, hp⟩ := c.rc
  refine PySem.W.method_cls I1.kIn r.ga ?_
  refine PySem.W.cls_bind I1.kIn r.rd c.at_ ?_
  refine wpAny_call (PySem.W.sm_get (s := { s1 with toks := s1.toks + 1 }) I1.kIn hp (PySem.W.handed_on rfl ?_))
  have I2 := I1.tok (s1.toks + 1)
  refine PySem.W.callWith_K (first := []) (h₀ := X.base) I2.ok.mod.kin c.kp (thn (ha.run pos pins _ σ H1 _ I2 q) fun us s3 ⟨vs, H2, I3, rv, q2⟩ => ⟨I3.kIn, ?_⟩) hst hpl
  exact wpAny_call (run_fnR F hr hx I3 rv q2)
end
/-! ### def m(self, *rest) -/
def StarB1 (fd : FuncData) (q pv : Str) : Prop := ∀ (u : Value) (rest : List Value), bindArgs fd ⟨u :: rest, []⟩ = (newTuple rest >>= fun t => pure [(q, u), (pv, t)])
def starSp1 (sp : Sp) : Sp := fun vs H Q E => ∃ a rest, vs = a :: rest ∧ rest.length ≤ sizeLine ∧ ∀ p, H p = none → sp [a, .ref p] (upd H p (.tup rest)) Q E
theorem Fun.starB1 {K : PySem.W.Frag} {x qual : Str} {st : Stmt} {f : Addr} {fd : FuncData} {q pv : Str} (F : Fun K x qual st f fd)
    (h0 : ∀ (kV doc pm : Value) (an : Option Addr) (cdv ct u : Value), bindArgs (PySem.W.fnOf x qual (defArgs st) (defBody st) (defScope st) .none kV doc pm an cdv ct) ⟨[u], []⟩ = (newTuple [] >>= fun t => pure [(q, u), (pv, t)]))
    (h1 : ∀ (kV doc pm : Value) (an : Option Addr) (cdv ct u r : Value) (rs : List Value), bindArgs (PySem.W.fnOf x qual (defArgs st) (defBody st) (defScope st) .none kV doc pm an cdv ct) ⟨u :: r :: rs, []⟩ = (newTuple (r :: rs) >>= fun t => pure [(q, u), (pv, t)])) : StarB1 fd q pv := by
  obtain ⟨oc, od, kV, doc, pm, an, cdv, ct, osl, rfl, lk, hcd⟩ := F.ex
  intro u rest
  cases rest with
  | nil => exact h0 kV doc pm an cdv ct u
  | cons r rs => exact h1 kV doc pm an cdv ct u r rs
theorem Fun.sok1 {P : Program} {w : World} {K : PySem.W.Frag} {mg : Str → Option Value} {base : Heap} {x qual : Str} {st : Stmt} {f : Addr} {fd : FuncData} {N : List Str} {q pv : Str} {k : Nat} {sp : Sp} (F : Fun K x qual st f fd) (S : FnScope N [q, pv] (defScope st)) (b : StarB1 fd q pv)
    (hbody : ∀ (cdv : Value) (A : Around) (outer : List Env) (s : Shared) (H : Hp) (vs : List V) (Q : VK) (E : XK), Room k (A.deeper (envOfC qual (defScope st) s.heap.objs.size f cdv)) → sp vs H Q E →
      ∃ t, PSs (cxOf CX0 P w K mg base N qual (defScope st) f cdv A outer s H E).nox (defBody st) t ∧ t { nx := fun _ H' => Q .non H', rt := Q } (start N vs) H) : FnR P w K mg base CX0 (k + 1) f (starSp1 sp) := by
  obtain ⟨oc, od, kV, doc, pm, an, cdv, ct, osl, rfl, lk, hcd⟩ := F.ex
  have hb : ∀ us rest : List Value, us.length = [q].length → bindArgs (PySem.W.fnOf x qual (defArgs st) (defBody st) (defScope st) .none kV doc pm an cdv ct) ⟨us ++ rest, []⟩ = (newTuple rest >>= fun t => pure ([q].zip us ++ [(pv, t)])) := by
    intro us rest hl
    match us, hl with
    | [u], _ => exact b u rest
  refine (StX.fn_star (ps := [q]) (pv := pv) (sp := sp) lk hcd S StX.cxUp_none hb fun A outer s H vs Q E hr hsp => ?_).imp fun vs H Q E h => ?_
  · obtain ⟨t, h, q⟩ := hbody cdv A outer s H vs Q E hr hsp
    exact ⟨t, h.nox, q⟩
  · obtain ⟨a, rest, e, hz, hq⟩ := h
    exact ⟨[a], rest, e, rfl, hz, hq⟩
end L2

/-! C() where C's __init__ is def __init__(self, *rest) -/
namespace L2
open PySem PySem.Spec PyProof.Rows StX
section
variable {X : Cx} {CX : CXT} {k : Nat} {f C : Addr} {sp : Sp} {E : XK} {x : Str} {p pos : Pos}
theorem pe_makeR0 (M : Mk X.K C f) (F : FnR X.prog X.w X.K X.mg X.base CX k f sp) (hr : Room (k + 1) X.A) (hg : Gl X x) (hm : X.mg x = some (.ref C)) (hx : Passes CX X E)
    (hdb : (x == ("__debug__" : Str)) = false := by decide) : PE X (.Call (.Name x p) [] [] pos) (tMakeR C sp E tNil) := by
  refine ⟨fun pins s σ H Q I h => ?_⟩
  refine wpAny_Call_Name_kw (ld_glob I hg hm ?_ hdb)
  exact PySem.W.callWith_K0 I.kIn M.kp (run_makeR (us := []) M F hr hx I .nil h)
end
#check @op_catA
end L2

/-! generator methods in a for, cls(*xs), the length of an own object, tuples of the same objects -/
namespace TF
open PySem PySem.Spec PyProof.Rows L2 GenW TM StX RZ
theorem walk_zipT {K : PySem.W.Frag} {a b : Addr} {xs ys : List V} {n : Nat} (hn : n = min xs.length ys.length) : Walk (ItzT K a b) n (fun H => SqT K H a xs ∧ SqT K H b ys) (YPair (fun i => xs[i]?) (fun i => ys[i]?)) := by
  subst hn
  refine ⟨fun i _ hi q => ?_, fun _ q => ⟨xs, ys, q.1, q.2, by omega⟩, fun i H v H' _ q y => ?_⟩
  · have h1 : i < xs.length := by omega
    have h2 : i < ys.length := by omega
    exact ⟨xs, ys, xs[i], ys[i], q.1, q.2, by simp [h1], by simp [h2]⟩
  · obtain ⟨T, x, z, h1, h2, h3, h4, h5⟩ := y
    exact ⟨T, x, z, h1, h2, h3, h4 xs q.1, h5 ys q.2⟩
section
variable {X : Cx} {k : Nat} {f C : Addr} {fd : FuncData} {ps ks : List Str} {sp : SpJ} {ds : List Value} {dvs : List V} {x m : Str} {p pos pos' apos : Pos} {e o : Expr} {es : List Expr} {t : TA} {ta : TE}
def tMethJ (C : Addr) (m : Str) (sp : SpJ) (dvs : List V) (ta : TE) (t : TA) : TJ := fun σ H R => ta σ H fun x H1 => ∃ a dx fs, x = .ref a ∧ H1 a = some (.ins C dx fs) ∧ fs.lookup m = none ∧
  t σ H1 fun vs H2 => ∃ J, sp (x :: (vs ++ dvs)) H2 J ∧ R J H2
/-- o.m() of a generator method, as what a for goes through -/
theorem pj_meth0 {pl : Sem Bool} (he : PE X o ta) (c : Cls X.K C) (hm : Meth X.K C m f) (F : GDef X.prog X.w X.K X.mg X.base k f fd ps sp) (hr : Room k X.A) (hb : Binds X.K fd ps ds) (hd : Vals dvs ds)
    (ht : eval (.Call (.Attribute o m apos) [] [] pos') X.env = (do
      let ov ← eval o X.env
      standAt apos.atName
      let (f, first) ← holding [ov] (getMethod ov m pl)
      callWith pos' f first (backTo pos' (starEach [] X.env)) (backToKw pos' (keywordEach [] X.env))) := by rfl) :
    PJ X k (.Call (.Attribute o m apos) [] [] pos') (tMethJ C m sp dvs ta tNil) := by
  constructor
  intro pins s σ H R I h
  refine PySem.W.methodCall_KW (pl := pl) (thn (he.run pins s σ H _ I h) fun u s1 ⟨x, H1, I1, rx, a, dx, fs, ex, ea, l, J, q, hR⟩ => ?_) ht
  subst ex
  obtain rfl : u = Value.ref a := rx
  refine getmeth_ok I1 ea c hm l ?_
  refine PySem.W.callWith_K0 (first := [.ref a]) I1.kIn hm.kp (wpAny_call (codeAny_mono (gen_run (vs := .ref a :: ([] ++ dvs)) (us := [.ref a] ++ ds) (args := ⟨[.ref a], []⟩) (R := R) (E := X.xe) F hr I1 (hb s1 [.ref a] I1.kIn ?_) (show Vals (.ref a :: ([] ++ dvs)) ([.ref a] ++ ds) from .cons rfl hd) q hR) fun r s' hq => ?_))
  · have h1 := F.len _ _ _ q
    have h2 := hd.length
    simp only [List.length_cons, List.nil_append, List.length_append, List.length_nil] at h1 ⊢
    omega
  · cases r with
    | error e => exact hq
    | ok fl => cases fl <;> first | exact hq | exact hq.elim
/-- o.m(e, ..) -/
theorem pj_meth {pl : Sem Bool} (he : PE X o ta) (c : Cls X.K C) (hm : Meth X.K C m f) (F : GDef X.prog X.w X.K X.mg X.base k f fd ps sp) (hr : Room k X.A) (hb : Binds X.K fd ps ds) (hd : Vals dvs ds) (ha : PA X (e :: es) t)
    (hst : starEach (e :: es) X.env = (false, eval e X.env) :: starEach es X.env := by rfl) (hpl : (backTo pos' (starEach es X.env)).any (·.1) = false := by rfl)
    (ht : eval (.Call (.Attribute o m apos) (e :: es) [] pos') X.env = (do
      let ov ← eval o X.env
      standAt apos.atName
      let (f, first) ← holding [ov] (getMethod ov m pl)
      callWith pos' f first (backTo pos' (starEach (e :: es) X.env)) (backToKw pos' (keywordEach [] X.env))) := by rfl) :
    PJ X k (.Call (.Attribute o m apos) (e :: es) [] pos') (tMethJ C m sp dvs ta t) := by
  constructor
  intro pins s σ H R I h
  refine PySem.W.methodCall_KW (pl := pl) (thn (he.run pins s σ H _ I h) fun u s1 ⟨x, H1, I1, rx, a, dx, fs, ex, ea, l, q⟩ => ?_) ht
  subst ex
  obtain rfl : u = Value.ref a := rx
  refine getmeth_ok I1 ea c hm l ?_
  refine PySem.W.callWith_K (first := [.ref a]) (h₀ := X.base) I1.ok.mod.kin hm.kp (thn (ha.run pos' pins s1 σ H1 _ I1 q) fun us s2 ⟨vs, H2, I2, r, J, q2, hR⟩ => ⟨I2.kIn, ?_⟩) hst hpl
  refine wpAny_call (codeAny_mono (gen_run (vs := .ref a :: (vs ++ dvs)) (us := (.ref a :: us) ++ ds) (args := ⟨.ref a :: us, []⟩) (R := R) (E := X.xe) F hr I2 (hb s2 (.ref a :: us) I2.kIn ?_) (show Vals (.ref a :: (vs ++ dvs)) ((.ref a :: us) ++ ds) from .cons rfl (r.append hd)) q2 hR) fun r s' hq => ?_)
  · have h1 := F.len _ _ _ q2
    have h2 := hd.length
    have h3 := r.length
    simp only [List.length_cons, List.length_append] at h1 ⊢
    omega
  · cases r with
    | error e => exact hq
    | ok fl => cases fl <;> first | exact hq | exact hq.elim
end
section
variable {X : Cx} {CX : CXT} {k n i : Nat} {f C : Addr} {fd : FuncData} {ps : List Str} {sp : Sp} {E : XK} {x : Str} {e : Expr} {p pos sp_ : Pos} {te : TE}
/-- cls(*e), cls a local name, __init__ with *rest -/
def tMakeVS (K : PySem.W.Frag) (i : Nat) (C : Addr) (sp : Sp) (E : XK) (te : TE) : TE := fun σ H Q => σ[i]? = some (some (.ref C)) ∧ te σ H fun y H1 => ∃ a xs, y = V.ref a ∧ (SqT K H1 a xs ∨ SqL K H1 a xs) ∧
  ∀ x dx, H1 x = Option.none → H1 dx = Option.none → dx ≠ x → sp (V.ref x :: xs) (upd (upd H1 dx (.own x)) x (.ins C dx [])) (fun v H2 => v = .non ∧ Q (.ref x) H2) E
theorem pe_makeVS (M : Mk X.K C f) (F : FnR X.prog X.w X.K X.mg X.base CX k f sp) (hr : Room (k + 1) X.A) (hx : Passes CX X E) (hN : X.N[i]? = some x) (hv : Vis X.env.scope x) (he : PE X e te)
    (hdb : (x == ("__debug__" : Str)) = false := by decide) (hcd : (x == ("__classdict__" : Str)) = false := by decide)
    (hst : starEach [.Starred e sp_] X.env = [(true, eval e X.env)] := by rfl) :
    PE X (.Call (.Name x p) [.Starred e sp_] [] pos) (tMakeVS X.K i C sp E te) := by
  refine ⟨fun pins s σ H Q I h => ?_⟩
  obtain ⟨hs, ht⟩ := h
  refine wpAny_Call_Name_kw (thn ((pe_var (pos := p) hN hv hdb hcd).run pins s σ H (fun v H1 => v = .ref C ∧ H1 = H) I ⟨.ref C, hs, rfl, rfl⟩) fun u s1 ⟨v, H1, I1, r1, q1⟩ => ?_)
  obtain ⟨rfl, rfl⟩ := q1
  cases r1
  refine PySem.W.callWith_S (h₀ := X.base) I1.ok.mod.kin M.kp (thn (he.run pins s1 σ _ _ I1 ht) fun v s2 ⟨y, H2, I2, ry, a, xs, ey, hxs, q⟩ => ?_) hst
  subst ey
  obtain rfl : v = Value.ref a := ry
  exact star_any I2 hxs fun us s3 I3 rv => ⟨I3.kIn, run_makeR M F hr hx I3 rv q⟩
/-- len(x), x an object with its own __len__ -/
def rLenOwn (C : Addr) (sp : Sp) (E : XK) : List V → Hp → VK → Prop := fun vs H Q => ∃ a dx fs, vs = [.ref a] ∧ H a = some (.ins C dx fs) ∧ sp [.ref a] H (fun v H' => ∃ n : Nat, v = vn n ∧ n < 2 ^ 63 ∧ Q (vn n) H') E
theorem cr_lenOwn (F : FnOk X.prog X.w X.K X.mg X.base CX n f fd ps sp) (hm : Meth X.K C "__len__" f) (hr : Room (n + 1) X.A) (hb : Binds X.K fd ps []) (hx : Passes CX X E) : CallR X (.builtin "len") (rLenOwn C sp E) := by
  intro pins s σ H vs us Q I r h
  obtain ⟨a, dx, fs, rfl, ha, hsp⟩ := h
  rw [Vals.ref1 r]
  obtain ⟨mA, J, _⟩ := ins_get I.hok ha
  obtain ⟨od, J, _⟩ := J.look
  obtain ⟨m, hF⟩ := I.fr
  refine PySem.W.len_K hF I.ok.mod.kin J hm.at_ hm.fn ?_
  have hl := F.len _ _ _ _ hsp
  refine wpAny_call (codeAny_mono (F.run X.A.in1 X.stack s H ⟨[.ref a], []⟩ [.ref a] [.ref a] _ E hr.in1 I.env0.in1 (by
    have := hb s [.ref a] I.kIn (by simpa using hl)
    simpa using this) (.cons rfl .nil) hsp) fun r s' hq => ?_)
  cases r with
  | error e => exact hx pins σ H s e s' I hq
  | ok fl =>
    cases fl with
    | ret w =>
      obtain ⟨z, H', I', rz, nn, ez, hlt, q⟩ := I.after hq
      subst ez
      obtain ⟨t, rfl⟩ := rz
      exact ⟨⟨Int.natCast_nonneg _, by omega⟩, vn nn, H', I'.tok _, ⟨_, rfl⟩, q⟩
    | next => exact hq.elim
    | brk => exact hq.elim
    | cont => exact hq.elim
/-- two tuples of the same objects: != is False -/
def rNeT (K : PySem.W.Frag) : R2 := fun x y H Q => ∃ (a b : Addr) (xs : List Addr), x = .ref a ∧ y = .ref b ∧ SqT K H a (xs.map V.ref) ∧ SqT K H b (xs.map V.ref) ∧ Q (.bl false) H
theorem vals_refs : ∀ {xs : List Addr} {us : List Value}, Vals (xs.map V.ref) us → us = xs.map Value.ref
  | [], _, h => by cases h; rfl
  | x :: xs, _, h => by
    cases h with
    | cons r h => rw [vals_refs h, show _ = Value.ref x from r]; rfl
theorem op_neT (hu : X.A.units + 64 < cLine) : OpR X (compareOp .NotEq) (rNeT X.K) := by
  intro pins s σ H x y v u Q I rx ry h
  obtain ⟨a, b, xs, rfl, rfl, h1, h2, q⟩ := h
  cases (show v = Value.ref a from rx)
  cases (show u = Value.ref b from ry)
  obtain ⟨its, r, e, z⟩ := I.tuple h1
  obtain ⟨its2, r2, e2, z2⟩ := I.tuple h2
  rw [vals_refs r] at e
  rw [vals_refs r2] at e2
  show wpAny (model X.prog X.w) X.A (richCompare .NotEq (.ref a) (.ref b)) (EP X pins σ Q) X.xe s
  refine SeqAt.RcNeAt.tuples (e := fun _ => true) e e2 (by omega) (fun j h1 h2 => ?_) _ _ _ _ ?_
  · exact SeqAt.EqAt.same _
  · rw [show (!((List.range (min (xs.map Value.ref).toArray.size (xs.map Value.ref).toArray.size)).all (fun _ => true) && (xs.map Value.ref).toArray.size == (xs.map Value.ref).toArray.size)) = false by simp]
    exact ⟨.bl false, H, I, rfl, q⟩
end
end TF

/-! a list of anything against an empty one -/
namespace TF
open PySem PySem.Spec PyProof.Rows L2
section
variable {X : Cx}
def rNeNil (K : PySem.W.Frag) : R2 := fun x y H Q => ∃ (a b : Addr) (xs : List V), x = .ref a ∧ y = .ref b ∧ SqL K H a xs ∧ SqL K H b [] ∧ Q (.bl (!xs.isEmpty)) H
theorem op_neNil (hu : X.A.units + 64 < cLine) : OpR X (compareOp .NotEq) (rNeNil X.K) := by
  intro pins s σ H x y v u Q I rx ry h
  obtain ⟨a, b, xs, rfl, rfl, h1, h2, q⟩ := h
  cases (show v = Value.ref a from rx)
  cases (show u = Value.ref b from ry)
  obtain ⟨its, r, e, z⟩ := I.list h1
  obtain ⟨its2, r2, e2, z2⟩ := I.list h2
  cases r2
  show wpAny (model X.prog X.w) X.A (richCompare .NotEq (.ref a) (.ref b)) (EP X pins σ Q) X.xe s
  cases xs with
  | nil =>
    cases r
    refine SeqAt.RcNeAt.lists (items := #[]) (items2 := #[]) (e := fun _ => true) (PlainL.isList e) (PlainL.isList e2) rfl (by omega) (fun j h1 h2 => absurd h1 (Nat.not_lt_zero _)) _ _ _ _ ?_
    exact ⟨.bl false, H, I, rfl, q⟩
  | cons x xs =>
    have hl := r.length
    refine SeqAt.RcNeAt.lists_lengths (PlainL.isList e) (PlainL.isList e2) ?_ (by omega) _ _ _ _ ?_
    · simp only [List.size_toArray, List.length_nil, bne_iff_ne, ne_eq]
      rw [List.length_cons] at hl
      omega
    · exact ⟨.bl true, H, I, rfl, q⟩
theorem op_neNilK (K : PySem.W.Frag) (hu : X.A.units + 64 < cLine) (h : X.K = K := by rfl) : OpR X (compareOp .NotEq) (rNeNil K) := by
  subst h
  exact op_neNil hu
end
end TF

/-! a list of anything == [] -/
namespace TF
open PySem PySem.Spec PyProof.Rows L2
section
variable {X : Cx}
def rEqNil (K : PySem.W.Frag) : R2 := fun x y H Q => ∃ (a b : Addr) (xs : List V), x = .ref a ∧ y = .ref b ∧ SqL K H a xs ∧ SqL K H b [] ∧ Q (.bl xs.isEmpty) H
theorem op_eqNil (hu : X.A.units + 64 < cLine) : OpR X (compareOp .Eq) (rEqNil X.K) := by
  intro pins s σ H x y v u Q I rx ry h
  obtain ⟨a, b, xs, rfl, rfl, h1, h2, q⟩ := h
  cases (show v = Value.ref a from rx)
  cases (show u = Value.ref b from ry)
  obtain ⟨its, r, e, z⟩ := I.list h1
  obtain ⟨its2, r2, e2, z2⟩ := I.list h2
  cases r2
  show wpAny (model X.prog X.w) X.A (richCompare .Eq (.ref a) (.ref b)) (EP X pins σ Q) X.xe s
  cases xs with
  | nil =>
    cases r
    refine SeqAt.RcAt.lists (items := #[]) (items2 := #[]) (e := fun _ => true) (PlainL.isList e) (PlainL.isList e2) rfl (by omega) (fun j h1 h2 => absurd h1 (Nat.not_lt_zero _)) _ _ _ _ ?_
    exact ⟨.bl true, H, I, rfl, q⟩
  | cons x xs =>
    have hl := r.length
    refine SeqAt.RcAt.lists_lengths (PlainL.isList e) (PlainL.isList e2) ?_ (by omega) _ _ _ _ ?_
    · simp only [List.size_toArray, List.length_nil, bne_iff_ne, ne_eq]
      rw [List.length_cons] at hl
      omega
    · exact ⟨.bl false, H, I, rfl, q⟩
theorem op_eqNilK (K : PySem.W.Frag) (hu : X.A.units + 64 < cLine) (h : X.K = K := by rfl) : OpR X (compareOp .Eq) (rEqNil K) := by
  subst h
  exact op_eqNil hu
end
end TF

namespace K14
open PySem PySem.Spec PyProof.Rows L2 TM TF GS
theorem Free.snoc {S : List Nat} {x : Nat} (h : Free S) (hx : ∀ y ∈ S, y < x) (hc : ¬ GS.Cv S x) : Free (S ++ [x]) := by
  intro u hu ⟨y, z, hy, hz, hyz, e⟩
  have hux : u ≤ x := by
    rcases List.mem_append.mp hu with a | a
    · exact Nat.le_of_lt (hx u a)
    · rw [List.mem_singleton.mp a]; exact Nat.le_refl _
  have hz' : z ∈ S := by
    rcases List.mem_append.mp hz with a | a
    · exact a
    · have := List.mem_singleton.mp a; omega
  have hy' : y ∈ S := by
    rcases List.mem_append.mp hy with a | a
    · exact a
    · have := List.mem_singleton.mp a
      have := hx z hz'
      omega
  rcases List.mem_append.mp hu with a | a
  · exact h u a ⟨y, z, hy', hz', hyz, e⟩
  · rw [List.mem_singleton.mp a] at e
    exact hc ⟨y, z, hy', hz', hyz, e⟩
theorem asc_snoc {S : List Nat} {x : Nat} (h : S.Pairwise (· < ·)) (hx : ∀ y ∈ S, y < x) : (S ++ [x]).Pairwise (· < ·) :=
  List.pairwise_append.mpr ⟨h, List.pairwise_singleton _ _, fun a ha b hb => by rw [List.mem_singleton.mp hb]; exact hx a ha⟩
section
variable {P : Program} {w : World} {K : PySem.W.Frag} {mg : Str → Option Value} {base : Heap}
theorem pr_empty {H : Hp} {ts : List Addr} {l : List (Nat × Nat)} (h : PrA H ts l) : ((ts.map V.ref).isEmpty = true ↔ l = []) := by
  have e := h.len
  cases ts <;> cases l <;> simp at e ⊢
def sp_l_start (K : PySem.W.Frag) : Sp := fun vs H Q _ => ∃ (p : Addr) (a : Nat), vs = [.ref p] ∧ SrcD H p a ∧ a ≤ 100000 ∧ ∀ H' t S L a', But p H H' → SrcD H' p a' → a' ≤ a + 100 → H' t = some (.tup (S.map vn)) → Start S L → S.length ≤ 40 → L ≤ 1000000 → Q (.ref t) H'
theorem ok_l_start (T : Txt K mg) : FnOk P w K mg base CX0 2 T.f_l_start T.fd_l_start ["source"] (sp_l_start K) := by
  have nd := sc_l_start.nd
  refine T.F_l_start.ok sc_l_start (fun vs H Q E h => ?_) (fun cdv A outer s H vs Q E hr h => ?_)
  · obtain ⟨p, a, rfl, _⟩ := h
    rfl
  · obtain ⟨p, a, rfl, src, ha, q⟩ := h
    refine ⟨_, (pss_cons (ps_par (i := 1) (j := 2) (by rfl) nd rfl rfl (by decide) rfl rfl (pa_cons (pe_ix (ix_listK K) (pe_lst (pa_cons pe_int (pa_cons pe_int (pa_cons pe_int (pa_cons pe_int (pa_cons pe_int pa_nil)))))) (pe_call (ok_l_pick T) (hr.mono (by decide)) rfl T.g_l_pick T.F_l_pick.kp T.b_l_pick .nil pass0 (pa_cons (pv 0) (pa_cons pe_int pa_nil))) (fun _ _ => rfl)) (pa_cons (pe_ix (ix_listK K) (pe_lst (pa_cons pe_int (pa_cons pe_int (pa_cons pe_int (pa_cons pe_int (pa_cons pe_int pa_nil)))))) (pe_call (ok_l_pick T) (hr.mono (by decide)) rfl T.g_l_pick T.F_l_pick.kp T.b_l_pick .nil pass0 (pa_cons (pv 0) (pa_cons pe_int pa_nil))) (fun _ _ => rfl)) pa_nil)) (by rfl))
      (pss_cons (ps_par (i := 3) (j := 4) (by rfl) nd rfl rfl (by decide) rfl rfl (pa_cons (pe_ix (ix_listK K) (pe_lst (pa_cons pe_int (pa_cons (pe_call (ok_l_pick T) (hr.mono (by decide)) rfl T.g_l_pick T.F_l_pick.kp T.b_l_pick .nil pass0 (pa_cons (pv 0) (pa_cons pe_int pa_nil))) (pa_cons (pe_call (ok_l_pick T) (hr.mono (by decide)) rfl T.g_l_pick T.F_l_pick.kp T.b_l_pick .nil pass0 (pa_cons (pv 0) (pa_cons pe_int pa_nil))) pa_nil)))) (pe_call (ok_l_pick T) (hr.mono (by decide)) rfl T.g_l_pick T.F_l_pick.kp T.b_l_pick .nil pass0 (pa_cons (pv 0) (pa_cons pe_int pa_nil))) (fun _ _ => rfl)) (pa_cons pe_dnewK pa_nil)) (by rfl))
      (pss_cons (ps_for PassesOwn.never rfl (pi_range1 rfl T.m_range (pa_cons (pe_op nAdd pe_int (pe_call (ok_l_pick T) (hr.mono (by decide)) rfl T.g_l_pick T.F_l_pick.kp T.b_l_pick .nil pass0 (pa_cons (pv 0) (pa_cons (pv 1) pa_nil)))) pa_nil)) (pg_name (i := 5) nd rfl (.inl rfl)) (pss_cons (ps_if (pt_cmpR (op_eqNilK K hr.units) (pe_call (ok_l_pairs T) (hr.mono (by decide)) rfl T.g_l_pairs T.F_l_pairs.kp T.b_l_pairs .nil pass0 (pa_cons (pv 4) (pa_cons (pv 3) pa_nil))) (pe_lst pa_nil) (nomark _)) (pss_one (ps_dput (hu_of hr) (pv 4) (pv 3) pe_bl rfl)) pss_nil)
      (pss_one (ps_set (i := 3) nd rfl (.inl rfl) (pe_op nAdd (pe_op nAdd (pv 3) pe_int) (pe_call (ok_l_pick T) (hr.mono (by decide)) rfl T.g_l_pick T.F_l_pick.kp T.b_l_pick .nil pass0 (pa_cons (pv 0) (pa_cons (pv 2) pa_nil))))))))
      (pss_one (ps_ret (pe_callTy call_tuple_of (by rfl) T.m_tuple (by decide +kernel) (pa_cons (pe_callTy (call_list_dK rfl) (by rfl) T.m_list (by decide +kernel) (pa_cons (pv 4) pa_nil)) pa_nil))))))), ?_⟩
    refine ⟨(by show 5 ≤ sizeLine; decide), fun l1 hl1 => ?_⟩
    have s1 := same_new (o := .lst [.int 1, .int 3, .int 6, .int 12, .int 40]) hl1
    have e1 : upd H l1 (.lst [.int 1, .int 3, .int 6, .int 12, .int 40]) l1 = some (.lst (([1, 3, 6, 12, 40] : List Nat).map vn)) := upd_same
    have src1 := src.same s1
    have b1 : But p H (upd H l1 (.lst [.int 1, .int 3, .int 6, .int 12, .int 40])) := Same.but s1
    generalize upd H l1 (.lst [.int 1, .int 3, .int 6, .int 12, .int 40]) = H1 at e1 src1 b1 ⊢
    refine ⟨_, rfl, p, 5, a, rfl, by decide, by decide, src1, by omega, fun H2 r2 hr2 b2 src2 => ?_⟩
    have hd1 := src1.dict.choose_spec
    have e2 := b2 _ _ (ne_of e1 hd1 (fun z => nomatch z)) e1
    obtain ⟨many, hmany, hm40, hm1⟩ : ∃ many, ([1, 3, 6, 12, 40] : List Nat)[r2]? = some many ∧ many ≤ 40 ∧ 1 ≤ many := by
      rcases r2 with _ | _ | _ | _ | _ | r2 <;> first | exact ⟨_, rfl, by decide, by decide⟩ | omega
    refine ⟨l1, _, _, _, rfl, rfl, SqL.of e2, atI_nat (by rw [List.getElem?_map, hmany]; rfl), ?_⟩
    have b02 := But.trans b1 b2
    refine ⟨(by show 5 ≤ sizeLine; decide), fun l3 hl3 => ?_⟩
    have s3 := same_new (o := .lst [.int 1, .int 2, .int 6, .int 40, .int 300]) hl3
    have e3 : upd H2 l3 (.lst [.int 1, .int 2, .int 6, .int 40, .int 300]) l3 = some (.lst (([1, 2, 6, 40, 300] : List Nat).map vn)) := upd_same
    have src3 := src2.same s3
    have b03 := But.same b02 s3
    generalize upd H2 l3 (.lst [.int 1, .int 2, .int 6, .int 40, .int 300]) = H3 at e3 src3 b03 ⊢
    refine ⟨_, rfl, p, 5, a + 1, rfl, by decide, by decide, src3, by omega, fun H4 r4 hr4 b4 src4 => ?_⟩
    have hd3 := src3.dict.choose_spec
    have e4 := b4 _ _ (ne_of e3 hd3 (fun z => nomatch z)) e3
    obtain ⟨gap, hgap, hg300, hg1⟩ : ∃ gap, ([1, 2, 6, 40, 300] : List Nat)[r4]? = some gap ∧ gap ≤ 300 ∧ 1 ≤ gap := by
      rcases r4 with _ | _ | _ | _ | _ | r4 <;> first | exact ⟨_, rfl, by decide, by decide⟩ | omega
    refine ⟨l3, _, _, _, rfl, rfl, SqL.of e4, atI_nat (by rw [List.getElem?_map, hgap]; rfl), _, _, rfl, ?_⟩
    have b04 := But.trans b03 b4
    -- the first number
    refine ⟨_, rfl, p, 50, a + 2, rfl, by decide, by decide, src4, by omega, fun H5 r5 hr5 b5 src5 => ?_⟩
    refine ⟨_, rfl, p, 900000, a + 3, rfl, by decide, by decide, src5, by omega, fun H6 r6 hr6 b6 src6 => ?_⟩
    refine ⟨(by show 3 ≤ sizeLine; decide), fun l7 hl7 => ?_⟩
    have s7 := same_new (o := .lst [.int 0, vn r5, vn r6]) hl7
    have e7 : upd H6 l7 (.lst [.int 0, vn r5, vn r6]) l7 = some (.lst (([0, r5, r6] : List Nat).map vn)) := upd_same
    have src7 := src6.same s7
    have b07 := But.same (But.trans (But.trans b04 b5) b6) s7
    generalize upd H6 l7 (.lst [.int 0, vn r5, vn r6]) = H7 at e7 src7 b07 ⊢
    refine ⟨_, rfl, p, 3, a + 4, rfl, by decide, by decide, src7, by omega, fun H8 r8 hr8 b8 src8 => ?_⟩
    have hd7 := src7.dict.choose_spec
    have e8 := b8 _ _ (ne_of e7 hd7 (fun z => nomatch z)) e7
    obtain ⟨spot, hspot, hsp⟩ : ∃ spot, ([0, r5, r6] : List Nat)[r8]? = some spot ∧ spot < 900000 := by
      rcases r8 with _ | _ | _ | r8 <;> first | exact ⟨_, rfl, by omega⟩ | omega
    refine ⟨l7, _, _, _, rfl, rfl, SqL.of e8, atI_nat (by rw [List.getElem?_map, hspot]; rfl), fun pl hpl => ?_⟩
    have b08 := But.trans b07 b8
    have s9 := same_new (o := .dK []) hpl
    have e9 : upd H8 pl (.dK []) pl = some (.dK (presK [])) := upd_same
    have src9 := src8.same s9
    have b09 := But.same b08 s9
    have plp : pl ≠ p := (ne_of_none src8.dict.choose_spec hpl).symm
    have hpl0 : H pl = none := by
      cases e : H pl with
      | none => rfl
      | some o => rw [b08 _ _ plp e] at hpl; cases hpl
    generalize upd H8 pl (.dK []) = H9 at e9 src9 b09 ⊢
    refine ⟨_, _, rfl, ?_⟩
    refine ⟨_, rfl, _, rfl, p, many, a + 5, rfl, by omega, Nat.lt_of_le_of_lt hm40 (by decide), src9, by omega, fun H10 r10 hr10 b10 src10 => ?_⟩
    have hd9 := src9.dict.choose_spec
    have e10 := b10 _ _ plp e9
    have b010 := But.trans b09 b10
    refine ⟨1, r10, rfl, rfl, trivial, ((1 + r10 : Nat) : Int), rfl, by omega, by omega, ?_⟩
    refine for_it (walk_range (lo := 0) (n := (((1 + r10 : Nat) : Int)).toNat)) (fun i σ H' => ∃ (S : List Nat) (sp ai : Nat) (y5 : Option V), σ = [some (.ref p), some (vn many), some (vn gap), some (vn sp), some (.ref pl), y5] ∧ But p H H' ∧ SrcD H' p ai ∧ ai ≤ a + 6 + i ∧ H' pl = some (.dK (presK S)) ∧ S.Pairwise (· < ·) ∧ Free S ∧ (∀ x ∈ S, x < sp) ∧ S.length ≤ i ∧ sp ≤ 900000 + 300 * i ∧ (0 < i → S ≠ []))
      ⟨[], spot, a + 6, none, rfl, b010, src10, Nat.le_refl _, e10, .nil, (fun u hu => nomatch hu), (fun u hu => nomatch hu), Nat.le_refl _, by omega, fun z => absurd z (Nat.lt_irrefl _)⟩ (fun _ _ _ _ _ => trivial) ?_ ?_
    · rintro i x σ H11 H12 hi ⟨S, sp, ai, y5, rfl, b11, src11, hai, ed, hS, hF, hlt, hlen, hsp2, hne⟩ ⟨rfl, rfl⟩
      rw [Int.toNat_natCast] at hi
      refine ⟨_, rfl, _, rfl, pl, S, sp, rfl, ed, hS, by omega, fun m hm => Nat.lt_trans (hlt m hm) (Nat.lt_of_le_of_lt hsp2 (by omega)), fun H13 pp ts s13 epp prr => ⟨(by show 0 ≤ sizeLine; decide), fun l14 hl14 => ?_⟩⟩
      have s14 := Same.trans s13 (same_new (o := .lst []) hl14)
      have e14 : upd H13 l14 (.lst []) l14 = some (.lst []) := upd_same
      have epp2 := same_new (o := .lst []) hl14 _ _ epp
      have ed2 := s14 _ _ ed
      have src14 := src11.same s14
      have b14 := But.same b11 s14
      generalize upd H13 l14 (.lst []) = H14 at s14 e14 epp2 ed2 src14 b14 ⊢
      refine ⟨pp, l14, _, rfl, rfl, SqL.of epp2, SqL.of e14, _, rfl, ite2 (fun c => ?_) (fun c => ?_)⟩
      · have hnil := prs_nil.mp ((pr_empty prr).mp c)
        have hnot : sp ∉ S := fun z => Nat.lt_irrefl _ (hlt sp z)
        refine ⟨_, rfl, _, rfl, pl, _, rfl, DPut.k (k := Sum.inl ((sp : Nat) : Int)) ed2 ?_, ?_⟩
        · rw [presK_len]
          exact small_lt (b := 100) (by omega)
        rw [presK_new hnot]
        have src15 : SrcD (upd H14 pl (.dK (presK (S ++ [sp])))) p ai := by
          obtain ⟨cl, l0, rf, h1, h2, h3, h4⟩ := src14
          exact ⟨cl, l0, rf, by rw [upd_ne plp.symm]; exact h1, by rw [upd_ne (ne_of h2 ed2 (fun z => nomatch z))]; exact h2, h3, h4⟩
        have b15 : But p H (upd H14 pl (.dK (presK (S ++ [sp])))) := fun b o hb e => by
          rw [upd_ne (fun z => by rw [z, hpl0] at e; cases e)]
          exact b14 b o hb e
        have e15 : upd H14 pl (.dK (presK (S ++ [sp]))) pl = some (.dK (presK (S ++ [sp]))) := upd_same
        generalize upd H14 pl (.dK (presK (S ++ [sp]))) = H15 at src15 b15 e15 ⊢
        refine ⟨_, rfl, sp, 1, rfl, rfl, trivial, _, rfl, _, rfl, p, gap, ai, rfl, by omega, Nat.lt_of_le_of_lt hg300 (by decide), src15, by omega, fun H16 r16 hr16 b16 src16 => ?_⟩
        refine ⟨sp + 1, r16, rfl, rfl, trivial, S ++ [sp], sp + 1 + r16, ai + 1, _, rfl, But.trans b15 b16, src16, by omega, b16 _ _ plp e15, asc_snoc hS hlt, Free.snoc hF hlt hnil, fun u hu => ?_, ?_, by omega, fun _ z => by simp at z⟩
        · rcases List.mem_append.mp hu with z | z
          · have := hlt u z; omega
          · have := List.mem_singleton.mp z; omega
        · rw [List.length_append, List.length_singleton]; omega
      · refine ⟨_, rfl, sp, 1, rfl, rfl, trivial, _, rfl, _, rfl, p, gap, ai, rfl, by omega, Nat.lt_of_le_of_lt hg300 (by decide), src14, by omega, fun H16 r16 hr16 b16 src16 => ?_⟩
        refine ⟨sp + 1, r16, rfl, rfl, trivial, S, sp + 1 + r16, ai + 1, _, rfl, But.trans b14 b16, src16, by omega, b16 _ _ plp ed2, hS, hF, fun u hu => by have := hlt u hu; omega, by omega, by omega, fun _ z => ?_⟩
        subst z
        refine c ((pr_empty prr).mpr ?_)
        rfl
    · rintro σ H11 ⟨S, sp, ai, y5, rfl, b11, src11, hai, ed, hS, hF, hlt, hlen, hsp2, hne⟩
      rw [Int.toNat_natCast] at hai hlen hsp2 hne
      have hS0 := hne (by omega)
      have h0 : 0 < S.length := List.length_pos_iff.mpr hS0
      refine ⟨_, rfl, pl, _, rfl, ed, fun l12 hl12 => ?_⟩
      have s12 := same_new (o := .lst ((presK S).map fun kv => kV kv.1)) hl12
      have ek : (presK S).map (fun kv => kV kv.1) = S.map vn := by
        unfold presK
        rw [List.map_map]
        rfl
      refine ⟨l12, _, rfl, .inl ⟨SqL.of upd_same, fun t ht => ?_⟩⟩
      rw [ek] at s12 ht ⊢
      have s13 := Same.trans s12 (same_new (o := .tup (S.map vn)) ht)
      have hmem : S.getD (S.length - 1) 0 ∈ S := by
        rw [List.getD_eq_getElem?_getD, List.getElem?_eq_getElem (show S.length - 1 < S.length by omega), Option.getD_some]
        exact List.getElem_mem _
      have hb := hlt _ hmem
      exact q _ t S (S.getD (S.length - 1) 0) ai (But.same b11 s13) (src11.same s13) (by omega) upd_same ⟨hS, hF, fun x hx => (last_of hS h0 x hx).2, hmem⟩ (by omega) (by omega)
end
end K14

namespace K14
open PySem PySem.Spec PyProof.Rows L2 TM TF GS
theorem trp_none {all : List Nat} : ∀ {l : List Nat}, l.Pairwise (· < ·) → trp all l = none → ∀ y ∈ l, ∀ z ∈ l, y < z → 2 * z - y ∉ all
  | [], _, _, y, hy, _, _, _ => nomatch hy
  | a :: r, hp, h, y, hy, z, hz, hyz => by
    obtain ⟨h1, h2⟩ := List.pairwise_cons.mp hp
    unfold trp at h
    cases e : r.filter (fun z => decide (2 * z - a ∈ all)) with
    | cons x xs => rw [e] at h; cases h
    | nil =>
      rw [e] at h
      rcases List.mem_cons.mp hy with rfl | hy2
      · rcases List.mem_cons.mp hz with rfl | hz
        · omega
        · intro hc
          exact absurd (decide_eq_true hc) (by have := List.filter_eq_nil_iff.mp e z hz; exact this)
      · rcases List.mem_cons.mp hz with rfl | hz
        · have := h1 y hy2; omega
        · exact trp_none h2 h y hy2 z hz hyz
theorem trp_iff {l : List Nat} (hp : l.Pairwise (· < ·)) : trp l l = none ↔ Free l := by
  refine ⟨fun h x hx ⟨y, z, hy, hz, hyz, e⟩ => trp_none hp h y hy z hz hyz ?_, fun h => trp_free h hp fun _ h => h⟩
  rw [show 2 * z - y = x by omega]
  exact hx
theorem inV_nat (g : Nat) (l : List Nat) : inV (vn g) (l.map vn) = decide (g ∈ l) := by
  induction l with
  | nil => simp [inV]
  | cons a r ih =>
    show (eqV (vn a) (vn g) || inV (vn g) (r.map vn)) = _
    rw [ih]
    have e : eqV (vn a) (vn g) = decide (g = a) := by
      show decide ((a : Int) = (g : Int)) = _
      rw [decide_eq_decide]
      omega
    rw [e]
    simp [List.mem_cons]
section
variable {P : Program} {w : World} {K : PySem.W.Frag} {mg : Str → Option Value} {base : Heap}
def sp_l_triple (K : PySem.W.Frag) : Sp := fun vs H Q _ => ∃ (p : Addr) (l : List Nat), vs = [.ref p] ∧ H p = some (.lst (l.map vn)) ∧ l.length ≤ 2000 ∧ (∀ x ∈ l, x < 2 ^ 40) ∧ l.Pairwise (· < ·) ∧
  ∀ H' r xs, Same H H' → H' r = some (.lst xs) → (xs.isEmpty = true ↔ Free l) → Q (.ref r) H'
theorem ok_l_triple (T : Txt K mg) : FnOk P w K mg base CX0 1 T.f_l_triple T.fd_l_triple ["numbers"] (sp_l_triple K) := by
  have nd := sc_l_triple.nd
  refine T.F_l_triple.ok sc_l_triple (fun vs H Q E h => ?_) (fun cdv A outer s H vs Q E hr h => ?_)
  · obtain ⟨p, l, rfl, _⟩ := h
    rfl
  · obtain ⟨p, l, rfl, hp, hn, hb, hl, q⟩ := h
    have hlen : (l.map vn).length = l.length := List.length_map ..
    refine ⟨_, (pss_cons (ps_for PassesOwn.never rfl (pi_enum rfl T.m_enumerate (pa_cons (pv 0) pa_nil)) (pg_tup rfl (pgs_cons (pg_name (i := 1) nd rfl (.inl rfl)) (pgs_cons (pg_name (i := 2) nd rfl (.inl rfl)) pgs_nil))) (pss_one (ps_for PassesOwn.never rfl (pi_list (pe_slice (sl_listK K) (pv 0) (po_some (pe_op nAdd (pv 1) pe_int)) po_none)) (pg_name (i := 3) nd rfl (.inl rfl)) (pss_one (ps_if (pt_cmpR (op_inK K) (pe_op nSub (pe_op nMul pe_int (pv 3)) (pv 2)) (pv 0) rfl) (pss_one (ps_ret (pe_lst (pa_cons (pe_tup (pa_cons (pv 2) (pa_cons (pv 3) (pa_cons (pe_op nSub (pe_op nMul pe_int (pv 3)) (pv 2)) pa_nil)))) pa_nil)))) pss_nil)))))
      (pss_one (ps_ret (pe_lst pa_nil)))), ?_⟩
    refine ⟨_, rfl, p, _, rfl, SqL.of hp, ?_⟩
    refine for_it walk_enum (fun i σ H' => ∃ y1 y2 y3 : Option V, σ = [some (.ref p), y1, y2, y3] ∧ Same H H' ∧ ∀ j b, j < i → l[j]? = some b → ∀ z ∈ l.drop (j + 1), 2 * z - b ∉ l)
      ⟨none, none, none, rfl, Same.refl _, fun j b hj => absurd hj (Nat.not_lt_zero j)⟩ (fun i σ H' _ ⟨_, _, _, _, s, _⟩ => SqL.of (s _ _ hp)) ?_ ?_
    · rintro i x σ H4 H4' hi ⟨y1, y2, y3, rfl, s4, hnone⟩ ⟨t1, x1, x2, rfl, nt, rfl, f1, f2⟩
      obtain ⟨y, hy, gy, rfl⟩ := vn_at f2
      obtain rfl : x1 = .int (i : Int) := (Option.some.inj f1).symm
      have s5 := Same.trans s4 (same_new (o := .tup [.int (i : Int), vn y]) nt)
      refine ⟨t1, [.int (i : Int), vn y], rfl, SqT.of upd_same, rfl, _, [_], rfl, _, [], rfl, rfl, ?_⟩
      generalize upd H4 t1 (.tup [.int (i : Int), vn y]) = H5 at s5 ⊢
      have hyb := hb y hy
      have hdr : l.drop i = y :: l.drop (i + 1) := by
        rw [hlen] at hi
        have := List.drop_eq_getElem_cons hi
        rw [this]
        rw [List.getElem?_eq_getElem hi] at gy
        cases gy
        rfl
      have hgt : ∀ z ∈ l.drop (i + 1), y < z ∧ z < 2 ^ 40 := fun z hz => by
        have h1 := hl.sublist (List.drop_sublist i l)
        rw [hdr] at h1
        exact ⟨(List.pairwise_cons.mp h1).1 z hz, hb z (List.mem_of_mem_drop hz)⟩
      refine ⟨_, rfl, _, rfl, i, 1, rfl, rfl, trivial, _, rfl, p, _, rfl, SqL.of (s5 _ _ hp), fun pz hpz => ?_⟩
      have ecut : cutV (l.map vn) (some ((i + 1 : Nat) : Int)) none = (l.drop (i + 1)).map vn := by rw [cut_from, List.map_drop]
      rw [ecut]
      have n6 := same_new (o := .lst ((l.drop (i + 1)).map vn)) hpz
      have e6 : upd H5 pz (.lst ((l.drop (i + 1)).map vn)) pz = some (.lst ((l.drop (i + 1)).map vn)) := upd_same
      generalize upd H5 pz (.lst ((l.drop (i + 1)).map vn)) = H6 at n6 e6 ⊢
      have s6 := Same.trans s5 n6
      refine ⟨pz, rfl, ⟨_, SqL.of e6⟩, ?_⟩
      refine for_it (walk_list (xs := (l.drop (i + 1)).map vn)) (fun k σ H' => ∃ y3 : Option V, σ = [some (.ref p), some (.int (i : Int)), some (vn y), y3] ∧ H' = H6 ∧ ∀ j z, j < k → (l.drop (i + 1))[j]? = some z → 2 * z - y ∉ l) ⟨_, rfl, rfl, fun j b hj => absurd hj (Nat.not_lt_zero j)⟩ (fun i σ H' _ ⟨_, _, e, _⟩ => by rw [e]; exact SqL.of e6) ?_ ?_
      · rintro k v σ H7 H8 hk ⟨y3, rfl, rfl, hz⟩ ⟨rfl, hv⟩
        obtain ⟨z, hzm, gz, rfl⟩ := vn_at hv
        obtain ⟨hyz, hz40⟩ := hgt z hzm
        refine ⟨_, rfl, 2, z, rfl, rfl, ⟨2, 41, by decide, pow_up hz40 (by decide), by decide, by decide, by decide⟩, _, rfl, 2 * z, y, rfl, rfl, (show y ≤ 2 * z by omega), _, rfl, p, _, rfl, .inl (SqL.of (s6 _ _ hp)), rfl, ?_, _, rfl, ?_⟩
        · rw [List.all_eq_true]
          intro u hu
          obtain ⟨m, _, rfl⟩ := List.mem_map.mp hu
          rfl
        show if (inV (vn (2 * z - y)) (l.map vn)) = true then _ else _
        rw [inV_nat]
        refine ite2 (fun c => ?_) (fun c => ?_)
        · have hin := of_decide_eq_true c
          refine ⟨_, rfl, _, rfl, _, rfl, 2, z, rfl, rfl, ⟨2, 41, by decide, pow_up hz40 (by decide), by decide, by decide, by decide⟩, _, rfl, 2 * z, y, rfl, rfl, (show y ≤ 2 * z by omega), (by show 3 ≤ sizeLine; decide), fun t ht => ⟨(by show 1 ≤ sizeLine; decide), fun r hr => ?_⟩⟩
          refine q _ r _ (Same.trans s6 (Same.trans (same_new ht) (same_new hr))) upd_same ⟨(fun z => nomatch z), fun hf => ?_⟩
          exact absurd ⟨y, z, hy, List.mem_of_mem_drop hzm, hyz, by omega⟩ (hf _ hin)
        · have hin : 2 * z - y ∉ l := fun x => c (decide_eq_true x)
          refine ⟨_, rfl, rfl, fun j b hj hb2 => ?_⟩
          rcases Nat.lt_succ_iff_lt_or_eq.mp hj with x | x
          · exact hz j b x hb2
          · subst x
            rw [gz] at hb2
            cases hb2
            exact hin
      · rintro σ H7 ⟨y3, rfl, rfl, hz⟩
        rw [List.length_map] at hz
        refine ⟨_, _, _, rfl, s6, fun j b hj hb2 => ?_⟩
        rcases Nat.lt_succ_iff_lt_or_eq.mp hj with x | x
        · exact hnone j b x hb2
        · subst x
          rw [gy] at hb2
          cases hb2
          intro z hzm
          obtain ⟨u, hu, rfl⟩ := List.getElem_of_mem hzm
          exact hz u _ hu (List.getElem?_eq_getElem hu)
    · rintro σ H4 ⟨y1, y2, y3, rfl, s4, hnone⟩
      rw [hlen] at hnone
      refine ⟨(by show 0 ≤ sizeLine; decide), fun r hr => q _ r _ (Same.trans s4 (same_new hr)) upd_same ⟨fun _ => ?_, fun _ => rfl⟩⟩
      intro x hx ⟨y, z, hy, hz, hyz, e⟩
      obtain ⟨i, hi, rfl⟩ := List.getElem_of_mem hy
      obtain ⟨j, hj, rfl⟩ := List.getElem_of_mem hz
      have hij : i < j := by
        rcases Nat.lt_or_ge i j with a | a
        · exact a
        · rcases Nat.lt_or_ge j i with b | b
          · have := List.pairwise_iff_getElem.mp hl j i hj hi b
            omega
          · have : i = j := by omega
            subst this
            omega
      refine hnone i _ hi (List.getElem?_eq_getElem hi) l[j] ?_ ?_
      · rw [List.mem_iff_getElem]
        exact ⟨j - (i + 1), by rw [List.length_drop]; omega, by rw [List.getElem_drop]; congr 1; omega⟩
      · rw [show 2 * l[j] - l[i] = x by omega]
        exact hx
end
end K14

namespace K14
open PySem PySem.Spec PyProof.Rows L2 TM TF GS
abbrev PdT (H : Hp) : List Addr → List (Key × V) → Prop := Paired fun p kv => H p = some (.tup [kV kv.1, kv.2])
theorem PdT.mono {H H' : Hp} (s : ∀ (t : Addr) (xs : List V), H t = some (.tup xs) → H' t = some (.tup xs)) {ts : List Addr} {l : List (Key × V)} (h : PdT H ts l) : PdT H' ts l := by
  induction h with
  | nil => exact .nil
  | cons a _ ih => exact .cons (s _ _ a) ih
theorem PdT.sq {K : PySem.W.Frag} {H : Hp} {ts : List Addr} {l : List (Key × V)} (h : PdT H ts l) : Paired (fun p kv => SqT K H p [kV kv.1, kv.2]) ts l := by
  induction h with
  | nil => exact .nil
  | cons a _ ih => exact .cons (SqT.of a) ih
theorem PdT.snoc {H : Hp} {t : Addr} {kv : Key × V} (e : H t = some (.tup [kV kv.1, kv.2])) {ts : List Addr} {l : List (Key × V)} (h : PdT H ts l) : PdT H (ts ++ [t]) (l ++ [kv]) := by
  induction h with
  | nil => exact .cons e .nil
  | cons a _ ih => exact .cons a ih
theorem PdT.len {H : Hp} {ts : List Addr} {l : List (Key × V)} (h : PdT H ts l) : ts.length = l.length := by
  induction h with
  | nil => rfl
  | cons a _ ih => exact congrArg (· + 1) ih
theorem merge_presK : ∀ (l ms : List Nat), (ms ++ l).Nodup → mergeK (presK ms) (presK l) = presK (ms ++ l)
  | [], ms, _ => by rw [List.append_nil]; rfl
  | a :: l, ms, h => by
    show mergeK (putK (presK ms) (Sum.inl ((a : Nat) : Int)) (V.bl true)) (presK l) = _
    have ha : a ∉ ms := fun z => (List.nodup_append.mp h).2.2 a z a List.mem_cons_self rfl
    rw [presK_new ha, merge_presK l (ms ++ [a]) (by rw [List.append_assoc]; exact h), List.append_assoc]
    rfl
section
variable {P : Program} {w : World} {K : PySem.W.Frag} {mg : Str → Option Value} {base : Heap}
def sp_l_drawn (K : PySem.W.Frag) : Sp := fun vs H Q _ => ∃ (p t : Addr) (a : Nat) (S : List Nat) (L share : Nat), vs = [.ref p, .ref t, vn (L + 150), vn share] ∧ SrcD H p a ∧ a ≤ 150000 ∧ H t = some (.tup (S.map vn)) ∧ Start S L ∧ S.length ≤ 40 ∧ L ≤ 1000000 ∧
  ∀ H' d pls a', But p H H' → SrcD H' p a' → a' ≤ a + 200 → H d = none → H' d = some (.dK (presK pls)) → pls.Pairwise (· < ·) → Free pls → pls.length ≤ 200 → (∀ x, x ≤ L → (x ∈ pls ↔ x ∈ S)) → (∀ x ∈ pls, x ≤ L + 150) → Q (.ref d) H'
theorem ok_l_drawn (T : Txt K mg) : FnOk P w K mg base CX0 2 T.f_l_drawn T.fd_l_drawn ["source", "first", "top", "share"] (sp_l_drawn K) := by
  have nd := sc_l_drawn.nd
  refine T.F_l_drawn.ok sc_l_drawn (fun vs H Q E h => ?_) (fun cdv A outer s H vs Q E hr h => ?_)
  · obtain ⟨p, t, a, S, L, share, rfl, _⟩ := h
    rfl
  · obtain ⟨p, t, a, S, L, share, rfl, src, ha, ht, st, h40, hL, q⟩ := h
    refine ⟨_, (pss_cons (ps_set (i := 4) nd rfl (.inl rfl) (pe_callTy (call_dictP rfl) (by rfl) T.m_dict (by decide +kernel) (pa_cons (pe_lc (own := [("one", 6)]) (g := gName 6) (tt := tYes) rfl nd (pi_tup (pv 1)) (blkOk_by (own := [("one", 6)]) (N := N_l_drawn) (sc := defScope s_l_drawn) (by decide +kernel)) (fun _ _ _ _ _ => pg_name (i := 6) nd rfl (Or.inl rfl)) (fun _ _ _ _ _ => pts_nil) (fun _ _ _ _ _ => (pe_tup (pa_cons (pv 6) (pa_cons pe_bl pa_nil))))) pa_nil)))
      (pss_cons (ps_for PassesOwn.never rfl (pi_range2 rfl T.m_range (pa_cons (pe_op op_add (pe_ix (ix_tupK K) (pv 1) (pe_un un_neg pe_int) (fun _ _ => rfl)) pe_int) (pa_cons (pe_op op_add (pv 2) pe_int) pa_nil))) (pg_name (i := 5) nd rfl (.inl rfl)) (pss_one (ps_if (PW.pt (pw_and (pt_cmpR op_lt (pe_call (ok_l_pick T) (hr.mono (by decide)) rfl T.g_l_pick T.F_l_pick.kp T.b_l_pick .nil pass0 (pa_cons (pv 0) (pa_cons pe_int pa_nil))) (pv 3) (nomark _)) (pw_and1 (pt_cmpR (op_eqNilK K hr.units) (pe_call (ok_l_pairs T) (hr.mono (by decide)) rfl T.g_l_pairs T.F_l_pairs.kp T.b_l_pairs .nil pass0 (pa_cons (pv 4) (pa_cons (pv 5) pa_nil))) (pe_lst pa_nil) (nomark _))))) (pss_one (ps_dput (hu_of hr) (pv 4) (pv 5) pe_bl rfl)) pss_nil)))
      (pss_one (ps_ret (pv 4))))), ?_⟩
    refine ⟨_, rfl, t, rfl, ⟨_, SqT.of ht⟩, fun D hD => ?_⟩
    refine lc_it (walk_tup (xs := S.map vn)) (fun i H' => Same H H' ∧ ∃ us : List Addr, H' D = some (.lst (us.map V.ref)) ∧ PdT H' us (presK (S.take i))) ⟨same_new hD, [], upd_same, .nil⟩ (fun i H' _ h => SqT.of (h.1 _ _ ht)) ?_ ?_
    · rintro i v H2 H3 hi ⟨s2, us, eD, pr⟩ ⟨rfl, hx⟩
      obtain ⟨y, hy, gy, rfl⟩ := vn_at hx
      rw [List.length_map] at hi
      refine ⟨rfl, ?_⟩
      refine iteT (B := Same H H3 ∧ ∃ us, H3 D = some (HO.lst (List.map V.ref us)) ∧ PdT H3 us (presK (List.take (i + 1) S))) ⟨_, rfl, (by show 2 ≤ sizeLine; decide), fun u hu => ?_⟩
      have s4 := same_new (o := .tup [vn y, .bl true]) hu
      have e4 : upd H3 u (.tup [vn y, .bl true]) u = some (.tup [vn y, .bl true]) := upd_same
      have eD4 := s4 _ _ eD
      have pr4 := pr.mono (H' := upd H3 u (.tup [vn y, .bl true])) fun t xs e => s4 _ _ e
      generalize upd H3 u (.tup [vn y, .bl true]) = H4 at s4 e4 eD4 pr4 ⊢
      have pl := pr.len
      rw [presK_len, List.length_take] at pl
      refine ⟨_, eD4, small_lt (b := 3000) (by rw [List.length_map]; omega), Same.mut (Same.trans s2 s4) hD, us ++ [u], ?_, ?_⟩
      · rw [upd_same, List.map_append]
        rfl
      · rw [show presK (S.take (i + 1)) = presK (S.take i) ++ [(Sum.inl ((y : Nat) : Int), V.bl true)] by
          unfold presK
          rw [List.take_succ, gy, List.map_append]
          rfl]
        exact (PdT.snoc (kv := (Sum.inl ((y : Nat) : Int), V.bl true)) e4 pr4).mono fun t xs e => by rw [upd_ne (ne_of e eD4 (fun z => nomatch z))]; exact e
    · rintro H2 ⟨s2, us, eD, pr⟩
      rw [List.length_map, List.take_length] at pr
      have pl := pr.len
      rw [presK_len] at pl
      have nds : S.Nodup := st.asc.imp fun h => Nat.ne_of_lt h
      refine ⟨D, us, presK S, rfl, SqL.of eD, pr.sq, fun d hd => ?_⟩
      rw [show mergeK [] (presK S) = presK S from merge_presK S [] nds]
      have s3 := Same.trans s2 (same_new (o := .dK (presK S)) hd)
      have ed : upd H2 d (.dK (presK S)) d = some (.dK (presK S)) := upd_same
      have hd0 : H d = none := by
        cases e : H d with
        | none => rfl
        | some o => rw [s2 _ _ e] at hd; cases hd
      have ht3 := s3 _ _ ht
      have src3 := src.same s3
      have b3 : But p H (upd H2 d (.dK (presK S))) := Same.but s3
      generalize upd H2 d (.dK (presK S)) = H3 at s3 ed ht3 src3 b3 ⊢
      have dp : d ≠ p := fun z => by obtain ⟨kvs, e⟩ := src.dict; rw [← z, hd0] at e; cases e
      have h0 := st.pos
      have elast : atI (S.map vn) (-1) = some (vn L) := by rw [at_last h0, st.getLast]
      refine ⟨_, rfl, _, rfl, t, _, _, _, rfl, rfl, SqT.of ht3, elast, _, _, rfl, rfl, _, rfl, _, _, rfl, rfl, _, _, rfl, ⟨by omega, by omega, by omega, by omega⟩, ?_⟩
      have en : (((L + 150 : Nat) : Int) + 1 - ((L : Int) + 1)).toNat = 150 := by omega
      rw [en]
      refine for_it walk_range (fun i σ H' => ∃ (pls : List Nat) (ai : Nat) (y5 : Option V), σ = [some (.ref p), some (.ref t), some (vn (L + 150)), some (vn share), some (.ref d), y5, none] ∧ But p H H' ∧ SrcD H' p ai ∧ ai ≤ a + i ∧ H' d = some (.dK (presK pls)) ∧ pls.Pairwise (· < ·) ∧ Free pls ∧ pls.length ≤ 40 + i ∧ (∀ x, x ≤ L → (x ∈ pls ↔ x ∈ S)) ∧ (∀ x ∈ pls, x ≤ L + i))
        ⟨S, a, none, rfl, b3, src3, Nat.le_refl _, ed, st.asc, st.free, h40, fun x _ => Iff.rfl, st.le⟩ (fun _ _ _ _ _ => trivial) ?_ ?_
      · rintro i x σ H4 H5 hi ⟨pls, ai, y5, rfl, b4, src4, hai, ed4, hS, hF, hlen, hst, hle⟩ ⟨rfl, rfl⟩
        have esp : V.int ((L : Int) + 1 + (i : Int)) = vn (L + 1 + i) := rfl
        have hlt : ∀ y ∈ pls, y < L + 1 + i := fun y hy => by have := hle y hy; omega
        show gName 5 (vn (L + 1 + i)) _ _ _
        refine ⟨_, rfl, p, 10, ai, rfl, by decide, by decide, src4, by omega, fun H6 r hr6 b6 src6 => ?_⟩
        have b06 := But.trans b4 b6
        have ed6 := b6 _ _ dp ed4
        refine ⟨_, rfl, _, _, rfl, rfl, _, rfl, ite2 (fun c => ?_) (fun c => iteF ⟨pls, ai + 1, _, rfl, b06, src6, by omega, ed6, hS, hF, by omega, hst, fun y hy => by have := hle y hy; omega⟩)⟩
        refine ⟨_, rfl, _, rfl, d, pls, L + 1 + i, rfl, ed6, hS, by omega, fun m hm => Nat.lt_trans (hlt m hm) (by omega), fun H7 pp ts s7 epp prr => ⟨(by show 0 ≤ sizeLine; decide), fun l8 hl8 => ?_⟩⟩
        have s8 := Same.trans s7 (same_new (o := .lst []) hl8)
        have e8 : upd H7 l8 (.lst []) l8 = some (.lst []) := upd_same
        have epp2 := same_new (o := .lst []) hl8 _ _ epp
        have ed8 := s8 _ _ ed6
        have src8 := src6.same s8
        have b8 := But.same b06 s8
        generalize upd H7 l8 (.lst []) = H8 at s8 e8 epp2 ed8 src8 b8 ⊢
        refine ⟨pp, l8, _, rfl, rfl, SqL.of epp2, SqL.of e8, _, rfl, ite2 (fun c => ?_) (fun c => ?_)⟩
        · have hnil := prs_nil.mp ((pr_empty prr).mp c)
          have hnot : L + 1 + i ∉ pls := fun z => Nat.lt_irrefl _ (hlt _ z)
          refine ⟨_, rfl, _, rfl, d, _, rfl, DPut.k (k := Sum.inl (((L + 1 + i : Nat)) : Int)) ed8 ?_, ?_⟩
          · rw [presK_len]
            exact small_lt (b := 200) (by omega)
          rw [presK_new hnot]
          have src9 : SrcD (upd H8 d (.dK (presK (pls ++ [L + 1 + i])))) p (ai + 1) := by
            obtain ⟨cl, l0, rf, h1, h2, h3, h4⟩ := src8
            exact ⟨cl, l0, rf, by rw [upd_ne dp.symm]; exact h1, by rw [upd_ne (ne_of h2 ed8 (fun z => nomatch z))]; exact h2, h3, h4⟩
          have b9 : But p H (upd H8 d (.dK (presK (pls ++ [L + 1 + i])))) := fun b o hb e => by
            rw [upd_ne (fun z => by rw [z, hd0] at e; cases e)]
            exact b8 b o hb e
          refine ⟨pls ++ [L + 1 + i], ai + 1, _, rfl, b9, src9, by omega, upd_same, asc_snoc hS hlt, Free.snoc hF hlt hnil, ?_, fun x hx => ?_, fun x hx => ?_⟩
          · rw [List.length_append, List.length_singleton]; omega
          · rw [List.mem_append, hst x hx, List.mem_singleton]
            exact ⟨fun z => z.resolve_right (by omega), .inl⟩
          · rcases List.mem_append.mp hx with z | z
            · have := hlt x z; omega
            · have := List.mem_singleton.mp z; omega
        · exact ⟨pls, ai + 1, _, rfl, b8, src8, by omega, ed8, hS, hF, by omega, hst, fun y hy => by have := hle y hy; omega⟩
      · rintro σ H4 ⟨pls, ai, y5, rfl, b4, src4, hai, ed4, hS, hF, hlen, hst, hle⟩
        exact ⟨_, rfl, q H4 d pls ai b4 src4 (by omega) hd0 ed4 hS hF (by omega) hst hle⟩
end
end K14

namespace K14
open PySem PySem.Spec PyProof.Rows L2 TM TF GS
section
variable {P : Program} {w : World} {K : PySem.W.Frag} {mg : Str → Option Value} {base : Heap}
def sp_l_set_right (T : Txt K mg) : Sp := fun vs H Q _ => ∃ (a d pd : Addr) (S pls : List Nat) (L : Nat), vs = [.ref a, .ref pd, vn L, vn (L + 150)] ∧ GO H T.C_GreedySequence a d S L ∧ H pd = some (.dK (presK pls)) ∧ pd ≠ d ∧ Free pls ∧ (∀ x, x ≤ L → (x ∈ pls ↔ x ∈ S)) ∧
  ∀ H', Bt2 a d H H' → GO H' T.C_GreedySequence a d S L → Q (.bl true) H'
theorem ok_l_set_right (T : Txt K mg) : FnOk P w K mg base CX0 13 T.f_l_set_right T.fd_l_set_right ["sequence_here", "places", "low", "top"] (sp_l_set_right T) := by
  have nd := sc_l_set_right.nd
  refine T.F_l_set_right.ok sc_l_set_right (fun vs H Q E h => ?_) (fun cdv A outer s H vs Q E hr h => ?_)
  · obtain ⟨a, d, pd, S, pls, L, rfl, _⟩ := h
    rfl
  · obtain ⟨a, d, pd, S, pls, L, rfl, go, hp, pdd, hF, hst, q⟩ := h
    refine ⟨_, (pss_cons (ps_for PassesOwn.never rfl (pi_range2 rfl T.m_range (pa_cons (pv 2) (pa_cons (pe_op op_add (pv 3) pe_int) pa_nil))) (pg_name (i := 4) nd rfl (.inl rfl)) (pss_one (ps_if (pt_cmpR op_ne (pe_cmp (pc_din (hu_of hr) (pv 4) (pv 1))) (pe_meth (pv 0) T.c_GreedySequence T.me_GreedySequence_contains (ok_GreedySequence_contains T) (hr.mono (by decide)) T.b_GreedySequence_contains .nil pass0 (pa_cons (pv 4) pa_nil)) (nomark _)) (pss_one (ps_ret (pe_meth (pv 0) T.c_GreedySequence T.me_GreedySequence_contains (ok_GreedySequence_contains T) (hr.mono (by decide)) T.b_GreedySequence_contains .nil pass0 (pa_cons (pv 4) pa_nil)))) pss_nil)))
      (pss_one (ps_ret pe_bl))), ?_⟩
    obtain ⟨ts0, tm0, ms0, c0, g0, gm0⟩ := id go
    obtain ⟨dx0, ea0⟩ := gm0.obj
    have st := gm0.st
    have pda : pd ≠ a := ne_of hp ea0 (fun z => nomatch z)
    have lL := gm0.lL
    refine ⟨_, rfl, _, rfl, _, _, rfl, rfl, _, _, rfl, ⟨by omega, by omega, by omega, by omega⟩, ?_⟩
    have en : (((L + 150 : Nat) : Int) + 1 - (L : Int)).toNat = 151 := by omega
    rw [en]
    refine for_it walk_range (fun i σ H' => ∃ (y4 : Option V), σ = [some (.ref a), some (.ref pd), some (vn L), some (vn (L + 150)), y4] ∧ Bt2 a d H H' ∧ GO H' T.C_GreedySequence a d S L ∧ (∀ x, x < L + i → (x ∈ pls ↔ x ∈ gl S L 2000)))
      ⟨none, rfl, Bt2.refl a d H, go, fun x hx => by rw [hst x (by omega), gl_start st (show x ≤ L by omega)]⟩ (fun _ _ _ _ _ => trivial) ?_ ?_
    · rintro i x σ H4 H5 hi ⟨y4, rfl, b4, go4, hag⟩ ⟨rfl, rfl⟩
      show gName 4 (vn (L + i)) _ _ _
      obtain ⟨ts4, tm4, ms4, c4, g4, gm4⟩ := id go4
      obtain ⟨dx4, ea4⟩ := gm4.obj
      have hp4 := b4 _ _ pda pdd hp
      refine ⟨_, rfl, _, rfl, pd, _, rfl, DGet.k (k := Sum.inl ((L + i : Nat) : Int)) hp4, ?_⟩
      rw [presK_val]
      refine ⟨_, rfl, a, dx4, _, rfl, ea4, rfl, _, rfl, a, d, S, L, L + i, rfl, go4, by omega, fun H6 b6 go6 => ?_⟩
      refine ⟨rfl, _, rfl, ?_⟩
      have b06 := Bt2.trans b4 b6
      by_cases hin : L + i ∈ gl S L 2000
      · rw [decide_eq_true hin]
        by_cases hpl : L + i ∈ pls
        · rw [decide_eq_true hpl]
          refine iteF ⟨_, rfl, b06, go6, fun x hx => ?_⟩
          rcases Nat.lt_or_ge x (L + i) with z | z
          · exact hag x z
          · obtain rfl : x = L + i := by omega
            exact ⟨fun _ => hin, fun _ => hpl⟩
        · rw [decide_eq_false hpl]
          obtain ⟨ts6, tm6, ms6, c6, g6, gm6⟩ := id go6
          obtain ⟨dx6, ea6⟩ := gm6.obj
          refine iteT ⟨_, rfl, a, dx6, _, rfl, ea6, rfl, _, rfl, a, d, S, L, L + i, rfl, go6, by omega, fun H7 b7 go7 => ?_⟩
          rw [decide_eq_true hin]
          exact q H7 (Bt2.trans b06 b7) go7
      · rw [decide_eq_false hin]
        have hpl : L + i ∉ pls := fun hpl => by
          rcases Nat.eq_zero_or_pos i with z | z
          · subst z
            exact hin ((gl_start st (Nat.le_refl _)).mpr ((hst _ (Nat.le_refl _)).mp hpl))
          · have hcv : GS.Cv (gl S L 2000) (L + i) := Decidable.not_not.mp fun hn => hin ((gl_spec st.le (by omega) (by omega)).mpr hn)
            obtain ⟨y, z2, hy, hz, hyz, e⟩ := hcv
            exact hF _ hpl ⟨y, z2, (hag y (by omega)).mpr hy, (hag z2 (by omega)).mpr hz, hyz, e⟩
        rw [decide_eq_false hpl]
        refine iteF ⟨_, rfl, b06, go6, fun x hx => ?_⟩
        rcases Nat.lt_or_ge x (L + i) with z | z
        · exact hag x z
        · obtain rfl : x = L + i := by omega
          exact ⟨fun z => absurd z hpl, fun z => absurd z hin⟩
    · rintro σ H4 ⟨y4, rfl, b4, go4, hag⟩
      exact q H4 b4 go4
end
end K14

/-! a def with **names, called by keywords -/
namespace TF
open PySem PySem.Spec PyProof.Rows L2 TM StX
/-! ### the dict that is filled -/
theorem push_upd {h : Heap} {o : Obj} {f : Obj → Obj} : (h.push o).update h.objs.size f = h.push (f o) := by
  obtain ⟨objs, l⟩ := h
  show Heap.mk ((objs.push o).modify objs.size f) l = Heap.mk (objs.push (f o)) l
  congr 1
  apply Array.ext
  · simp
  · intro i h1 h2
    have hi : i < objs.size + 1 := by simpa using h1
    simp [Array.getElem_modify, Array.getElem_push]
    split <;> split <;> first | rfl | omega
abbrev kwEnts (w : World) := PySem.W.kwEs w.params
theorem kw_fill {M : Model} {A : Around} {E : Value → Shared → Prop} {h : Heap} {Q : PUnit → Shared → Prop} : ∀ (ex : List (Str × Value)) (es : List DictEntry) (n : Nat) (s : Shared), s.heap = h.push (PySem.W.dictOf es n) →
    (∀ e ∈ es, ∀ x ∈ ex, e.key.isStr x.1 = false) → (∀ e ∈ es, e.refKey = false) → (ex.map (·.1)).Nodup →
    (∀ s' : Shared, s' = { s with heap := h.push (PySem.W.dictOf (es ++ kwEnts M.w s.toks ex) (n + ex.length)), toks := s.toks + ex.length } → Q ⟨⟩ s') →
    wpAny M A (forIn ex PUnit.unit fun x _ => (nsSet h.objs.size x.1 x.2 >>= fun _ => pure (ForInStep.yield PUnit.unit))) Q E s
  | [], es, n, s, hh, _, _, _, k => by
    rw [List.forIn_nil]
    refine wpAny_pure (k s ?_)
    show s = { s with heap := h.push (PySem.W.dictOf (es ++ []) n), toks := s.toks }
    rw [List.append_nil, ← hh]
  | x :: r, es, n, s, hh, hs, hr, hn, k => by
    obtain ⟨hn1, hn2⟩ := List.nodup_cons.mp (show (x.1 :: r.map (·.1)).Nodup from hn)
    rw [List.forIn_cons]
    have hs0 : ∀ e ∈ es, e.key.isStr x.1 = false := fun e he => hs e he x (.head _)
    have e1 : es.any (·.key.isStr x.1) = false := by
      cases q : es.any (·.key.isStr x.1) with
      | false => rfl
      | true => obtain ⟨e, he, z⟩ := List.any_eq_true.mp q; rw [hs0 e he] at z; cases z
    have e2 : es.any (·.refKey) = false := by
      cases q : es.any (·.refKey) with
      | false => rfl
      | true => obtain ⟨e, he, z⟩ := List.any_eq_true.mp q; rw [hr e he] at z; cases z
    have e : Obj.putName x.1 (PyData.keyHash M.w.params x.1) (.str x.1 s.toks) x.2 (PySem.W.dictOf es n) = PySem.W.dictOf (es ++ [⟨PyData.keyHash M.w.params x.1, .str x.1 s.toks, x.2⟩]) (n + 1) := by
      rw [PySem.W.putName_dict, PySem.W.putL_new hs0]
      show PySem.W.dictOf _ (if es.any (·.key.isStr x.1) then n else n + 1) = _
      rw [e1, if_neg Bool.false_ne_true]
    have D : s.heap.get? h.objs.size = some (PySem.W.dictOf es n) := by rw [hh]; exact Heap.get?_push_size _ rfl
    have c : aRefKeyMayBeTheName x.1 es.toArray = false := by
      rw [aRefKeyMayBeTheName_at, ← Array.any_toList, ← Array.any_toList]
      show (!es.any (·.key.isStr x.1) && es.any (·.refKey)) = false
      rw [e2, Bool.and_false]
    refine wpAny_bind (wpAny_bind ?_)
    unfold nsSet
    refine wpAny_bind (wpAny_bind (wpAny_askSetting (wpAny_pure (wpAny_bind (wpAny_mkText (wpAny_bind (wpAny_loadPart D ?_)))))))
    dsimp only
    rw [c]
    refine wpAny_updatePart D (wpAny_pure ?_)
    have hu : s.heap.update h.objs.size (Obj.putName x.1 (PyData.keyHash M.w.params x.1) (.str x.1 s.toks) x.2) = h.push (PySem.W.dictOf (es ++ [⟨PyData.keyHash M.w.params x.1, .str x.1 s.toks, x.2⟩]) (n + 1)) := by
      rw [hh, push_upd, e]
    show wpAny M A (forIn r PUnit.unit fun x _ => (nsSet h.objs.size x.1 x.2 >>= fun _ => pure (ForInStep.yield PUnit.unit))) Q E { s with heap := s.heap.update h.objs.size (Obj.putName x.1 (PyData.keyHash M.w.params x.1) (.str x.1 s.toks) x.2), toks := s.toks + 1 }
    refine kw_fill r (es ++ [⟨PyData.keyHash M.w.params x.1, .str x.1 s.toks, x.2⟩]) (n + 1) _ hu (fun e he y hy => ?_) (fun e he => ?_) hn2 fun s' es' => k s' ?_
    · rcases List.mem_append.mp he with he | he
      · exact hs e he y (.tail _ hy)
      · obtain rfl := List.mem_singleton.mp he
        show (x.1 == y.1) = false
        exact beq_eq_false_iff_ne.mpr fun q => hn1 (by rw [q]; exact List.mem_map_of_mem hy)
    · rcases List.mem_append.mp he with he | he
      · exact hr e he
      · obtain rfl := List.mem_singleton.mp he
        rfl
    · rw [es']
      show ({ s with heap := h.push (PySem.W.dictOf ((es ++ [⟨PyData.keyHash M.w.params x.1, .str x.1 s.toks, x.2⟩]) ++ kwEnts M.w (s.toks + 1) r) (n + 1 + r.length)), toks := s.toks + 1 + r.length } : Shared) = _
      rw [List.append_assoc, Nat.add_assoc n, Nat.add_comm 1, Nat.add_assoc s.toks, Nat.add_comm 1]
      rfl
/-- the dict as it is tracked -/
def kwK (ks : List Str) (zs : List V) : List (Key × V) := (ks.zip zs).map fun q => (Sum.inr q.1, q.2)
theorem kw_pairs {P : Program} {w : World} : ∀ (ex : List (Str × Value)) (t : Tok), Pairs (mixKind P w) (PySem.W.kwEs w.params t ex) (ex.map fun x => (Sum.inr x.1, x.2))
  | [], _ => .nil
  | x :: r, t => .cons (by show Value.isStrOf x.1 (.str x.1 t) = true; simp [Value.isStrOf]) rfl (kw_pairs r (t + 1))
theorem kw_KV : ∀ (ks : List Str) {zs : List V} {ws : List Value}, Vals zs ws → KV (kwK ks zs) ((ks.zip ws).map fun x => ((Sum.inr x.1 : Key), x.2))
  | [], _, _, _ => .nil
  | k :: ks, [], _, h => by cases h; exact .nil
  | k :: ks, z :: zs, _, h => by
    cases h with
    | cons r h => exact .cons ⟨rfl, r⟩ (kw_KV ks h)
theorem zip_keys {α β : Type} : ∀ (ks : List α) (ws : List β), ws.length = ks.length → (ks.zip ws).map (·.1) = ks
  | [], _, _ => by simp
  | k :: ks, w :: ws, h => by rw [List.zip_cons_cons, List.map_cons, zip_keys ks ws (by simpa using h)]
  | k :: ks, [], h => by cases h
theorem kw_ok {P : Program} {w : World} {H : Hp} {h : Heap} {ks : List Str} {zs : List V} {ws : List Value} {t : Tok} {n : Nat} (hb : sysModules < h.objs.size) (r : Vals zs ws) (hl : ws.length = ks.length) (hn : ks.Nodup) (hk : ks.length ≤ 15) :
    ObjOk P w H (h.push (PySem.W.dictOf (PySem.W.kwEs w.params t (ks.zip ws)) n)) h.objs.size (.dK (kwK ks zs)) := by
  refine dk_new (vs := (ks.zip ws).map fun x => ((Sum.inr x.1 : Key), x.2)) ?_ (beq_eq_false_iff_ne.mpr (Ne.symm (Nat.ne_of_lt hb))) (kw_KV ks r) ?_
  · unfold kwK
    rw [List.length_map, List.length_zip]
    exact small_ok (b := 15) (by omega)
  · refine ⟨_, _, n, Heap.get?_push_size _ rfl, ⟨rfl, rfl, rfl⟩, rfl, fun e he => ?_, kw_pairs _ t, ?_⟩
    · obtain ⟨k, u, hk, hh⟩ := PySem.W.kwEs_key (ks.zip ws) t e (List.mem_toArray.mp he)
      exact ⟨Sum.inr k, by rw [hk]; show Value.isStrOf k (.str k u) = true; simp [Value.isStrOf], hh.trans rfl⟩
    · rw [List.map_map]
      have e : ((fun x : Key × Value => x.1) ∘ fun x : Str × Value => ((Sum.inr x.1 : Key), x.2)) = (fun k : Str => (Sum.inr k : Key)) ∘ (·.1) := rfl
      rw [e, ← List.map_map, zip_keys ks ws hl]
      exact List.Pairwise.map _ (fun a b hab z => hab (Sum.inr.inj z)) hn
/-! ### the def -/
def KwB1 (fd : FuncData) (q pd : Str) (ks : List Str) : Prop := ∀ (u : Value) (ws : List Value), ws.length = ks.length → bindArgs fd ⟨[u], ks.zip ws⟩ =
  ((alloc ({ cls := .type "dict", data := .dict #[] } : Obj) : Sem Addr) >>= fun d => (forIn (ks.zip ws) PUnit.unit (fun x _ => (nsSet d x.1 x.2 >>= fun _ => pure (ForInStep.yield PUnit.unit))) >>= fun _ => pure [(q, u), (pd, Value.ref d)]))
def kwSp1 (ks : List Str) (sp : Sp) (x : V) (zs : List V) : Hp → VK → XK → Prop := fun H Q E => ∀ d o, H d = none → sp [x, .ref d] (upd H d (.frz o (.dK (kwK ks zs)))) Q E
/-- called on an object with keywords alone -/
def FnKW (P : Program) (w : World) (K : PySem.W.Frag) (mg : Str → Option Value) (base : Heap) (CX : CXT) (k : Nat) (f : Addr) (ks : List Str) (sp : V → List V → Hp → VK → XK → Prop) : Prop :=
  ∀ (A : Around) (outer : List Env) (s : Shared) (H : Hp) (u : Value) (ws : List Value) (x : V) (zs : List V) (Q : VK) (E : XK), Room k A → Env0 P w K mg base A outer s H → RelV x u → Vals zs ws → zs.length = ks.length → sp x zs H Q E →
    codeAny (model P w) A (.call (.ref f) ⟨[u], ks.zip ws⟩) (CR CX outer P w H s Q E) s
theorem env0_tok {P : Program} {w : World} {K : PySem.W.Frag} {mg : Str → Option Value} {base : Heap} {A : Around} {outer : List Env} {s : Shared} {H : Hp} (e : Env0 P w K mg base A outer s H) (t : Tok) : Env0 P w K mg base A outer { s with toks := t } H :=
  ⟨e.frames, e.mod, e.bs, e.bsz, e.funs, e.frf, e.hok, e.bare⟩
theorem fn_kw {P : Program} {w : World} {K : PySem.W.Frag} {mg : Str → Option Value} {base : Heap} {x qual : Str} {st : Stmt} {f : Addr} {fd : FuncData} {N ks : List Str} {q pd : Str} {k : Nat} {sp : Sp} (F : Fun K x qual st f fd) (S : FnScope N [q, pd] (defScope st)) (b : KwB1 fd q pd ks) (hn : ks.Nodup) (hk : ks.length ≤ 15)
    (hbody : ∀ (cdv : Value) (A : Around) (outer : List Env) (s : Shared) (H : Hp) (vs : List V) (Q : VK) (E : XK), Room k (A.deeper (envOfC qual (defScope st) s.heap.objs.size f cdv)) → sp vs H Q E →
      ∃ t, PSs (cxOf CX0 P w K mg base N qual (defScope st) f cdv A outer s H E).nox (defBody st) t ∧ t { nx := fun _ H' => Q .non H', rt := Q } (start N vs) H) : FnKW P w K mg base CX0 (k + 1) f ks (kwSp1 ks sp) := by
  obtain ⟨oc, od, kV, doc, pm, an, cdv, ct, osl, rfl, lk, hcd⟩ := F.ex
  intro A outer s H u ws x zs Q E hr e0 rx rz hl hsp
  have hn0 : H s.heap.objs.size = Option.none := e0.hok.fresh (Nat.le_refl _)
  have hw : ws.length = ks.length := by rw [← rz.length]; exact hl
  refine run_bnd lk hcd S hr e0 (G := fun xs H2 => ∃ d o, H d = Option.none ∧ xs = [x, V.ref d] ∧ H2 = upd H d (.frz o (.dK (kwK ks zs)))) (fun A' Ex Q' h => ?_) fun s2 H2 xs ⟨d, o, hd, ex, eH⟩ hr' => ?_
  · rw [b u ws hw]
    refine wpAny_bind (wpAny_alloc ?_)
    refine wpAny_bind (kw_fill (h := s.heap) (ks.zip ws) [] 0 { s with heap := s.heap.push _ } rfl (fun e he => nomatch he) (fun e he => nomatch he) (by rw [zip_keys ks ws hw]; exact hn) fun s' es' => ?_)
    refine wpAny_pure ?_
    subst es'
    have ok := kw_ok (P := P) (w := w) (H := upd H s.heap.objs.size (.frz (PySem.W.dictOf (PySem.W.kwEs w.params s.toks (ks.zip ws)) (0 + (ks.zip ws).length)) (.dK (kwK ks zs)))) (t := s.toks) (n := 0 + (ks.zip ws).length) (env0_big e0) rz hw hn hk
    have new : ObjOk P w (upd H s.heap.objs.size (.frz (PySem.W.dictOf (PySem.W.kwEs w.params s.toks (ks.zip ws)) (0 + (ks.zip ws).length)) (.dK (kwK ks zs)))) (s.heap.push (PySem.W.dictOf (PySem.W.kwEs w.params s.toks (ks.zip ws)) (0 + (ks.zip ws).length))) s.heap.objs.size (.frz (PySem.W.dictOf (PySem.W.kwEs w.params s.toks (ks.zip ws)) (0 + (ks.zip ws).length)) (.dK (kwK ks zs))) :=
      ⟨Heap.get?_push_size _ rfl, ok⟩
    have un := un_laid (fs := frs outer) (s := s) (o := PySem.W.dictOf (PySem.W.kwEs w.params s.toks (ks.zip ws)) (0 + (ks.zip ws).length)) (u := .frz (PySem.W.dictOf (PySem.W.kwEs w.params s.toks (ks.zip ws)) (0 + (ks.zip ws).length)) (.dK (kwK ks zs))) hn0
    refine h _ _ [x, V.ref s.heap.objs.size] [u, Value.ref s.heap.objs.size] (env0_tok (env0_laid e0 new) _) un rfl (fun e s' z => z) (.cons rx (.cons rfl .nil)) rfl ⟨_, _, hn0, rfl, rfl⟩
  · subst ex eH
    obtain ⟨t, h, q⟩ := hbody cdv A outer s2 _ _ Q E hr' (hsp d o hd)
    exact ⟨t, h.nox, q⟩
section
variable {X : Cx} {pins : List (Addr × Obj)} {σ : L2.St} {H : Hp} {s : Shared} {k : Nat} {f C : Addr} {ks : List Str} {sp : V → List V → Hp → VK → XK → Prop} {m : Str} {pos apos : Pos} {E : XK} {o : Expr} {ta : TE}
def tMethKS (C : Addr) (m : Str) (ks : List Str) (sp : V → List V → Hp → VK → XK → Prop) (E : XK) (ta : TE) (tk : TA) : TE := fun σ H Q => ta σ H fun x H1 => ∃ a dx fs, x = .ref a ∧ H1 a = some (.ins C dx fs) ∧ fs.lookup m = none ∧ tk σ H1 fun zs H2 => zs.length = ks.length ∧ sp (.ref a) zs H2 Q E
theorem run_kw {u : Value} {ws : List Value} {x : V} {zs : List V} {Q : VK} (F : FnKW X.prog X.w X.K X.mg X.base CX0 k f ks sp) (hr : Room k X.A) (hx : Passes CX0 X E) (I : Inv X pins σ H s) (rx : RelV x u) (rz : Vals zs ws) (hl : zs.length = ks.length) (h : sp x zs H Q E) :
    codeAny (model X.prog X.w) X.A (.call (.ref f) ⟨[u], ks.zip ws⟩) (fun r s' => match r with
      | .ok (.ret u) => EP X pins σ Q u s'
      | .ok _ => False | .error e => X.xe e s') s := by
  refine codeAny_mono (F X.A X.stack s H u ws x zs Q E hr I.env0 rx rz hl h) fun r s' hq => ?_
  cases r with
  | error e => exact hx pins σ H s e s' I hq
  | ok fl =>
    cases fl with
    | ret u => exact I.after hq
    | next => exact hq.elim
    | brk => exact hq.elim
    | cont => exact hq.elim
theorem pe_methKS {pl : Sem Bool} {kws : List Keyword} {tk : TA} (he : PE X o ta) (c : Cls X.K C) (hm : Meth X.K C m f) (F : FnKW X.prog X.w X.K X.mg X.base CX0 k f ks sp) (hr : Room k X.A) (hx : Passes CX0 X E) (hkw : PK X kws tk)
    (hall : (backToKw pos (keywordEach kws X.env)).all (·.1.isSome) = true := by rfl) (hks : (backToKw pos (keywordEach kws X.env)).filterMap (·.1) = ks := by rfl)
    (hpl : ((backTo pos (starEach [] X.env)).any (·.1) || (backToKw pos (keywordEach kws X.env)).any (·.1.isNone)) = false := by rfl)
    (ht : eval (.Call (.Attribute o m apos) [] kws pos) X.env = (do
      let ov ← eval o X.env
      standAt apos.atName
      let (f, first) ← holding [ov] (getMethod ov m pl)
      callWith pos f first (backTo pos (starEach [] X.env)) (backToKw pos (keywordEach kws X.env))) := by rfl) :
    PE X (.Call (.Attribute o m apos) [] kws pos) (tMethKS C m ks sp E ta tk) := by
  constructor
  intro pins s σ H Q I h
  refine PySem.W.methodCall_KW (pl := pl) (thn (he.run pins s σ H _ I h) fun u s1 hh => ?_) ht
  obtain ⟨x, H1, I1, rx, a, dx, fs, ex, ea, l, q⟩ := hh
  subst ex
  obtain rfl : u = Value.ref a := rx
  refine getmeth_ok I1 ea c hm l ?_
  refine PySem.W.callWith_KW0 (first := [.ref a]) (h₀ := X.base) I1.ok.mod.kin hm.kp hall ?_ hpl
  refine thn (hkw.run pos pins s1 σ H1 _ I1 q) fun ws s2 hh => ?_
  obtain ⟨zs, H2, I2, rz, l0, q2⟩ := hh
  refine ⟨I2.kIn, ?_⟩
  rw [hks]
  refine wpAny_call (codeAny_mono (run_kw F hr hx I2 (show RelV (.ref a) (.ref a) from rfl) rz l0 q2) fun r s' hq => ?_)
  cases r with
  | error e => exact hq
  | ok fl => cases fl <;> first | exact hq | exact hq.elim
theorem pe_methKS0 {pl : Sem Bool} (he : PE X o ta) (c : Cls X.K C) (hm : Meth X.K C m f) (F : FnKW X.prog X.w X.K X.mg X.base CX0 k f [] sp) (hr : Room k X.A) (hx : Passes CX0 X E)
    (ht : eval (.Call (.Attribute o m apos) [] [] pos) X.env = (do
      let ov ← eval o X.env
      standAt apos.atName
      let (f, first) ← holding [ov] (getMethod ov m pl)
      callWith pos f first (backTo pos (starEach [] X.env)) (backToKw pos (keywordEach [] X.env))) := by rfl) :
    PE X (.Call (.Attribute o m apos) [] [] pos) (tMethKS C m [] sp E ta tNil) := by
  constructor
  intro pins s σ H Q I h
  refine PySem.W.methodCall_KW (pl := pl) (thn (he.run pins s σ H _ I h) fun u s1 hh => ?_) ht
  obtain ⟨x, H1, I1, rx, a, dx, fs, ex, ea, l, l0, q⟩ := hh
  subst ex
  obtain rfl : u = Value.ref a := rx
  refine getmeth_ok I1 ea c hm l ?_
  refine PySem.W.callWith_K0 (first := [.ref a]) I1.kIn hm.kp (wpAny_call (codeAny_mono (run_kw (ws := []) F hr hx I1 (show RelV (.ref a) (.ref a) from rfl) .nil l0 q) fun r s' hq => ?_))
  cases r with
  | error e => exact hq
  | ok fl => cases fl <;> first | exact hq | exact hq.elim
end
theorem _root_.L2.Fun.kwB1 {K : PySem.W.Frag} {x qual : Str} {st : Stmt} {f : Addr} {fd : FuncData} {q pd : Str} {ks : List Str} (F : Fun K x qual st f fd)
    (h : ∀ (kV doc pm : Value) (an : Option Addr) (cdv ct u : Value) (ws : List Value), ws.length = ks.length → bindArgs (PySem.W.fnOf x qual (defArgs st) (defBody st) (defScope st) .none kV doc pm an cdv ct) ⟨[u], ks.zip ws⟩ =
      ((alloc ({ cls := .type "dict", data := .dict #[] } : Obj) : Sem Addr) >>= fun d => (forIn (ks.zip ws) PUnit.unit (fun x _ => (nsSet d x.1 x.2 >>= fun _ => pure (ForInStep.yield PUnit.unit))) >>= fun _ => pure [(q, u), (pd, Value.ref d)]))) : KwB1 fd q pd ks := by
  obtain ⟨oc, od, kV, doc, pm, an, cdv, ct, osl, rfl, lk, hcd⟩ := F.ex
  exact fun u ws hl => h kV doc pm an cdv ct u ws hl
end TF

/-! len of a set of numbers, a static method by keywords, a star method without arguments, dict comprehensions over any walk -/
namespace L2
open PySem PySem.Spec PyProof.Rows StX
section
variable {X : Cx}
def rLenSet (w : World) : List V → Hp → VK → Prop := fun vs H Q => ∃ (a : Addr) (S : Int → Bool) (n : Nat) (ks : List Int), vs = [V.ref a] ∧ H a = some (SetO w a S n) ∧ ks.Nodup ∧ (∀ k, k ∈ ks ↔ S k = true) ∧ Q (.int ks.length) H
theorem perm_of_mem : ∀ {l1 l2 : List Int}, l1.Nodup → l2.Nodup → (∀ k, k ∈ l1 ↔ k ∈ l2) → l1.length = l2.length := fun {l1 l2} h1 h2 h => ((List.perm_ext_iff_of_nodup h1 h2).mpr h).length_eq
theorem cr_lenSet : CallR X (.builtin "len") (rLenSet X.w) := by
  intro pins s σ H vs us Q I r h
  obtain ⟨a, S, n, ks, rfl, ha, hk, hm, q⟩ := h
  rw [Vals.ref1 r]
  obtain ⟨o, es, ep, tb, ho, hex, hd, g, nd, hms, hb, hf, hn, hr, hl⟩ := setO_get I ha
  have hlen : ks.length = es.size := by
    have h1 := perm_of_mem hk nd fun k => by rw [hm, hms]
    rw [h1, List.length_map, Array.length_toList]
  refine call_len_set ho hex hd hf ?_ ⟨.int ks.length, H, I.tok _, ⟨_, by rw [hlen]⟩, q⟩
  have : es.size < scanBound := hb
  unfold scanBound at this
  omega
end
section
variable {X : Cx} {CX : CXT} {k : Nat} {C f g p : Addr} {mc : Value} {m : Str} {sp : Sp} {E : XK} {o : Expr} {ta : TE} {fd : FuncData} {ps ks : List Str} {apos pos : Pos} {pl : Sem Bool}
theorem pe_methR0 (he : PE X o ta) (c : Cls X.K C) (hm : Meth X.K C m f)
    (F : FnR X.prog X.w X.K X.mg X.base CX k f sp) (hr : Room k X.A) (hx : Passes CX X E)
    (ht : eval (.Call (.Attribute o m apos) [] [] pos) X.env = (do
      let ov ← eval o X.env
      standAt apos.atName
      let (f, first) ← holding [ov] (getMethod ov m pl)
      callWith pos f first (backTo pos (starEach [] X.env)) (backToKw pos (keywordEach [] X.env))) := by rfl) :
    PE X (.Call (.Attribute o m apos) [] [] pos) (tMethR C m sp E ta tNil) := by
  refine ⟨fun pins s σ H Q I h => ?_⟩
  refine PySem.W.methodCall_KW (pl := pl) (thn (he.run pins s σ H _ I h) fun u s1 ⟨x, H1, I1, rx, a, dx, fs, ex, ea, l, q⟩ => ?_) ht
  subst ex
  obtain rfl : u = Value.ref a := rx
  refine getmeth_ok I1 ea c hm l ?_
  exact PySem.W.callWith_K0 (first := [.ref a]) I1.kIn hm.kp (wpAny_call (run_fnR (us := [.ref a]) (vs := [.ref a]) F hr hx I1 (.cons rfl .nil) q))
def tSMethK (C : Addr) (sp : Sp) (n : Nat) (gg : {α : Type} → List α → List α) (E : XK) (ta : TE) (tk : TA) : TE := fun σ H Q => ta σ H fun x H1 => x = .ref C ∧ tk σ H1 fun zs H2 => zs.length = n ∧ sp (gg zs) H2 Q E
theorem pe_smethK {gg : {α : Type} → List α → List α} {kws : List Keyword} {tk : TA} (he : PE X o ta) (r : ClX.CRead X.K C mc) (c : SMet X.K C mc m p g) (F : FnOk X.prog X.w X.K X.mg X.base CX0 k g fd ps sp) (hr : Room k X.A) (hx : Passes CX0 X E) (hb : TF.KB0 X.K fd ps ks gg) (hkw : PK X kws tk)
    (hall : (backToKw pos (keywordEach kws X.env)).all (·.1.isSome) = true := by rfl) (hks : (backToKw pos (keywordEach kws X.env)).filterMap (·.1) = ks := by rfl)
    (hpl : ((backTo pos (starEach [] X.env)).any (·.1) || (backToKw pos (keywordEach kws X.env)).any (·.1.isNone)) = false := by rfl)
    (ht : eval (.Call (.Attribute o m apos) [] kws pos) X.env = (do
      let ov ← eval o X.env
      standAt apos.atName
      let (f, first) ← holding [ov] (getMethod ov m pl)
      callWith pos f first (backTo pos (starEach [] X.env)) (backToKw pos (keywordEach kws X.env))) := by rfl) :
    PE X (.Call (.Attribute o m apos) [] kws pos) (tSMethK C sp ks.length gg E ta tk) := by
  refine ⟨fun pins s σ H Q I h => ?_⟩
  refine PySem.W.methodCall_KW (pl := pl) (thn (he.run pins s σ H _ I h) fun u s1 ⟨x, H1, I1, rx, ex, q⟩ => ?_) ht
  subst ex
  obtain rfl : u = Value.ref C := rx
  obtain ⟨rest, hp⟩ := c.rc
  refine PySem.W.method_cls I1.kIn r.ga ?_
  refine PySem.W.cls_bind I1.kIn r.rd c.at_ ?_
  refine wpAny_call (PySem.W.sm_get (s := { s1 with toks := s1.toks + 1 }) I1.kIn hp (PySem.W.handed_on rfl ?_))
  have I2 := I1.tok (s1.toks + 1)
  refine PySem.W.callWith_KW0 (first := []) (h₀ := X.base) I2.ok.mod.kin c.kp hall ?_ hpl
  refine thn (hkw.run pos pins _ σ H1 _ I2 q) fun ws s2 hh => ?_
  obtain ⟨zs, H2, I3, rz, l0, q2⟩ := hh
  refine ⟨I3.kIn, ?_⟩
  rw [hks]
  have r2 := hb.rel rz
  have hl : ws.length = ks.length := by rw [← rz.length, l0]
  refine wpAny_call (codeAny_mono (F.run X.A X.stack s2 H2 ⟨[], ks.zip ws⟩ (gg ws) (gg zs) Q E hr I3.env0 (hb.to s2 ws I3.kIn hl) r2 q2) fun r s' hq => ?_)
  cases r with
  | error e => exact hx pins σ H2 s2 e s' I3 hq
  | ok fl =>
    cases fl with
    | ret u => exact I3.after hq
    | next => exact hq.elim
    | brk => exact hq.elim
    | cont => exact hq.elim
end
/-- a dict comprehension over a walk -/
theorem dc_it {J : It} {n : Nat} {G : Hp → Prop} {Y : Nat → Hp → V → Hp → Prop} (w : Walk J n G Y) {g : TG} {tt : TT} {tk tv : TE} {vs : List Nat} {σ : L2.St} {H1 : Hp} {D : Addr} {Qd : Hp → Prop} (Pv : Nat → Hp → Prop) (h0 : Pv 0 (upd H1 D (.dK []))) (hG : ∀ i H, i ≤ n → Pv i H → G H)
    (hs : ∀ i x H H', i < n → Pv i H → Y i H x H' → g x (wipe σ vs) H' fun σ2 H2 => wipe σ2 vs = wipe σ vs ∧ tt σ2 H2 fun b H3 =>
      if b = true then tk σ2 H3 fun y H4 => tv σ2 H4 fun z H5 => ∃ kvs k, y = kV k ∧ H5 D = some (.dK kvs) ∧ kvs.length < sizeLine ∧ Pv (i + 1) (upd H5 D (.dK (putK kvs k z))) else Pv (i + 1) H3) (hd : ∀ H, Pv n H → Qd H) :
    ∃ W : Nat → Nat → Hp → Prop, (∃ m, W 0 m (upd H1 D (.dK []))) ∧ ∀ i m H, W i m H →
      (J.stop i H ∧ Qd H) ∨ (J.go i H ∧ ∃ Nx : Hp → Prop, (∀ H', Nx H' → ∃ m', m' < m ∧ W (i + 1) m' H') ∧ ∀ x H', J.yld i H x H' → g x (wipe σ vs) H' fun σ2 H2 => wipe σ2 vs = wipe σ vs ∧ tt σ2 H2 fun b H3 =>
        if b = true then tk σ2 H3 fun y H4 => tv σ2 H4 fun z H5 => ∃ kvs k, y = kV k ∧ H5 D = some (.dK kvs) ∧ kvs.length < sizeLine ∧ Nx (upd H5 D (.dK (putK kvs k z))) else Nx H3) := by
  refine ⟨fun i m H => m = n - i ∧ i ≤ n ∧ Pv i H, ⟨n, by simp, Nat.zero_le _, h0⟩, ?_⟩
  rintro i m H ⟨rfl, hi, p⟩
  have q := hG i H hi p
  by_cases hlt : i < n
  · refine .inr ⟨w.goes i H hlt q, Pv (i + 1), fun H' p' => ⟨n - (i + 1), by omega, rfl, hlt, p'⟩, fun x H' y => hs i x H H' hlt p (w.yields i H x H' hlt q y)⟩
  · have e : i = n := by omega
    subst e
    exact .inl ⟨w.stops H q, hd H p⟩
end L2

/-! try .. except T as n: the caught exception stays known behind the suite -/
namespace ExT
open PySem PySem.Spec PyProof.Rows L2
open PySem.W (Looks)
/-- a caught exception: its class, its dict -/
def ExK (cls : Value) (d : Option Addr) (a : Addr) : HO := .ext fun h => ∃ (oe : Obj) (vs : Array Value), h.get? a = some oe ∧ Zc cls d oe ∧ oe.data = .fields vs
theorem exK_ok {P : Program} {w : World} {H : Hp} {h : Heap} {a : Addr} {cls : Value} {d : Option Addr} {oe : Obj} {vs : Array Value} (e : h.get? a = some oe) (z : Zc cls d oe) (hd : oe.data = .fields vs) : ObjOk P w H h a (ExK cls d a) :=
  ⟨⟨oe, vs, e, z, hd⟩, ⟨oe, e⟩, fun _ _ ⟨o, v, q, r⟩ k => ⟨o, v, k o q, r⟩⟩
theorem flyK {B h h' : Heap} {l : List Env} {a : Addr} {Z : Obj → Prop} (x : HandSPX.FlyingZ B l a Z h) (k : ∀ b o, h.get? b = some o → h'.get? b = some o) : HandSPX.FlyingZ B l a Z h' := by
  obtain ⟨f1, f2, f3, oe, vs, T, oT, ts, he, hz, hd, h1, h2, h3, h4, h5, h6⟩ := x
  exact ⟨fun b o q => k b o (f1 b o q), f2, f3.of_keeps fun b o q _ => ⟨o, k b o q, rfl⟩, oe, vs, T, oT, ts, k _ _ he, hz, hd, h1, h2, h3, k _ _ h4, h5, h6⟩
/-- the clause's expression: whether it matches the class -/
def TestX (X : Cx) (t : Expr) (cls : Value) (b : Bool) : Prop := ∀ (a : Addr) (pn : List (Addr × Obj)) (σ : L2.St) (H : Hp) (s : Shared) (E : Value → Shared → Prop) (Q : Bool → Shared → Prop), Inv (X.suite a pn) [] σ H s → Looks (model X.prog X.w) s.heap (typeOf (.ref a)) cls →
  (∀ h', (∀ q o, s.heap.get? q = some o → h'.get? q = some o) → Q b { s with heap := h' }) → wpAny (model X.prog X.w) (X.A.mark (some (.ref a))) (eval t X.env) (fun c s₁ => wpAny (model X.prog X.w) (X.A.mark (some (.ref a))) (excMatches (.ref a) c) Q E s₁) E s
section
variable {X : Cx} {pins : List (Addr × Obj)} {σ : L2.St} {H : Hp} {s : Shared}
theorem ld_names {x : Str} {c : Value} {np : Pos} {a : Addr} {pn : List (Addr × Obj)} {E : Value → Shared → Prop} {Q : Value → Shared → Prop} (hc : Names X x c) (I : Inv (X.suite a pn) [] σ H s) (q : Q c s) : wpAny (model X.prog X.w) (X.A.mark (some (.ref a))) (eval (.Name x np) X.env) Q E s := by
  obtain ⟨hg, hdbg, hm | ⟨hm, hv, hnn⟩⟩ := hc
  · exact ld_glob (X := X.suite a pn) I hg hm q hdbg
  · exact ld_blt (X := X.suite a pn) I hg hm hv q hnn hdbg
theorem test_one {x : Str} {c cls : Value} {np : Pos} {b : Bool} (hc : Names X x c) (he : PySem.W.exmOne X.K cls c = some b) : TestX X (.Name x np) cls b := fun a pn σ H s E Q I LT q =>
  ld_names hc I ((PySem.W.exm_one (M := model X.prog X.w) I.kIn LT he).here (q s.heap fun _ _ z => z))
theorem test_two {x1 x2 : Str} {c1 c2 cls : Value} {p1 p2 tpos : Pos} {kk : Nat} {b : Bool} (n1 : Names X x1 c1) (n2 : Names X x2 c2) (he : PySem.W.exmAny X.K cls [c1, c2] = some b) : TestX X (.Tuple [.Name x1 p1, .Name x2 p2] kk tpos) cls b := fun a pn σ H s E Q I LT q => by
  refine wpAny_Tuple ?_
  refine wpAny_items_cons (ld_names n1 I ?_)
  refine wpAny_items_cons (ld_names n2 I ?_)
  refine wpAny_items_nil ⟨by size_fits, ?_⟩
  have kp : ∀ q o, s.heap.get? q = some o → (s.heap.push { cls := .type "tuple", data := .seq [c1, c2].toArray }).get? q = some o := fun _ _ z => Heap.get?_push_of_some _ z
  exact (PySem.W.exm_tup2 (I.kIn.keeps kp) (LT.keeps kp) (Heap.get?_push_size s.heap rfl) he).here (q _ kp)
theorem test_three {x1 x2 x3 : Str} {c1 c2 c3 cls : Value} {p1 p2 p3 tpos : Pos} {kk : Nat} {b : Bool} (n1 : Names X x1 c1) (n2 : Names X x2 c2) (n3 : Names X x3 c3) (he : PySem.W.exmAny X.K cls [c1, c2, c3] = some b) : TestX X (.Tuple [.Name x1 p1, .Name x2 p2, .Name x3 p3] kk tpos) cls b := fun a pn σ H s E Q I LT q => by
  refine wpAny_Tuple ?_
  refine wpAny_items_cons (ld_names n1 I ?_)
  refine wpAny_items_cons (ld_names n2 I ?_)
  refine wpAny_items_cons (ld_names n3 I ?_)
  refine wpAny_items_nil ⟨by size_fits, ?_⟩
  have kp : ∀ q o, s.heap.get? q = some o → (s.heap.push { cls := .type "tuple", data := .seq [c1, c2, c3].toArray }).get? q = some o := fun _ _ z => Heap.get?_push_of_some _ z
  exact (PySem.W.exm_tup3 (I.kIn.keeps kp) (LT.keeps kp) (Heap.get?_push_size s.heap rfl) he).here (q _ kp)
/-- a state of the def is one of its suite -/
theorem suiteI {a : Addr} {pn' : List (Addr × Obj)} (I : Inv X pins σ H s) (hp : pn' = X.pn ++ pins) : Inv (X.suite a pn') [] σ H s := by
  subst hp
  exact ⟨I.ok.suite _ _, I.os, I.bare, I.base, I.loc, I.cell, I.free, I.freeC, fun p hp => I.pin p (by rw [List.append_nil] at hp; exact hp), I.hok, I.len⟩
theorem unsuiteI {a : Addr} {pn'' : List (Addr × Obj)} (I : Inv (X.suite a (X.pn ++ pins)) pn'' σ H s) (ok : X.Ok) : Inv X pins σ H s :=
  ⟨ok, I.os, I.bare, I.base, I.loc, I.cell, I.free, I.freeC, fun p hp => I.pin p (List.mem_append_left _ hp), I.hok, I.len⟩
/-- the caught exception is tracked from now on -/
theorem track {a : Addr} {cls : Value} {d : Option Addr} {oe : Obj} {vs : Array Value} (I : Inv X pins σ H s) (hx : X.ex = []) (he : s.heap.get? a = some oe) (hz : Zc cls d oe) (hd : oe.data = .fields vs) (na : H a = none) (nL : a ≠ X.env.locals)
    (n0 : X.s_0.heap.get? a = none) (np : ∀ p ∈ X.pn ++ pins, p.1 ≠ a) : Inv X pins σ (upd H a (ExK cls d a)) s := by
  have ne0 : ∀ b o, X.s_0.heap.get? b = some o → b ≠ a := fun b o e z => by
    rw [z, n0] at e
    cases e
  have sm : ∀ b u, H b = some u → upd H a (ExK cls d a) b = some u := fun b u e => by rw [upd_ne (ne_of_none e na)]; exact e
  have nc : ∀ x c, X.env.cells.lookup x = some c → c ≠ a := fun x c e z => by
    obtain ⟨v, o, ho, hc⟩ := I.cell x c e
    rw [z, he] at ho
    cases ho
    rw [hd] at hc
    cases hc
  refine ⟨I.ok, I.os, I.bare, ⟨I.base.keep, I.base.slot, fun b o e n hq => ?_, I.base.there, fun b xs e => sm _ _ (I.base.tups b xs e), fun b o u e => sm _ _ (I.base.frzs b o u e), fun b ps e => ?_⟩, I.loc, I.cell, ?_, fun x c e => ?_, fun p hp => ?_, ?_, I.len⟩
  · rw [upd_ne (ne0 b o e)]
    exact I.base.free b o e n hq
  · obtain ⟨m, q⟩ := I.base.tbls b ps e
    exact ⟨m, sm _ _ q⟩
  · rw [upd_ne nL.symm]
    exact I.free
  · rw [upd_ne (nc x c e)]
    exact I.freeC x c e
  · obtain ⟨e, n, r⟩ := I.pin p hp
    exact ⟨e, by rw [upd_ne (np p hp)]; exact n, r⟩
  · exact HOk.laidN I.hok (fun _ _ z => z) na (exK_ok he hz hd)
end
/-- what the clause wishes of an exception of the body: slot i is the name's, the exception is tracked in the suite and behind it -/
def wKeep (X : Cx) (t : Expr) (i : Nat) (ts : Addr → Value → Option Addr → TS) (Wout : WX) (D : Ends) : WX := fun cls d σ H =>
  ∃ b, TestX X t cls b ∧ (b = true → ∀ a, H a = none → ts a cls d { nx := fun σ' H' => D.nx (σ'.set i none) H', rt := D.rt, bk := fun σ' H' => D.bk (σ'.set i none) H', ct := fun σ' H' => D.ct (σ'.set i none) H' } (σ.set i (some (.ref a))) (upd H a (ExK cls d a))) ∧
    (b = false → Wout cls d σ H)
section
variable {X : Cx} {n : Str} {i : Nat} {t : Expr} {body suite : List Stmt} {b₀ : Stmt} {pos pos' : Pos} {tb : WX → TS} {ts : Addr → Value → Option Addr → TS} {Wout : WX}
theorem ps_try_keep (hs : X.stack = X.env :: X.outer) (hf : X.env.frame = some X.env.locals) (hex : X.ex = []) (hN : X.N.Nodup) (hi : X.N[i]? = some n) (hln : X.env.kindOf n = some .local) (tk : Takes X Wout)
    (hb : ∀ (W : WX) (pn : List (Addr × Obj)) (xe : Value → Shared → Prop), Takes (X.tr pn xe) W → PassesOwn (model X.prog X.w) X.A X.env xe → PSs (X.tr pn xe) body (tb W))
    (hsu : ∀ (a : Addr) (cls : Value) (d : Option Addr) (pn : List (Addr × Obj)), PSs (X.suite a pn) (b₀ :: suite) (ts a cls d)) :
    PS X (.Try body [.ExceptHandler (some t) (some n) (b₀ :: suite) pos'] [] [] pos) (fun D σ H => tb (wKeep X t i ts Wout D) D σ H) := by
  refine ⟨fun pins s σ H D I h => ?_⟩
  have ok := I.ok
  have hfr : X.A.frames = some (X.env :: X.outer) := by rw [ok.frames, hs]
  have hloc : Loc X.env.scope n := .inl hln
  refine wpAny_Try_except ?_
  refine wpAny_mono ((hb (wKeep X t i ts Wout D) (X.pn ++ pins) (fun e s₁ => wpAny (model X.prog X.w) X.A (noteFrame e X.env) (fun _ s₂ => wpAny (model X.prog X.w) X.A (setFlight e none) (fun _ s₃ =>
    wpAny (model X.prog X.w) X.A (handleBy e X.env [.ExceptHandler (some t) (some n) (b₀ :: suite) pos']) (SP X pins D) X.xe s₃) X.xe s₂) X.xe s₁) (fun u s' xx => ?_) PassesOwn.looking).run [] s σ H D (I.toTry _) h) (fun f s1 hsp => ?_) (fun e s1 he => he)
  · obtain ⟨a, B, sI, pins', σ', H', cls, d, rfl, J', nb, up, sky, na, os, ag, b, hb1, hyes, hno⟩ := xx
    have J : Inv X pins σ' H' sI := J'.ofTry ok
    have sky' : Sky B (X.env :: X.outer) a (Zc cls d) X.env.locals s'.heap := by rw [← hs]; exact sky
    show wpAny (model X.prog X.w) X.A (noteFrame (.ref a) X.env) _ _ _
    refine Sky.land Zc.steady hfr hf sky' fun h3 fl3 up3 => ?_
    have J3 : Inv X pins σ' H' { s' with heap := h3 } := J.landed nb fl3.1 (up.trans up3) os ag
    obtain ⟨oe3, vs3, he3, hz3, hd3⟩ := fl3.there
    have notFr : ∀ {h : Heap} {o : Obj} {vs : Array Value}, h.FunFrames B (X.env :: X.outer) → h.get? a = some o → o.data = .fields vs → a ∉ frs (X.env :: X.outer) := fun {h o vs} ff e dd hm => by
      obtain ⟨_, o', e', hnf⟩ := ff.mem hm
      rw [e] at e'; cases e'
      exact hnf _ dd
    have nfr := notFr fl3.2.2.1 he3 hd3
    have nL : a ≠ X.env.locals := fun z => nfr (List.mem_filterMap.mpr ⟨X.env, List.mem_cons_self, by rw [hf, z]⟩)
    have nS : a ∉ frs X.stack := by rw [hs]; exact nfr
    have nI : sI.heap.get? a = none := by
      cases z : sI.heap.get? a with
      | none => rfl
      | some o =>
        have q := nb a o z nS
        rw [fl3.2.1] at q
        cases q
    have n0 : X.s_0.heap.get? a = none := by
      cases z : X.s_0.heap.get? a with
      | none => rfl
      | some o =>
        obtain ⟨o', q⟩ := J.base.there a o z (by rw [hex]; exact fun z => nomatch z)
        rw [nI] at q
        cases q
    have np : ∀ p ∈ X.pn ++ pins, p.1 ≠ a := fun p hp z => by
      have q := (J.pin p hp).1
      rw [z, nI] at q
      cases q
    refine wpAny_handleBy_cons (codeAny_handlers_test ?_) (by intro q; cases q)
    have LT : Looks (model X.prog X.w) h3 (typeOf (.ref a)) cls := fun A Q E s k q => wpAny_typeOf_ref (k _ _ he3) (by rw [hz3.1]; exact q)
    refine hb1 a (X.pn ++ pins) σ' H' { s' with heap := h3 } _ _ (suiteI J3 rfl) LT fun h5 k5 => ?_
    have fl5 := flyK fl3 k5
    have up5 : s'.heap.UpToSlots h5 := up3.trans (Heap.UpToSlots.of_keeps k5)
    cases b with
    | true =>
      refine codeAny_handlers_suite_as ?_
      refine HandSPX.lands_againZ fl5 fun h4 fl4 up4 => ?_
      have J4 : Inv X pins σ' H' { s' with heap := h4 } := J.landed nb fl4.1 ((up.trans up5).trans up4) os ag
      obtain ⟨oe4, vs4, he4, hz4, hd4⟩ := fl4.there
      have J5 := track J4 hex he4 hz4 hd4 na nL n0 np
      refine store_ok (X := X.suite a (X.pn ++ pins)) (v := .ref a) (suiteI J5 rfl) hN hi hloc rfl (fun s5 S5 => ?_) (.inr hln)
      refine wpAny_mono ((hsu a cls d (X.pn ++ pins)).run [] s5 _ _ _ S5 (hyes rfl a na)) (fun f s6 hsp => ?_) (fun _ _ z => False.elim z)
      have end_ : ∀ {σ6 : L2.St} {H6 : Hp} {Q : Shared → Prop}, Inv (X.suite a (X.pn ++ pins)) [] σ6 H6 s6 → (∀ s7, Inv X pins (σ6.set i none) H6 s7 → Q s7) →
          wpAny (model X.prog X.w) X.A (do bindName X.env n .none; unbindBehindTheSuite X.env n pos') (fun _ s7 => Q s7) X.xe s6 := fun {σ6 H6 Q} S6 hq => gone_ok (unsuiteI S6 ok) hN hi hln hq
      cases f with
      | next =>
        obtain ⟨σ6, H6, S6, q6⟩ := hsp
        exact end_ S6 fun s7 J7 => ⟨_, _, J7, q6⟩
      | brk =>
        obtain ⟨σ6, H6, S6, q6⟩ := hsp
        exact end_ S6 fun s7 J7 => ⟨_, _, J7, q6⟩
      | cont =>
        obtain ⟨σ6, H6, S6, q6⟩ := hsp
        exact end_ S6 fun s7 J7 => ⟨_, _, J7, q6⟩
      | ret u =>
        obtain ⟨v6, σ6, H6, S6, r6, q6⟩ := hsp
        exact end_ S6 fun s7 J7 => ⟨_, _, _, J7, r6, q6⟩
    | false =>
      show wpAny _ X.A (handleBy (.ref a) X.env []) _ _ _
      refine wpAny_handleBy_nil ?_
      obtain ⟨k1, k2, k3, oe, vs, T, oT, ts', he, hz, hd, h1, hr⟩ := id fl5
      unfold PySem.passOn
      refine wpAny_bind (wpAny_field he hd h1 ?_)
      rw [if_neg (show ¬ ((Value.ref T == Value.none) = true) from by simp)]
      have fin : wpAny (model X.prog X.w) X.A (setFlight (.ref a) X.env.frame) (fun _ s4 => wpAny (model X.prog X.w) X.A (throw (.ref a) : Sem Flow) (SP X pins D) X.xe s4) X.xe { s' with heap := h5 } := by
        rw [hf]
        refine HandSPX.setFlight_upZ fl5 fun h4 hh4 up4 => wpAny_throw (tk _ _ ?_)
        exact ⟨a, B, sI, pins, σ', H', cls, d, rfl, J, nb, (up.trans up5).trans up4, .inr (.inr (by rw [hs]; exact hh4)), na, os, ag, hno rfl⟩
      first
        | exact wpAny_bind (wpAny_pure (wpAny_bind fin))
        | exact wpAny_bind fin
  · cases f with
    | next =>
      obtain ⟨σ', H', J', q⟩ := hsp
      exact wpAny_execs_nil ⟨σ', H', J'.ofTry ok, q⟩
    | brk =>
      obtain ⟨σ', H', J', q⟩ := hsp
      exact ⟨σ', H', J'.ofTry ok, q⟩
    | cont =>
      obtain ⟨σ', H', J', q⟩ := hsp
      exact ⟨σ', H', J'.ofTry ok, q⟩
    | ret u =>
      obtain ⟨v, σ', H', J', r, q⟩ := hsp
      exact ⟨v, σ', H', J'.ofTry ok, r, q⟩
end
end ExT

/-! a caught exception that stays: its fields, isinstance -/
namespace PySem.W
open PySem PySem.Spec PySem.Calls PyProof.Rows
section
variable {prog : Program} {w : World} {A : Around} {E : Value → Shared → Prop} {s : Shared} {K : Frag} {x D : Addr} {ox : Obj} {od : Option Obj}
theorem findObj_dataX {C : Addr} {name : Str} {a g : Value} (hc : (clsIn K C).isSome = true) (ha : findIn K (.ref C) name = some (some a)) (hg : specialIn K a "__get__" = some (some g)) (ht : takesIn K a = some true) : findObj K C od name = some (.bind g a) := by
  obtain ⟨cd, hc⟩ := Option.isSome_iff_exists.mp hc
  unfold findObj
  rw [hc, Option.bind_some, ha, Option.bind_some]
  simp [hg, ht]
theorem kin_classX {Q : Option Value → Shared → Prop} (hga : findIn K (.ref D) "__getattribute__" = some (some (.builtin "BaseException.__getattribute__"))) (hgt : findIn K (.ref D) "__getattr__" = some none) (hsub : subIn K (.ref D) (.type "BaseException") = some true)
    (hdct : hasDictIn K D = true) (ha : findIn K (.ref D) "__class__" = some (some (.builtin "object.__class__")))
    (hn : specialIn K (.builtin "object.__class__") "__get__" = some (some (.builtin "getset_descriptor.__get__"))) (htk : takesIn K (.builtin "object.__class__") = some true) (hm : mroIn K D (.type "object") = some true)
    (X : K.In s.heap) (I : InstAt s.heap x ox D od) (h : Q (some (.ref D)) { s with toks := s.toks + 1 }) : wpAny (model prog w) A (getAttr? (.ref x) "__class__") Q E s := by
  have hf : findObj K D od "__class__" = some (.bind (.builtin "getset_descriptor.__get__") (.builtin "object.__class__")) := findObj_dataX (by obtain ⟨cd, hc, _⟩ := any_some hdct; rw [hc]; rfl) ha hn htk
  obtain ⟨hp, g, d, t, os⟩ := s
  have L0 := I.type (M := model prog w)
  have L1 := looks_findIn (M := model prog w) X hga
  have L2 := looks_findIn (M := model prog w) X hgt
  have L3 := looks_find (M := model prog w) X I hf
  have sub : Looks (model prog w) hp (isInstance (.ref x) (.type "BaseException")) true := L0.andThen (looks_subIn X hsub)
  have hx0 : (false && onTheHeap (Value.builtin "BaseException.__getattribute__")) = false := rfl
  have hx2 : (Value.builtin "BaseException.__getattribute__" == Value.builtin "object.__getattribute__") = false := by decide +kernel
  have hx1 : (onTheHeap (Value.ref D) && Value.builtin "BaseException.__getattribute__" == Value.builtin "object.__getattribute__") = false := by rw [hx2]; rfl
  unfold getAttr? getAttrBy? getAttrBy
  refine wpAny_bind (wpAny_mkText (wpAny_bind (wpAny_attempt (wpAny_holding (wpAny_bind (L0.at (wpAny_bind (L1.at ?_))))))))
  show wpAny _ _ (if (onTheHeap (Value.ref D) && Value.builtin "BaseException.__getattribute__" == Value.builtin "object.__getattribute__") = true then _ else _) _ _ _
  rw [hx1, if_neg Bool.false_ne_true]
  unfold getAttrByItsOwn hookBefore
  refine wpAny_bind ?_
  rw [if_pos (show onTheHeap (Value.ref D) = true from rfl)]
  refine L2.at ?_
  refine wpAny_bind (wpAny_attempt (wpAny_holding ?_))
  unfold callGetattribute
  rw [hx0, if_neg Bool.false_ne_true]
  unfold boundAndCalled
  rw [PySem.F.excAttr_ValueError.ga.bind (.ref x)]
  refine wpAny_bind (wpAny_pure ?_)
  show wpAny _ _ (call (.builtin "BaseException.__getattribute__") [.ref x, .str "__class__" t]) _ _ _
  refine wpAny_call (codeAny_call_builtin PySem.F.excAttr_ValueError.ga.plain PySem.F.entry_bexc_ga ?_)
  refine @check_slot (model prog w) _ _ ⟨hp, g, d, t + 1, os⟩ "BaseException.__getattribute__" "BaseException" "__getattribute__" (.ref x) [.str "__class__" t] [] _ (by decide +kernel) (by decide +kernel) sub (PySem.F.args_bexc_ga (.ref x) (.str "__class__" t)) ?_
  unfold Builtin.«object.__getattribute__»
  refine wpAny_bind (wpAny_of_eq (a := ((Value.ref x : Value), [Value.str "__class__" t])) (by first | rfl | (simp only [slotArgs]; rfl)) ?_)
  refine wpAny_bind (wpAny_pure (wpAny_bind (L0.at (wpAny_bind (L3.at ?_)))))
  show wpAny _ _ (holding [Value.builtin "object.__class__"] (call (.builtin "getset_descriptor.__get__") [.builtin "object.__class__", .ref x, .ref D]) >>= ret) _ _ _
  refine wpAny_bind (wpAny_holding (wpAny_call (class_get (s := ⟨hp, g, d, t + 1, os⟩) (ox := ox) (od := od) X I hm ?_)))
  refine wpAny_pure ?_
  show wpAny _ _ (handedOut (.ref D)) _ _ _
  rw [handedOut_of (v := .ref D) rfl]
  first
    | exact wpAny_pure (wpAny_pure h)
    | exact wpAny_pure h
    | exact wpAny_pure (wpAny_bind (wpAny_pure (wpAny_pure h)))
theorem kitx_excX (hga : findIn K (.ref D) "__getattribute__" = some (some (.builtin "BaseException.__getattribute__"))) (hgt : findIn K (.ref D) "__getattr__" = some none) (hsub : subIn K (.ref D) (.type "BaseException") = some true) (hdct : hasDictIn K D = true) (ha : findIn K (.ref D) "__class__" = some (some (.builtin "object.__class__")))
    (hn : specialIn K (.builtin "object.__class__") "__get__" = some (some (.builtin "getset_descriptor.__get__"))) (htk : takesIn K (.builtin "object.__class__") = some true) (hm : mroIn K D (.type "object") = some true) :
    KitX K (.ref x) (.ref D) (fun h => ∃ od, InstAt h x ox D od) where
  ty := fun _ _ _ ⟨_, I⟩ => I.type
  it := fun _ _ X _ => by
    obtain ⟨cdD, hcD, _⟩ := any_some hdct
    unfold clsIn at hcD
    split at hcD
    · rename_i c' d' cd' sl' ho
      intro A' Q' E' s' k q
      unfold isType loadHead
      exact wpAny_bind (wpAny_loadPart (k _ _ (X _ _ ho)) (wpAny_pure q))
    · cases hcD
  ne := fun h tp dd its n sl X htp => by
    obtain ⟨cdD, hcD, _⟩ := any_some hdct
    refine Bool.eq_false_iff.mpr fun q => ?_
    have e : D = tp := Value.ref.inj (beq_iff_eq.mp q)
    subst e
    unfold clsIn at hcD
    split at hcD
    · rename_i c' d' cd' sl' ho
      have z := (X _ _ ho).symm.trans htp
      cases z
    · cases hcD
  ca := fun X ⟨_, I⟩ k => kin_classX hga hgt hsub hdct ha hn htk hm X I k
end
end PySem.W
namespace ExT
open PySem PySem.Spec PyProof.Rows L2
/-- the exception of the class C stands at a, its fields in fs -/
def ExF (H : Hp) (a C : Addr) (fs : List (Str × V)) : Prop := ∃ dd, H a = some (ExK (.ref C) (some dd) a) ∧ H dd = some (.xd fs)
/-- isinstance(x, c): x a value of the usual kinds, or a caught exception -/
def rIsX (K : PySem.W.Frag) : List V → Hp → VK → Prop := fun xs H Q => rIsi K xs H Q ∨ ∃ (a D : Addr) (fs : List (Str × V)) (c : V) (u : Value) (b : Bool), xs = [.ref a, c] ∧ ClsV c u ∧ ExF H a D fs ∧ ExcC K D ∧ PySem.W.kitOne K (.ref D) u = some b ∧ Q (.bl b) H
section
variable {X : Cx}
theorem inst_of {pins : List (Addr × Obj)} {σ : L2.St} {H : Hp} {s : Shared} {a C : Addr} {fs : List (Str × V)} (I : Inv X pins σ H s) (h : ExF H a C fs) : ∃ (oe od : Obj) (mA : Str → Option Value), PySem.W.InstAt s.heap a oe C (some od) ∧ (∀ n, PySem.W.lookIn n od = some (mA n)) ∧ ∀ n, RelO (fs.lookup n) (mA n) := by
  obtain ⟨dd, ha, hd⟩ := h
  obtain ⟨⟨oe, vs, e1, z, e2⟩, _, _⟩ := I.hok a _ ha
  obtain ⟨mA, hns, hr⟩ := (show ObjOk X.prog X.w H s.heap dd (.xd fs) from I.hok dd _ hd)
  obtain ⟨od, ho, hl⟩ := lookIn_ns hns
  exact ⟨oe, od, mA, ⟨e1, z.1, by unfold PySem.W.notCls; rw [e2] <;> rfl, by rw [z.2]; exact ho⟩, hl, hr⟩
theorem call_isX : CallR X (.builtin "isinstance") (rIsX X.K) := by
  intro pins s σ H xs us Q I r h
  rcases h with h | ⟨a, D, fs, c, u, b, rfl, k, hx, C, e, q⟩
  · exact call_isi pins s σ H xs us Q I r h
  · obtain ⟨u1, u2, rfl, r1, r2⟩ := vals2 r
    have e2 := k.eq r2
    subst e2
    cases (show u1 = Value.ref a from r1)
    obtain ⟨oe, od, mA, J, _, _⟩ := inst_of I hx
    exact PySem.W.kia_one (PySem.W.kitx_excX C.hg C.hk C.hs C.hd C.ha C.hn C.ht C.hm) I.kIn ⟨_, J⟩ e (fun z => nomatch z) fun tk => ⟨.bl b, H, I.tok tk, rfl, q⟩
/-- e.f, e a caught exception -/
def tXfK (K : PySem.W.Frag) (f : Str) (te : TE) : TE := fun σ H Q => te σ H fun x H1 => ∃ (a C : Addr) (fs : List (Str × V)) (v : V), x = .ref a ∧ ExF H1 a C fs ∧ XfC K C ∧ PySem.W.findIn K (.ref C) f = some none ∧ fs.lookup f = some v ∧ Q v H1
theorem pe_xfK {e : Expr} {te : TE} {pos : Pos} {n : Str} (he : PE X e te) (hb : attributeBase e n X.env (eval e X.env) = eval e X.env := by rfl) : PE X (.Attribute e n pos) (tXfK X.K n te) := by
  refine ⟨fun pins s σ H Q I h => ?_⟩
  refine attr_of hb (thn (he.run pins s σ H _ I h) fun u s1 hh => ?_)
  obtain ⟨x, H1, I1, rx, a, C, fs, v, ex, hx, T, hno, l, q⟩ := hh
  subst ex
  obtain rfl : u = Value.ref a := rx
  obtain ⟨oe, od, mA, J, hl, hr⟩ := inst_of I1 hx
  obtain ⟨u, hu, ru⟩ := RelO.some_of (v := v) (o := mA n) (by rw [← l]; exact hr n)
  exact PySem.HandSPX.exc_get I1.kIn J T.ga T.gg T.exC (PySem.W.findObj_own T.hdC hno rfl (by rw [hl, hu])) (handed_of ru) ⟨v, H1, I1.tok _, ru, q⟩
end
end ExT

/-! an own exception's __init__ that begins with super().__init__('text') -/
namespace SupX
open PySem PySem.Spec PyProof.Rows L2 LamX NdefX
open PySem.W (Looks)
/-- what the written part says of the classes: C the object's, D the def's own -/
structure SupC (K : PySem.W.Frag) (C D : Addr) : Prop where
  ox : OexC K C
  sub : PySem.W.mroIn K C (.ref D) = some true
  sup : PySem.W.ks_superIn K C D "__init__" = some (some (.builtin "ValueError.__init__"))
  ve : PySem.W.subIn K (.ref C) (.type "ValueError") = some true
/-- super() in the def at f: its cell at cc, its class D -/
structure SupF (P : Program) (K : PySem.W.Frag) (mg : Str → Option Value) (f c cc D : Addr) (sc : Scope) (N ps : List Str) : Prop where
  S : NScope N ps ["__class__"] sc
  code : ∃ ccl cdd vs ccs file tf, K.lookup c = some ⟨ccl, cdd, .fields vs, ccs⟩ ∧ vs[2]? = some (.str file tf) ∧ ((P.main.file : Str) == file) = true
  cell : ∃ cl cld csl, K.lookup cc = some ⟨cl, cld, .cell (some (.ref D)), csl⟩
  cls : ∃ cdD, PySem.W.clsIn K D = some cdD
  sup : mg "super" = none
  ks : sc.names.lookup ("super" : Str) = some .globalImplicit
  top : (P.main.scope.names.lookup ("super" : Str)).isSome = false
  opq : PySem.W.nsIn K cStatics "thirdparty.any" = some none
/-- the words of such a def, for its body's context -/
def nfS (name qual : Str) (sc : Scope) (c cc : Addr) : NF := ⟨name, qual, C8.fnArgs (.Pass default), [], sc, [("__class__", cc)], c⟩
section
variable {P : Program} {w : World} {K : PySem.W.Frag} {mg : Str → Option Value} {base : Heap} {CX : CXT} {k : Nat} {N ps : List Str} {f c cc D : Addr} {name qual : Str} {params : Arguments} {rest : List Stmt} {sc : Scope} {dV kV doc pm ct oc : Value} {an od : Option Addr} {osl : Array (Option Value)} {sp : Sp} {msg p0n : Str} {j : Nat} {p0 p1 p2 p3 p4 p5 : Pos}
theorem fn_super (F : SupF P K mg f c cc D sc N ps) (nt : (K.lookup f).isSome)
    (lk : K.lookup f = some ⟨oc, od, .func (PySem.W.fnX name qual params (.Expr (.Call (.Attribute (.Call (.Name "super" p0) [] [] p1) "__init__" p2) [.Constant (.str msg) j p3] [] p4) p5 :: rest) sc [("__class__", cc)] dV kV doc pm an (.ref c) ct), osl⟩)
    (hcd : PySem.W.codeIn K (.ref c) qual = true) (ar : Arg) (hp : (params.posonlyargs ++ params.args).head? = some ar) (har : ps[0]? = some ar.arg)
    (len : ∀ vs H Q E, sp vs H Q E → vs.length = ps.length)
    (pl : Sem Bool) (hi : ∀ L, interactive (envF (nfS name qual sc c cc) f L) = false) (hsw : ∀ L, swapsWith (.Call (.Attribute (.Call (.Name "super" p0) [] [] p1) "__init__" p2) [.Constant (.str msg) j p3] [] p4) none p5.line (envF (nfS name qual sc c cc) f L) = pure false)
    (he : ∀ L, eval (.Call (.Attribute (.Call (.Name "super" p0) [] [] p1) "__init__" p2) [.Constant (.str msg) j p3] [] p4) (envF (nfS name qual sc c cc) f L) = (do
      let ov ← attributeBase (.Call (.Name "super" p0) [] [] p1) "__init__" (envF (nfS name qual sc c cc) f L) (eval (.Call (.Name "super" p0) [] [] p1) (envF (nfS name qual sc c cc) f L))
      standAt p2.atName
      let (f', first) ← holding [ov] (getMethod ov "__init__" pl)
      callWith p4 f' first (backTo p4 (starEach [.Constant (.str msg) j p3] (envF (nfS name qual sc c cc) f L))) []))
    (hb : ∀ (A : Around) (outer : List Env) (s : Shared) (H : Hp) (vs : List V) (Q : VK) (E : XK), Room k (A.deeper (envF (nfS name qual sc c cc) f s.heap.objs.size)) → sp vs H Q E → ∃ (a C : Addr) (vs' : List V), vs = .ref a :: vs' ∧ SupC K C D ∧ H a = some (exo a C none) ∧
      ∃ t, PSs (ncx CX P w K mg base N (nfS name qual sc c cc) f A outer s H E) rest t ∧ t { nx := fun _ H' => Q .non H', rt := Q } (startF N vs [none]) H) :
    FnOk P w K mg base CX (k + 1) f (PySem.W.fnX name qual params (.Expr (.Call (.Attribute (.Call (.Name "super" p0) [] [] p1) "__init__" p2) [.Constant (.str msg) j p3] [] p4) p5 :: rest) sc [("__class__", cc)] dV kV doc pm an (.ref c) ct) ps sp where
  len := len
  run := fun A outer s H args us vs Q E hr e0 hbd r h => by
    have KX : K.In s.heap := e0.mod.kin.keeps fun b o e => (e0.bs b o e).1
    have KB : ∀ b o, K.lookup b = some o → H b = none := fun b o e => (e0.bs b o (e0.mod.kin b o e)).2
    have lim : s.heap.NoLimit := e0.mod.nolimit.keeps fun b o e => (e0.bs b o e).1
    have hl := len _ _ _ _ h
    obtain ⟨a, C, vs', rfl, SC, ea, t, ht, hq⟩ := hb A outer s H vs Q E (hr.deeper _) h
    obtain ⟨cl, cld, csl, hcell⟩ := F.cell
    obtain ⟨cdD, hD⟩ := F.cls
    obtain ⟨ccl, cdd, cvs, ccs, file, tf, hcode, hvs, hfile⟩ := F.code
    have CA : CellsAt (nfS name qual sc c cc).cl ["__class__"] [none] s.heap H := by
      have one : ∀ y c', (nfS name qual sc c cc).cl.lookup y = some c' → y = "__class__" ∧ c' = cc := fun y c' e => by
        have e' : [(("__class__" : Str), cc)].lookup y = some c' := e
        simp only [List.lookup] at e'
        split at e'
        · rename_i q
          exact ⟨beq_iff_eq.mp q, (Option.some.inj e').symm⟩
        · cases e'
      refine ⟨rfl, fun y c' e => ?_, fun x y c' e1 e2 => (one x c' e1).1.trans (one y c' e2).1.symm, fun i y e => ?_⟩
      · rw [(one y c' e).2]
        exact ⟨KB _ _ hcell, _, _, KX _ _ hcell, rfl⟩
      · cases i with
        | zero =>
          obtain rfl : "__class__" = y := Option.some.inj e
          refine ⟨cc, rfl, fun v e2 => ?_⟩
          cases e2
        | succ i => cases e
    refine PySem.ks_codeAny_call_defAt (fd := PySem.W.fnX name qual params (.Expr (.Call (.Attribute (.Call (.Name "super" p0) [] [] p1) "__init__" p2) [.Constant (.str msg) j p3] [] p4) p5 :: rest) sc [("__class__", cc)] dV kV doc pm an (.ref c) ct) hr.depth (KX _ _ lk) rfl lim (PySem.W.codeRec_of KX hcd) rfl hbd F.S.nocell (fun y hy => F.S.par _ (List.of_mem_zip hy).1) (fun h₁ hns kp => ?_) F.S.co F.S.gen F.S.kind
    have I : Inv (ncx CX P w K mg base N (nfS name qual sc c cc) f A outer s H E) [] (startF N (.ref a :: vs') [none]) H { s with heap := h₁, toks := s.toks + (ps.zip us).length } := inv_startN F.S hr.hd e0 hl r CA hns kp
    have X1 : K.In h₁ := KX.keeps kp
    obtain ⟨t1, hoa⟩ := exo_at I.hok ea
    have IA : PySem.W.InstAt h₁ a ({ cls := .ref C, dict := none, data := .fields #[.ref t1, .none, .none, .none, .bool false, .none] } : Obj) C none := ⟨hoa, rfl, rfl, trivial⟩
    obtain ⟨oD, hD1, hD2⟩ : ∃ oD, h₁.get? D = some oD ∧ oD.data = .cls cdD := by
      unfold PySem.W.clsIn at hD
      split at hD
      · rename_i c d cd' sl ho
        cases hD
        exact ⟨_, X1 _ _ ho, rfl⟩
      · cases hD
    have hus : us[0]? = some (.ref a) := by
      cases r with
      | cons rx _ => cases rx; rfl
    have ndP : ps.Nodup := by
      have q := F.S.nd.sublist (List.take_sublist (ps.length + 1) N)
      rw [show N.take (ps.length + 1) = ps ++ [("__class__" : Str)] from F.S.pre] at q
      exact (List.nodup_append.mp q).1
    have hself := zip_look ndP har hus
    obtain ⟨mb, hb1, hb2⟩ := e0.mod.blt
    have keepB : ∀ b o, base.get? b = some o → h₁.get? b = some o := fun b o e => kp b o (e0.bs b o e).1
    refine PySem.ks_wpAt_execs_cons (PySem.ks_wpAt_Expr_any (PySem.ks_wpAt_MethodCall (pl := pl) ?_ (he _)) (hi _) (hsw _))
    refine PySem.ks_wpAt_super_base F.ks (F.S.frk _ List.mem_cons_self) (by decide) rfl (kp _ _ (KX _ _ lk)) rfl hp rfl (kp _ _ (KX _ _ hcode)) rfl hvs hfile F.top ?_
    refine PySem.W.ks_loadName_global F.S.kind F.ks (Calls.loadGlobal_builtin (e0.mod.glob.keeps keepB) F.sup (hb1.keeps keepB) ((hb2 _ (by decide)).trans (by decide +kernel)) ⟨rfl, ?_⟩)
    refine wpAny_loadName_free F.S.kind (F.S.frk _ List.mem_cons_self) rfl ⟨_, kp _ _ (KX _ _ hcell), rfl⟩ ?_
    refine wpAny_loadName_local F.S.kind (F.S.par _ (List.mem_of_getElem? har)) hns hself ?_
    refine PySem.ks_wpAny_isType_cls hD1 hD2 ⟨rfl, ?_⟩
    refine PySem.ks_wpAny_call_super hD1 hD2 hoa rfl (fun c' e => by cases e) (PySem.W.looks_mroIn X1 SC.sub) (fun h2 hso k2 => ?_)
    have X2 : K.In h2 := X1.keeps k2
    have IA2 : PySem.W.InstAt h2 a ({ cls := .ref C, dict := none, data := .fields #[.ref t1, .none, .none, .none, .bool false, .none] } : Obj) C none := ⟨k2 _ _ hoa, rfl, rfl, trivial⟩
    obtain ⟨nm, qn, N', bs, bm, sn, sub, ab, col, dd, k0, k1', k2', k3', k5, hC, hbm⟩ := SC.ox.cls
    have hcl : PySem.W.clsIn K C = some { name := nm, bases := bs, mro := .ref C :: bm, ns := N', qualname := qn, hasDict := true, slotNames := sn, subclasses := sub, abstract := ab, collection := col, hasDel := false } := by unfold PySem.W.clsIn; rw [hC] <;> rfl
    have hm := SC.sup
    unfold PySem.W.ks_superIn at hm
    rw [hcl] at hm
    have hI : Looks (model P w) h2 (isInstance (.ref a) (.type "ValueError")) true := IA2.type.andThen (PySem.W.looks_subIn X2 SC.ve)
    refine PySem.W.kxs_getMethod PySem.W.kxs_ValueError hso (PySem.W.looks_opaque X2 F.opq) (l₀ := .ref C :: bm) (fun A Q E s k q => wpAny_bind ((PySem.W.looks_clsIn X2 hcl) A _ E s k (wpAny_pure q))) rfl X2 hm hI (PySem.W.ks_ne X2 IA2 hcl) (by decide) ?_
    have I3 : Inv (ncx CX P w K mg base N (nfS name qual sc c cc) f A outer s H E) [] (startF N (.ref a :: vs') [none]) H ⟨h2.push (PySem.W.kxs_mw "ValueError.__init__" a), s.gens, s.drawn, s.toks + (ps.zip us).length + 1, s.os⟩ :=
      I.kept (t' := s.toks + (ps.zip us).length + 1) fun b o e => Heap.get?_push_of_some _ (k2 _ _ e)
    have hu3 : (h2.push (PySem.W.kxs_mw "ValueError.__init__" a)).get? h2.objs.size = some (PySem.W.kxs_mw "ValueError.__init__" a) := Heap.get?_push_size _ rfl
    refine PySem.W.kxs_callWith (i := "ValueError.__init__") (x := a) rfl (Calls.evalArgs_plain ?_)
    refine wpAny_items_cons (Calls.Constant_str ?_)
    refine wpAny_items_nil ⟨hu3, ?_⟩
    refine wpAny_call (codeAny_of_tree ?_)
    show wpAny _ _ (callAny (.ref h2.objs.size) ⟨[_], []⟩) _ _ _
    simp only [callAny]
    refine wpAny_bind (wpAny_load hu3 ?_)
    simp only [PySem.W.kxs_mw, show (Value.type "method-wrapper" == Value.type "method" || Value.type "method-wrapper" == Value.type "builtin_function_or_method" || Value.type "method-wrapper" == Value.type "method-wrapper") = true by decide, if_true]
    refine PySem.W.KFB.if_so (by decide) ?_
    have hC3 := I3.kIn _ _ hC
    have ha3 : (h2.push (PySem.W.kxs_mw "ValueError.__init__" a)).get? a = some ({ cls := .ref C, dict := none, data := .fields #[.ref t1, .none, .none, .none, .bool false, .none] } : Obj) := Heap.get?_push_of_some _ (k2 _ _ hoa)
    refine wpAny_bind (PySem.W.check_bound_init PySem.F.excBase_ValueError.toExcCallFacts hC3 ha3 rfl ?_)
    refine wpAny_bind (wpAny_pure (wpAny_pure ?_))
    refine ⟨plainId_quiet PySem.F.excBase_ValueError.init.plain _, ?_⟩
    refine codeAny_builtin PySem.F.excBase_ValueError.initEntry ?_
    refine PySem.W.exc_init_tree (cls := .ref C) (t0 := t1) (dv := none) (c2 := .none) (c3 := .none) (b4 := .bool false) ha3 (by show 1 ≤ sizeLine; decide) (fun h4 k4 ha4 _ => ?_)
    have J0 := I3.write (t' := s.toks + (ps.zip us).length + 1 + 1) (x := a) (e := a) (o := exo a C none) (by rw [ea]; exact True.intro) (.inl rfl) k4 ⟨_, ha4⟩ (exo_ok ha4)
    have eu : upd H a (exo a C none) = H := by
      funext b
      by_cases hb : b = a
      · rw [hb, upd_same, ea]
      · rw [upd_ne hb]
    rw [eu] at J0
    have fin : ∀ {σ' : L2.St} {H' : Hp} {v : V} {u : Value} {s' : Shared}, Inv (ncx CX P w K mg base N (nfS name qual sc c cc) f A outer s H E) [] σ' H' s' → L2.RelV v u → Q v H' → CE outer P w H s Q u s' :=
      fun {σ' H' v u s'} J rv q => ⟨v, H', J.os, J.bare, J.base, J.hok, rv, q⟩
    refine wpAt_of_wpAny (wpAny_mono (ht.run [] _ _ H _ J0 hq) (fun fl s' hs => ?_) fun _ _ x => x)
    cases fl with
    | ret u =>
      obtain ⟨v, σ', H', J, rv, q⟩ := hs
      exact fin J rv q
    | next =>
      obtain ⟨σ', H', J, q⟩ := hs
      exact fin (v := V.non) (u := Value.none) J rfl q
    | brk =>
      obtain ⟨_, _, _, q⟩ := hs
      exact False.elim q
    | cont =>
      obtain ⟨_, _, _, q⟩ := hs
      exact False.elim q
end
end SupX

/-! a lambda handed to a def that calls it within a try and keeps what it caught -/
namespace LamS2
open PySem PySem.Spec PyProof.Rows L2 LamX
section
variable {X : Cx} {pins : List (Addr × Obj)} {σ : L2.St} {H HZ : Hp} {s s1 : Shared}
/-- x(), in the def that got the lambda; what it lets out is wished at the very slots -/
theorem pe_actS {CXg : CXT} {Eg : XK} {Ng : List Str} {qg : Str} {sg : Scope} {g f c' : Addr} {cdg pm ctv : Value} {params : Arguments} {body : Expr} {scope : Scope} {k i : Nat} {a : Str} {pn : List (Addr × Obj)} {xe : Value → Shared → Prop} {W : WX} {tb : XK → TE} {p1 p2 : Pos}
    (I : Inv X pins σ H s) (L : LamS X.env.scope scope) (hf : s.heap.get? f = some (PySem.W.kla_obj "<lambda>" (X.env.qual ++ "<lambda>") params body scope (cloFrom X.env.cells scope.names []) pm c' ctv)) (hfn : H f = none) (hfr : f ∉ frs X.stack)
    (hbind : bindArgs (PySem.W.kla_fn "<lambda>" (X.env.qual ++ "<lambda>") params body scope (cloFrom X.env.cells scope.names []) pm (.ref c') ctv) ⟨[], []⟩ = pure [])
    (tk : Takes ((cxOf CXg X.prog X.w X.K X.mg X.base Ng qg sg g cdg X.A X.stack s H Eg).tr pn xe) W) (hr : Room (k + 1) (X.A.deeper (envOfC qg sg s.heap.objs.size g cdg)))
    (hbody : ∀ (A : Around) (outer : List Env) (s : Shared) (H : Hp) (E : XK), Room k (A.deeper (lamEnv X scope s.heap.objs.size f c')) → PE (lamCx X A outer s H E scope f c') body (tb E))
    (hN : Ng[i]? = some a) (hv : Vis sg a) (hd : (a == ("__debug__" : Str)) = false := by decide) (hcd : (a == ("__classdict__" : Str)) = false := by decide) :
    PE ((cxOf CXg X.prog X.w X.K X.mg X.base Ng qg sg g cdg X.A X.stack s H Eg).tr pn xe) (.Call (.Name a p1) [] [] p2)
      (fun σZ HZ Q => σZ[i]? = some (some (.ref f)) ∧ HZ c' = some (CodeO c' (X.env.qual ++ "<lambda>")) ∧ tb (WE W σZ) σ HZ Q) := by
  refine ⟨fun pinsZ sZ σZ HZ Q IZ h => ?_⟩
  obtain ⟨hs, hc, ht⟩ := h
  refine wpAny_Call_Name_kw (thn ((pe_var (pos := p1) (i := i) hN hv hd hcd).run pinsZ sZ σZ HZ (fun v H1 => v = .ref f ∧ H1 = HZ) IZ ⟨.ref f, hs, rfl, rfl⟩) fun u s1 ⟨v, H1, I1, r1, q1⟩ => ?_)
  obtain ⟨ev, eH⟩ := q1
  subst ev
  rw [eH] at I1
  obtain rfl : u = Value.ref f := r1
  have of1 : s1.heap.get? f = some (PySem.W.kla_obj "<lambda>" (X.env.qual ++ "<lambda>") params body scope (cloFrom X.env.cells scope.names []) pm c' ctv) := I1.base.keep f _ hf hfn hfr (fun z => nomatch (show f ∈ ([] : List Addr) from z))
  refine PySem.W.callWith_F0 ⟨_, _, _, _, of1⟩ ?_
  have un : Un (frs X.stack) [] H HZ s.heap s1.heap := I1.base
  obtain ⟨⟨oc, vs, t, hoc, hdc, hvc⟩, _, _⟩ := I1.hok c' _ hc
  have rc : codeAny (model X.prog X.w) (X.A.deeper (envOfC qg sg s.heap.objs.size g cdg)) (.call (.ref f) ⟨[], []⟩) (CR (L2.CX X.prog X.w) (envOfC qg sg s.heap.objs.size g cdg :: X.stack) X.prog X.w HZ s1 Q (WE W σZ)) s1 := by
    refine PySem.W.kla_callFunE hr.depth of1 rfl L.co L.gen rfl ⟨c', oc, vs, t, rfl, hoc, hdc, hvc⟩ ?_
    rw [hbind]
    refine wpAny_pure (wpAny_newFunctionEnv (fun y hy => (L.own y hy).2) (fun y hy => absurd hy (by simp)) (fun h₁ hns hsb => ⟨I1.nolimit.fresh _ hsb, ?_⟩) L.kind)
    show codeAny _ _ (.expr body (lamEnv X scope s1.heap.objs.size f c')) _ _
    have kp : ∀ b o, s1.heap.get? b = some o → h₁.get? b = some o := fun b o e => hsb.extBut b o (Nat.ne_of_lt (Heap.lt_size e)) (Heap.get?_push_of_some _ e)
    have J : Inv (lamCx X (X.A.deeper (envOfC qg sg s.heap.objs.size g cdg)) (envOfC qg sg s.heap.objs.size g cdg :: X.stack) s1 HZ (WE W σZ) scope f c') [] σ HZ { s1 with heap := h₁, toks := s1.toks + ([] : List (Str × Value)).length } :=
      lam_start2 I L I1.env0 hr.hd un hns kp
    refine PySem.W.kla_codeExpr (wpAny_mono ((hbody _ _ s1 HZ _ (hr.deeper _)).run [] _ _ HZ Q J ht) (fun v s' hq => ?_) fun e s' hq => hq)
    obtain ⟨w', H', J', rv, q⟩ := hq
    exact ⟨w', H', J'.os, J'.bare, J'.base, J'.hok, rv, q⟩
  have hx := passAt tk σZ
  refine wpAny_call (codeAny_mono rc fun r s' hq => ?_)
  cases r with
  | error e => exact hx pinsZ HZ s1 e s' I1 hq
  | ok fl =>
    cases fl with
    | ret u => exact I1.after hq
    | next => exact False.elim hq
    | brk => exact False.elim hq
    | cont => exact False.elim hq
end
/-- the def that calls what it got: a calls it; TT: what it makes of the lambda's reading -/
def GivesS (X : Cx) (Ng : List Str) (x : Str) (sg : Scope) (g : Addr) (cdg : Value) (bg : List Stmt) (a : Str) (q : Str) (TT : (XK → Hp → VK → Prop) → Hp → VK → Prop) : Prop :=
  ∀ (f c' : Addr) (s : Shared) (H : Hp) (Q : VK) (tl : XK → Hp → VK → Prop),
    Room 1 (X.A.deeper (envOfC x sg s.heap.objs.size g cdg)) →
    (∀ (W : WX) (pn : List (Addr × Obj)) (xe : Value → Shared → Prop) (p1 p2 : Pos), Takes ((cxOf C8.CX0 X.prog X.w X.K X.mg X.base Ng x sg g cdg X.A X.stack s H C8.E0).tr pn xe) W →
      PE ((cxOf C8.CX0 X.prog X.w X.K X.mg X.base Ng x sg g cdg X.A X.stack s H C8.E0).tr pn xe) (.Call (.Name a p1) [] [] p2) (fun σZ HZ Q => σZ[0]? = some (some (.ref f)) ∧ HZ c' = some (CodeO c' q) ∧ tl (WE W σZ) HZ Q)) →
    H c' = some (CodeO c' q) → TT tl H Q →
    ∃ t, PSs (cxOf C8.CX0 X.prog X.w X.K X.mg X.base Ng x sg g cdg X.A X.stack s H C8.E0).nox bg t ∧ t { nx := fun _ H' => Q .non H', rt := Q } (L2.start Ng [.ref f]) H
section
variable {X : Cx}
/-- x(lambda: body) -/
theorem pe_lamcallS {T : List (Addr × Str)} {TT : (XK → Hp → VK → Prop) → Hp → VK → Prop} {x a : Str} {g c P : Addr} {k : Nat} {pg : Arguments} {bg : List Stmt} {sg : Scope} {dV kV doc pm cdv ct oc : Value} {an od : Option Addr} {osl : Array (Option Value)} {Ng : List Str}
    {params : Arguments} {body : Expr} {scope : Scope} {t : XK → TE} {p lpos pos : Pos} (hg : Gl X x) (hm : X.mg x = some (.ref g)) (hk : PySem.W.keepIn X.K (.ref g) = true)
    (lk : X.K.lookup g = some ⟨oc, od, .func (PySem.W.fnOf x x pg bg sg dV kV doc pm an cdv ct), osl⟩) (hcg : PySem.W.codeIn X.K cdv x = true) (hb : L2.Binds X.K (PySem.W.fnOf x x pg bg sg dV kV doc pm an cdv ct) [a] []) (Sg : FnScope Ng [a] sg) (hNg : Ng[0]? = some a) (hva : Vis sg a)
    (hG : GivesS X Ng x sg g cdv bg a (X.env.qual ++ "<lambda>") TT)
    (TB : TabB X.base X.mg c P) (hcode : X.env.code = .ref c) (hmT : (P, X.env.qual ++ "<lambda>") ∈ T) (hu : ∀ p ∈ T, p.1 = P → p.2 = X.env.qual ++ "<lambda>") (hr : Room (k + 2) X.A) (L : LamS X.env.scope scope) (hdef : defaultsOf params X.env = ([], []))
    (hbind : ∀ (q : Str) (cl : List (Str × Addr)) (pm cv ctv : Value), bindArgs (PySem.W.kla_fn "<lambda>" q params body scope cl pm cv ctv) ⟨[], []⟩ = pure [])
    (hbody : ∀ (A : Around) (outer : List Env) (s : Shared) (H : Hp) (E : XK) (f c' : Addr), Room k (A.deeper (lamEnv X scope s.heap.objs.size f c')) → PE (lamCx X A outer s H E scope f c') body (t E))
    (hdb : (x == ("__debug__" : Str)) = false := by decide) (hd : (a == ("__debug__" : Str)) = false := by decide) (hcd : (a == ("__classdict__" : Str)) = false := by decide) :
    PE X (.Call (.Name x p) [.Lambda params body scope lpos] [] pos) (tLam T TT t) := by
  refine ⟨fun pins s σ H Q I h => ?_⟩
  obtain ⟨hT, h⟩ := h
  refine wpAny_Call_Name_kw (ld_glob I hg hm ?_ hdb)
  refine PySem.W.callWith_K (h₀ := X.base) I.ok.mod.kin hk ?_ (by rfl) (by rfl)
  show wpAny _ _ (spliced ((false, eval (.Lambda params body scope lpos) X.env) :: backTo pos (starEach [] X.env))) _ _ s
  refine Calls.spliced_cons (lam_make2 I TB hcode hmT hu hT hdef (L.has I.ok) fun f c' pm' ctv H1 s' I1 eN T1 hf hfn hfr hco => ?_)
  refine Calls.spliced_nil ⟨I1.kIn, ?_⟩
  have rc : codeAny (model X.prog X.w) X.A (.call (.ref g) ⟨[.ref f], []⟩) (CR C8.CX0 X.stack X.prog X.w H1 s' Q C8.E0) s' := by
    refine run_ofS (N := Ng) (ps := [a]) (us := [.ref f]) (vs := [.ref f]) lk hcg Sg hr I1.env0 (hb s' [.ref f] I1.kIn rfl) (.cons rfl .nil) rfl fun hr' => ?_
    obtain ⟨t', ht', hq'⟩ := hG f c' s' H1 Q (fun E H' Q' => t E σ H' Q') (hr'.mono (by omega)) (fun W pn xe p1 p2 tk => pe_actS (i := 0) I1 L hf hfn hfr (hbind _ _ _ _ _) tk hr' (fun A outer s H E hr2 => hbody A outer s H E f c' hr2) hNg hva hd hcd) hco (h H1 eN T1)
    exact ⟨t', ht'.nox, hq'⟩
  refine wpAny_call (codeAny_mono rc fun r s2 hq => ?_)
  cases r with
  | error e => exact (show False from hq).elim
  | ok fl =>
    cases fl with
    | ret u => exact I1.after hq
    | next => exact False.elim hq
    | brk => exact False.elim hq
    | cont => exact False.elim hq
end
end LamS2

/-! x == y by x's own __eq__, y of any kind -/
namespace L2
open PySem PySem.Spec PyProof.Rows TM
section
variable {X : Cx} {n : Nat} {C f : Addr} {fd : FuncData} {ps : List Str} {sp : Sp} {E : XK}
def rOwnV (K : PySem.W.Frag) (C : Addr) (sp : Sp) (g : Bool → Bool) (E : XK) : R2 := fun x y H Q => ∃ (a dx : Addr) (fs : List (Str × V)) (t : Value), x = .ref a ∧ H a = some (.ins C dx fs) ∧ TyX K H y t ∧ PySem.W.notFirst K C t = true ∧
  sp [.ref a, y] H (fun v H' => ∃ c, v = .bl c ∧ Q (.bl (g c)) H') E
theorem op_ownV (F : FnOk X.prog X.w X.K X.mg X.base CX0 n f fd ps sp) (hs : PySem.W.findIn X.K (.ref C) "__eq__" = some (some (.ref f))) (hf : PySem.W.isFn X.K (.ref f) = true) (hb : Binds X.K fd ps []) (hr : Room n X.A) (hx : Passes CX0 X E) :
    OpR X (compareOp .Eq) (rOwnV X.K C sp (fun c => c) E) := by
  intro pins s σ H x y v u Q I rx ry hq
  obtain ⟨a, dx, fs, t, rfl, ha, ty, hn, hsp⟩ := hq
  cases rx
  show wpAny (model X.prog X.w) X.A (richCompare .Eq (.ref a) u) (EP X pins σ Q) X.xe s
  obtain ⟨mA, J, _⟩ := ins_get I.hok ha
  obtain ⟨od, J, _⟩ := J.look
  obtain ⟨Pt, Z, pZ, _⟩ := kit_of I ry ty
  obtain ⟨m, hF⟩ := I.fr
  refine PySem.W.cmp_K (op := .Eq) (tb := t) hr.units0 hF I.ok.mod.kin J (Z.ty _ _ I.kIn pZ) hn hs hf ?_
  have hl := F.len _ _ _ _ hsp
  have r2 : Vals [V.ref a, y] [Value.ref a, u] := .cons rfl (.cons ry .nil)
  refine wpAny_call (codeAny_mono (F.run X.A X.stack s H ⟨[.ref a, u], []⟩ [.ref a, u] [.ref a, y] _ E hr I.env0 (by
    have := hb s [.ref a, u] I.kIn (by simpa using hl)
    simpa using this) r2 hsp) fun r s' hq => ?_)
  cases r with
  | error e => exact hx pins σ H s e s' I hq
  | ok fl =>
    cases fl with
    | ret w =>
      obtain ⟨z, H', I', rz, c, ez, q⟩ := I.after hq
      subst ez
      cases rz
      exact ⟨.bl c, H', I', rfl, q⟩
    | next => exact False.elim hq
    | brk => exact False.elim hq
    | cont => exact False.elim hq
theorem op_ownVNe (F : FnOk X.prog X.w X.K X.mg X.base CX0 n f fd ps sp) (hs : PySem.W.findIn X.K (.ref C) "__eq__" = some (some (.ref f))) (hf : PySem.W.isFn X.K (.ref f) = true)
    (hne : PySem.W.findIn X.K (.ref C) "__ne__" = some (some (.builtin "object.__ne__"))) (hm : PySem.W.mroIn X.K C (.type "object") = some true) (hb : Binds X.K fd ps []) (hr : Room (n + 1) X.A) (hx : Passes CX0 X E) :
    OpR X (compareOp .NotEq) (rOwnV X.K C sp (fun c => !c) E) := by
  intro pins s σ H x y v u Q I rx ry hq
  obtain ⟨a, dx, fs, t, rfl, ha, ty, hn, hsp⟩ := hq
  cases rx
  show wpAny (model X.prog X.w) X.A (richCompare .NotEq (.ref a) u) (EP X pins σ Q) X.xe s
  obtain ⟨mA, J, _⟩ := ins_get I.hok ha
  obtain ⟨od, J, _⟩ := J.look
  obtain ⟨Pt, Z, pZ, _⟩ := kit_of I ry ty
  refine PySem.W.cmp_KNe (tb := t) hr.in1.units0 I.kIn J (Z.ty _ _ I.kIn pZ) hn hne hm hs hf ?_
  have hl := F.len _ _ _ _ hsp
  have r2 : Vals [V.ref a, y] [Value.ref a, u] := .cons rfl (.cons ry .nil)
  have e0 : Env0 X.prog X.w X.K X.mg X.base X.A.in1 X.stack s H := by
    have e := I.env0
    exact ⟨e.frames, e.mod, e.bs, e.bsz, e.funs, e.frf, e.hok, e.bare⟩
  refine wpAny_call (codeAny_mono (F.run X.A.in1 X.stack s H ⟨[.ref a, u], []⟩ [.ref a, u] [.ref a, y] _ E hr.in1 e0 (by
    have := hb s [.ref a, u] I.kIn (by simpa using hl)
    simpa using this) r2 hsp) fun r s' hq => ?_)
  cases r with
  | error e => exact hx pins σ H s e s' I hq
  | ok fl =>
    cases fl with
    | ret w =>
      obtain ⟨z, H', I', rz, c, ez, q⟩ := I.after hq
      subst ez
      cases rz
      exact ⟨c, rfl, .bl (!c), H', I', rfl, q⟩
    | next => exact False.elim hq
    | brk => exact False.elim hq
    | cont => exact False.elim hq
end
end L2

/-! str(x) by x's own __str__ -/
namespace L2
open PySem PySem.Spec PyProof.Rows TM
section
variable {X : Cx} {n : Nat} {C f : Addr} {fd : FuncData} {ps : List Str} {sp : Sp}
def rStrOwn (C : Addr) (sp : Sp) : List V → Hp → VK → Prop := fun vs H Q => ∃ (a dx : Addr) (fs : List (Str × V)), vs = [.ref a] ∧ H a = some (.ins C dx fs) ∧ sp [.ref a] H (fun v H' => ∃ y : Str, v = .str y ∧ Q (.str y) H') E0
theorem cr_strOwn (F : FnOk X.prog X.w X.K X.mg X.base CX0 n f fd ps sp) (hs : PySem.W.findIn X.K (.ref C) "__str__" = some (some (.ref f))) (hf : PySem.W.isFn X.K (.ref f) = true) (hb : Binds X.K fd ps []) (hr : Room (n + 2) X.A) :
    CallR X (.type "str") (rStrOwn C sp) := by
  intro pins s σ H vs us Q I r hq
  obtain ⟨a, dx, fs, rfl, ha, hsp⟩ := hq
  rw [Vals.ref1 r]
  obtain ⟨mA, J, _⟩ := ins_get I.hok ha
  obtain ⟨od, J, _⟩ := J.look
  refine PySem.W.kso_call hr.in1.in1.units0 I.kIn J hs hf ?_
  have hl := F.len _ _ _ _ hsp
  have r2 : Vals [V.ref a] [Value.ref a] := .cons rfl .nil
  have e0 : Env0 X.prog X.w X.K X.mg X.base X.A.in1.in1 X.stack s H := by
    have e := I.env0
    exact ⟨e.frames, e.mod, e.bs, e.bsz, e.funs, e.frf, e.hok, e.bare⟩
  refine wpAny_call (codeAny_mono (F.run X.A.in1.in1 X.stack s H ⟨[.ref a], []⟩ [.ref a] [.ref a] _ E0 hr.in1.in1 e0 (by
    have := hb s [.ref a] I.kIn (by simpa using hl)
    simpa using this) r2 hsp) fun r s' hq => ?_)
  cases r with
  | error e => exact (show False from hq).elim
  | ok fl =>
    cases fl with
    | ret w =>
      obtain ⟨z, H', I', rz, y, ez, q⟩ := I.after hq
      subst ez
      obtain ⟨t, rfl⟩ := (show ∃ t, w = Value.str y t from rz)
      exact ⟨.str y, H', I', ⟨t, rfl⟩, q⟩
    | next => exact False.elim hq
    | brk => exact False.elim hq
    | cont => exact False.elim hq
end
end L2

/-! defs that let exceptions out: a method (or class method) with *rest; what a lambda's body lets out -/
namespace L2
open PySem PySem.Spec PyProof.Rows StX LamX
/-- def m(q, *pv), which may raise -/
theorem Fun.sok1E {P : Program} {w : World} {K : PySem.W.Frag} {mg : Str → Option Value} {base : Heap} {x qual : Str} {st : Stmt} {f : Addr} {fd : FuncData} {N : List Str} {q pv : Str} {k : Nat} {sp : Sp} (F : Fun K x qual st f fd) (S : FnScope N [q, pv] (defScope st)) (b : StarB1 fd q pv)
    (hbody : ∀ (cdv : Value) (A : Around) (outer : List Env) (s : Shared) (H : Hp) (vs : List V) (Q : VK) (E : XK), Room k (A.deeper (envOfC qual (defScope st) s.heap.objs.size f cdv)) → sp vs H Q E →
      ∃ t, PSs (cxOf (L2.CX P w) P w K mg base N qual (defScope st) f cdv A outer s H E) (defBody st) t ∧ t { nx := fun _ H' => Q .non H', rt := Q } (start N vs) H) : FnR P w K mg base (L2.CX P w) (k + 1) f (starSp1 sp) := by
  obtain ⟨oc, od, kV, doc, pm, an, cdv, ct, osl, rfl, lk, hcd⟩ := F.ex
  have hb : ∀ us rest : List Value, us.length = [q].length → bindArgs (PySem.W.fnOf x qual (defArgs st) (defBody st) (defScope st) .none kV doc pm an cdv ct) ⟨us ++ rest, []⟩ = (newTuple rest >>= fun t => pure ([q].zip us ++ [(pv, t)])) := by
    intro us rest hl
    match us, hl with
    | [u], _ => exact b u rest
  refine (StX.fn_star (ps := [q]) (pv := pv) (sp := sp) lk hcd S StX.cxUp hb fun A outer s H vs Q E hr hsp => hbody cdv A outer s H vs Q E hr hsp).imp fun vs H Q E h => ?_
  obtain ⟨a, rest, e, hz, hq⟩ := h
  exact ⟨[a], rest, e, rfl, hz, hq⟩
/-- nothing is let out -/
theorem passE0 {X : Cx} : Passes (L2.CX X.prog X.w) X (fun _ _ _ => False) := fun _ _ _ _ _ _ _ ⟨_, _, _, _, _, _, _, _, _, _, _, _, z⟩ => z.elim
/-- what a def of its own lets out -/
theorem takesCx {P : Program} {w : World} {K : PySem.W.Frag} {mg : Str → Option Value} {base : Heap} {N : List Str} {qual : Str} {scope : Scope} {f : Addr} {cd : Value} {A : Around} {outer : List Env} {s : Shared} {H : Hp} {E : XK} :
    Takes (cxOf (L2.CX P w) P w K mg base N qual scope f cd A outer s H E) (fun cls d _ H' => E cls d H') := takes_of rfl rfl rfl rfl
theorem passesCx {P : Program} {w : World} {K : PySem.W.Frag} {mg : Str → Option Value} {base : Heap} {N : List Str} {qual : Str} {scope : Scope} {f : Addr} {cd : Value} {A : Around} {outer : List Env} {s : Shared} {H : Hp} {E : XK} :
    PassesOwn (model P w) (cxOf (L2.CX P w) P w K mg base N qual scope f cd A outer s H E).A (cxOf (L2.CX P w) P w K mg base N qual scope f cd A outer s H E).env (cxOf (L2.CX P w) P w K mg base N qual scope f cd A outer s H E).xe := passes_of rfl
/-- .. and a lambda's body -/
theorem passesLam {X : Cx} {A : Around} {outer : List Env} {s : Shared} {H : Hp} {E : XK} {scope : Scope} {f c' : Addr} : Passes (L2.CX X.prog X.w) (lamCx X A outer s H E scope f c') E :=
  passes_call (takes_of (X := lamCx X A outer s H E scope f c') (E := E) rfl rfl rfl rfl) fun _ _ _ _ h => h
end L2

namespace K14
open PySem PySem.Spec PyProof.Rows L2 TM TF GS
theorem free_snoc {B G : List Nat} {x : Nat} (hB : ∀ y, y ∈ B ↔ y ∈ G ∧ y < x) (hG : Free G) : Free (B ++ [x]) ↔ ¬ GS.Cv G x := by
  constructor
  · rintro h ⟨y, z, hy, hz, hyz, e⟩
    exact h x (List.mem_append_right _ (List.mem_singleton.mpr rfl)) ⟨y, z, List.mem_append_left _ ((hB y).mpr ⟨hy, by omega⟩), List.mem_append_left _ ((hB z).mpr ⟨hz, by omega⟩), hyz, e⟩
  · intro h
    refine Free.snoc (fun u hu c => hG u ((hB u).mp hu).1 (c.mono fun y hy => ((hB y).mp hy).1)) (fun y hy => ((hB y).mp hy).2) fun c => h (c.mono fun y hy => ((hB y).mp hy).1)
section
variable {P : Program} {w : World} {K : PySem.W.Frag} {mg : Str → Option Value} {base : Heap}
def sp_l_added_right (T : Txt K mg) : Sp := fun vs H Q _ => ∃ (a d : Addr) (S : List Nat) (L sp : Nat), vs = [.ref a, vn sp] ∧ GO H T.C_GreedySequence a d S L ∧ L < sp ∧ sp ≤ L + 2000 ∧ (∀ x ∈ gl S L 2000, x < sp → x ∈ (gl S L 2000).take 40) ∧
  ∀ H', Bt2 a d H H' → GO H' T.C_GreedySequence a d S L → Q (.bl true) H'
theorem ok_l_added_right (T : Txt K mg) : FnOk P w K mg base CX0 18 T.f_l_added_right T.fd_l_added_right ["sequence_here", "spot"] (sp_l_added_right T) := by
  have nd := sc_l_added_right.nd
  refine T.F_l_added_right.ok sc_l_added_right (fun vs H Q E h => ?_) (fun cdv A outer s H vs Q E hr h => ?_)
  · obtain ⟨a, d, S, L, sp, rfl, _⟩ := h
    rfl
  · obtain ⟨a, d, S, L, sp, rfl, go, hL, hsp, h40, q⟩ := h
    obtain ⟨ts0, tm0, ms0, c0, g0, gm0⟩ := id go
    obtain ⟨dx0, ea0⟩ := gm0.obj
    have st := gm0.st
    have lL := gm0.lL
    refine ⟨_, (pss_cons (ps_setLc (i := 2) (own := [("one", 4)]) (g := gName 4) (tt := _) rfl nd rfl rfl (sw_true rfl rfl rfl (by decide +kernel)) (pi_tup (pe_prop (pv 0) T.c_GreedySequence T.po_GreedySequence_beginning (ok_GreedySequence_beginning T) (hr.mono (by decide)) T.b_GreedySequence_beginning .nil pass0 rfl)) (blkOk_by (own := [("one", 4)]) (N := N_l_added_right) (sc := defScope s_l_added_right) (by decide +kernel)) (fun _ _ _ _ _ => pg_name (i := 4) nd rfl (Or.inl rfl)) (fun _ _ _ _ _ => (pts_one (pt_cmpR op_lt (pv 4) (pv 1) (nomark _)))) (fun _ _ _ _ _ => (pv 4)))
      (pss_cons (ps_set (i := 3) nd rfl (.inl rfl) (pe_listG (pgen_meth (E := E0) (pv 0) T.c_GreedySequence T.me_GreedySequence_coverings (ok_coverings T) (hr.mono (by decide)) T.b_GreedySequence_coverings .nil (pa_cons (pv 1) pa_nil)) passE0 (fun _ _ _ h => h.elim) (hr.mono (by decide)) (by rfl) T.m_list (by decide +kernel)))
      (pss_cons (ps_if (pt_cmpR (op_neNilK K hr.units) (pe_call (ok_l_triple T) (hr.mono (by decide)) rfl T.g_l_triple T.F_l_triple.kp T.b_l_triple .nil pass0 (pa_cons (pv 2) pa_nil)) (pe_lst pa_nil) (nomark _)) (pss_one (ps_ret pe_bl)) pss_nil)
      (pss_cons (ps_if (pt_cmpR op_ne (pe_cmpR (op_neNilK K hr.units) (pe_call (ok_l_triple T) (hr.mono (by decide)) rfl T.g_l_triple T.F_l_triple.kp T.b_l_triple .nil pass0 (pa_cons (pe_op op_catS (pv 2) (pe_lst (pa_cons (pv 1) pa_nil))) pa_nil)) (pe_lst pa_nil) (nomark _)) (pe_cmpR (op_neNilK K hr.units) (pv 3) (pe_lst pa_nil) (nomark _)) (nomark _)) (pss_one (ps_ret pe_bl)) pss_nil)
      (pss_one (ps_ret (pe_cmpR op_eq (pe_meth (pv 0) T.c_GreedySequence T.me_GreedySequence_contains (ok_GreedySequence_contains T) (hr.mono (by decide)) T.b_GreedySequence_contains .nil pass0 (pa_cons (pv 1) pa_nil)) (pe_cmpR (op_eqNilK K hr.units) (pv 3) (pe_lst pa_nil) (nomark _)) (nomark _)))))))), ?_⟩
    refine ⟨_, rfl, a, dx0, _, rfl, ea0, a, d, S, L, rfl, go, fun H1 tb s1 eb => ?_⟩
    refine ⟨tb, rfl, ⟨_, SqT.of eb⟩, fun D hD => ?_⟩
    have hk : ((gl S L 2000).take 40).length ≤ 40 := List.length_take_le ..
    refine lc_fmW (walk_tup (xs := ((gl S L 2000).take 40).map vn)) (List.length_map ..) (f := fun z => decide (z < sp)) (g := vn) (fun H' s' => SqT.of (s' _ _ eb)) hD (by omega) (fun _ => rfl) (fun z hz H' G s' k => ?_) (fun z hz hf H' E2 s' k => ⟨_, rfl, k⟩) (fun H2 s2 e2 => ?_)
    · refine ⟨_, rfl, _, rfl, _, _, rfl, rfl, _, rfl, ?_⟩
      rw [show decide ((z : Int) < (sp : Int)) = decide (z < sp) by rw [decide_eq_decide]; omega]
      exact k
    generalize hBd : ((gl S L 2000).take 40).filter (fun z => decide (z < sp)) = B at e2
    have hB : ∀ y, y ∈ B ↔ y ∈ gl S L 2000 ∧ y < sp := fun y => by
      rw [← hBd, List.mem_filter, decide_eq_true_eq]
      exact ⟨fun z => ⟨List.mem_of_mem_take z.1, z.2⟩, fun z => ⟨h40 y z.1 z.2, z.2⟩⟩
    have hBl : B.length ≤ 40 := by rw [← hBd]; exact Nat.le_trans (List.length_filter_le ..) hk
    have hBa : B.Pairwise (· < ·) := by rw [← hBd]; exact ((gl_asc st 2000).sublist (List.take_sublist ..)).filter _
    have hBb : ∀ x ∈ B, x < 2 ^ 40 := fun x hx => Nat.lt_trans ((hB x).mp hx).2 (by omega)
    have hBF : Free B := fun u hu c => gl_free st 2000 u ((hB u).mp hu).1 (c.mono fun y hy => ((hB y).mp hy).1)
    have hfs := free_snoc (x := sp) hB (gl_free st 2000)
    have s02 := Same.trans s1 s2
    have go2 := go.same s02
    have ea2 := s02 _ _ ea0
    have Da : D ≠ a := (ne_of_none (s1 _ _ ea0) hD).symm
    have Dd : D ≠ d := (ne_of_none (s1 _ _ gm0.hd) hD).symm
    refine ⟨_, rfl, a, dx0, _, rfl, ea2, rfl, _, rfl, a, d, S, L, sp, rfl, go2, hsp, fun H3 ts b3 go3 pr3 => fun sm hsm => ?_⟩
    have e3 := b3 _ _ Da Dd e2
    have s4 := same_new (o := .lst (ts.map V.ref)) hsm
    have esm : upd H3 sm (.lst (ts.map V.ref)) sm = some (.lst (ts.map V.ref)) := upd_same
    have e4 := s4 _ _ e3
    have b04 := Bt2.same (Bt2.trans (Bt2.of s02) b3) s4
    have go4 := go3.same s4
    have hpe := pr_empty pr3
    generalize upd H3 sm (.lst (ts.map V.ref)) = H4 at s4 esm e4 b04 go4 ⊢
    refine ⟨_, rfl, D, B, rfl, e4, by omega, hBb, hBa, fun H5 r xs s5 er hxs => ⟨(by show 0 ≤ sizeLine; decide), fun l6 hl6 => ?_⟩⟩
    have s6 := Same.trans s5 (same_new (o := .lst []) hl6)
    have er6 := same_new (o := .lst []) hl6 _ _ er
    have el6 : upd H5 l6 (.lst []) l6 = some (.lst []) := upd_same
    generalize upd H5 l6 (.lst []) = H6 at s6 er6 el6 ⊢
    refine ⟨r, l6, _, rfl, rfl, SqL.of er6, SqL.of el6, _, rfl, ?_⟩
    rw [hxs.mpr hBF]
    refine iteF ?_
    have e6 := s6 _ _ e4
    have esm6 := s6 _ _ esm
    have go6 := go4.same s6
    have b06 := Bt2.same b04 s6
    refine ⟨_, rfl, _, rfl, (by show 1 ≤ sizeLine; decide), fun l7 hl7 => ?_⟩
    have s7 := same_new (o := .lst [vn sp]) hl7
    have e7 : upd H6 l7 (.lst [vn sp]) l7 = some (.lst [vn sp]) := upd_same
    have eD7 := s7 _ _ e6
    generalize upd H6 l7 (.lst [vn sp]) = H7 at s7 e7 eD7 ⊢
    refine ⟨D, l7, _, _, rfl, rfl, SqL.of eD7, SqL.of e7, Nat.le_of_lt (small_lt (b := 50) (by rw [List.length_map]; show B.length + 1 ≤ 50; omega)), fun l8 hl8 => ?_⟩
    have s8 := Same.trans s7 (same_new (o := .lst (B.map vn ++ [vn sp])) hl8)
    have e8 : upd H7 l8 (.lst (B.map vn ++ [vn sp])) l8 = some (.lst ((B ++ [sp]).map vn)) := by
      rw [upd_same, List.map_append]
      rfl
    generalize upd H7 l8 (.lst (B.map vn ++ [vn sp])) = H8 at s8 e8 ⊢
    refine ⟨l8, B ++ [sp], rfl, e8, ?_, fun x hx => ?_, asc_snoc hBa fun y hy => ((hB y).mp hy).2, fun H9 r9 xs9 s9 er9 hxs9 => ⟨(by show 0 ≤ sizeLine; decide), fun l10 hl10 => ?_⟩⟩
    · rw [List.length_append, List.length_singleton]; omega
    · rcases List.mem_append.mp hx with z | z
      · exact hBb x z
      · rw [List.mem_singleton.mp z]; omega
    have s10 := Same.trans s8 (Same.trans s9 (same_new (o := .lst []) hl10))
    have er10 := same_new (o := .lst []) hl10 _ _ er9
    have el10 : upd H9 l10 (.lst []) l10 = some (.lst []) := upd_same
    generalize upd H9 l10 (.lst []) = H10 at s10 er10 el10 ⊢
    refine ⟨r9, l10, _, rfl, rfl, SqL.of er10, SqL.of el10, _, rfl, (by show 0 ≤ sizeLine; decide), fun l11 hl11 => ?_⟩
    have esm11 := same_new (o := .lst []) hl11 _ _ (s10 _ _ esm6)
    have s11 := Same.trans s10 (same_new (o := .lst []) hl11)
    have el11 : upd H10 l11 (.lst []) l11 = some (.lst []) := upd_same
    generalize upd H10 l11 (.lst []) = H11 at s11 esm11 el11 ⊢
    refine ⟨sm, l11, _, rfl, rfl, SqL.of esm11, SqL.of el11, rfl, _, rfl, ?_⟩
    have heq : xs9.isEmpty = (ts.map V.ref).isEmpty := by
      rw [Bool.eq_iff_iff, hxs9, hpe, cvl_nil]
      exact hfs
    rw [heq]
    rw [show (!decide (V.bl (!(ts.map V.ref).isEmpty) = V.bl (!(ts.map V.ref).isEmpty))) = false by simp]
    refine iteF ?_
    have go11 := go6.same s11
    have b11 := Bt2.same b06 s11
    obtain ⟨ts11, tm11, ms11, c11, g11, gm11⟩ := id go11
    obtain ⟨dx11, ea11⟩ := gm11.obj
    refine ⟨_, rfl, a, dx11, _, rfl, ea11, rfl, _, rfl, a, d, S, L, sp, rfl, go11, hsp, fun H12 b12 go12 => ?_⟩
    have smad : sm ≠ a ∧ sm ≠ d := by
      obtain ⟨ts3, tm3, ms3, c3, g3, gm3⟩ := id go3
      obtain ⟨dx3, ea3⟩ := gm3.obj
      exact ⟨(ne_of_none ea3 hsm).symm, (ne_of_none gm3.hd hsm).symm⟩
    have esm12 := b12 _ _ smad.1 smad.2 esm11
    refine ⟨_, rfl, (by show 0 ≤ sizeLine; decide), fun l13 hl13 => ?_⟩
    have esm13 := same_new (o := .lst []) hl13 _ _ esm12
    have s13 := same_new (o := .lst []) hl13
    have el13 : upd H12 l13 (.lst []) l13 = some (.lst []) := upd_same
    have go13 := go12.same s13
    have b13 := Bt2.same (Bt2.trans b11 b12) s13
    generalize upd H12 l13 (.lst []) = H13 at s13 esm13 el13 go13 b13 ⊢
    refine ⟨sm, l13, _, rfl, rfl, SqL.of esm13, SqL.of el13, rfl, ?_⟩
    have heq2 : decide (sp ∈ gl S L 2000) = (ts.map V.ref).isEmpty := by
      rw [Bool.eq_iff_iff, decide_eq_true_eq, hpe, cvl_nil]
      exact gl_spec st.le hL hsp
    rw [heq2]
    rw [show decide (V.bl (ts.map V.ref).isEmpty = V.bl (ts.map V.ref).isEmpty) = true from decide_eq_true rfl]
    exact q _ b13 go13
end
end K14

namespace K14
open PySem PySem.Spec PyProof.Rows L2 TM TF GS
/-- no triple among numbers that stand in a free list -/
theorem trp_sub {B cs : List Nat} (ha : B.Pairwise (· < ·)) (hF : Free B) (hc : ∀ x ∈ cs, x ∈ B) : ∃ l : List Nat, l.Pairwise (· < ·) ∧ (∀ x, x ∈ l ↔ x ∈ cs) ∧ trp l l = none := by
  refine ⟨B.filter fun x => decide (x ∈ cs), ha.filter _, fun x => ?_, trp_free ?_ (ha.filter _) fun _ h => h⟩
  · rw [List.mem_filter, decide_eq_true_eq]
    exact ⟨fun z => z.2, fun z => ⟨hc x z, z⟩⟩
  · exact fun u hu c => hF u (List.mem_filter.mp hu).1 (c.mono fun y hy => (List.mem_filter.mp hy).1)
namespace Two
/-- a source of draws whose list of cells is named -/
def SrcC (H : Hp) (p cl : Addr) (a : Nat) : Prop := ∃ (cl0 : List Int) (rf : Nat), H p = some (.dK [(kS "cells", .ref cl), (kS "turn", vn a), (kS "rest", vn rf)]) ∧ H cl = some (.lst (cl0.map V.int)) ∧ 0 < cl0.length ∧ cl0.length ≤ 64
theorem SrcC.same {H H' : Hp} {p cl : Addr} {a : Nat} (s : Same H H') : SrcC H p cl a → SrcC H' p cl a := fun ⟨l, rf, h1, h2, h3, h4⟩ => ⟨l, rf, s _ _ h1, s _ _ h2, h3, h4⟩
section
variable {P : Program} {w : World} {K : PySem.W.Frag} {mg : Str → Option Value} {base : Heap}
def sp_l_pick (K : PySem.W.Frag) : Sp := fun vs H Q _ => ∃ (p cl : Addr) (c a : Nat), vs = [.ref p, vn c] ∧ 0 < c ∧ c < 2 ^ 60 ∧ SrcC H p cl a ∧ a ≤ 200000 ∧ ∀ H' r, r < c → But p H H' → SrcC H' p cl (a + 1) → Q (vn r) H'
theorem ok_l_pick (T : Txt K mg) : FnOk P w K mg base CX0 1 T.f_l_pick T.fd_l_pick ["source", "many"] (sp_l_pick K) := by
  have nd := sc_l_pick.nd
  refine T.F_l_pick.ok sc_l_pick (fun vs H Q E h => ?_) (fun cdv A outer s H vs Q E hr h => ?_)
  · obtain ⟨p, cl, c, a, rfl, _⟩ := h
    rfl
  · obtain ⟨p, cl, c, a, rfl, c0, c60, ⟨l, lf, e1, e2, l0, l64⟩, ha, q⟩ := h
    refine ⟨_, (pss_cons (ps_dput (hu_of hr) (pv 0) pe_str (pe_op nAdd (pe_dget (hu_of hr) (pv 0) pe_str (fun _ _ => rfl)) pe_int) rfl)
      (pss_cons (ps_if (pt_cmpR op_gt (pe_dget (hu_of hr) (pv 0) pe_str (fun _ _ => rfl)) pe_int (nomark _)) (pss_cons (ps_set (i := 2) nd rfl (.inl rfl) (pe_op nMod (pe_dget (hu_of hr) (pv 0) pe_str (fun _ _ => rfl)) (pv 1)))
      (pss_cons (ps_dput (hu_of hr) (pv 0) pe_str (pe_op nDiv (pe_dget (hu_of hr) (pv 0) pe_str (fun _ _ => rfl)) (pv 1)) rfl)
      (pss_one (ps_ret (pv 2))))) pss_nil)
      (pss_cons (ps_par (i := 3) (j := 4) (by rfl) nd rfl rfl (by decide) rfl rfl (pa_cons (pe_dget (hu_of hr) (pv 0) pe_str (fun _ _ => rfl)) (pa_cons (pe_dget (hu_of hr) (pv 0) pe_str (fun _ _ => rfl)) pa_nil)) (by rfl))
      (pss_cons (ps_set (i := 5) nd rfl (.inl rfl) (pe_op nAdd (pe_op op_modN (pe_op op_add (pe_ix (ix_listK K) (pv 4) (pe_op nMod (pv 3) (pe_callB call_len_seq (by rfl) T.m_len PySem.boot_len (pa_cons (pv 4) pa_nil))) (fun _ _ => rfl)) (pe_op nMul pe_int (pv 3))) pe_int) (pe_op nMul (pe_op nMul pe_int (pv 3)) (pv 3))))
      (pss_cons (ps_set (i := 5) nd rfl (.inl rfl) (pe_op nMod (pe_op nMul (pe_op nMod (pv 5) pe_int) (pe_op nAdd (pv 3) pe_int)) pe_int))
      (pss_one (ps_ret (pe_op nMod (pe_op nDiv (pe_op nMod (pe_op nMul (pv 5) (pv 5)) pe_int) pe_int) (pv 1))))))))), ?_⟩
    have hcp : cl ≠ p := ne_of e2 e1 (by intro z; cases z)
    refine ⟨_, rfl, p, _, rfl, DGet.k (k := kS "turn") e1, a, 1, rfl, rfl, trivial, _, rfl, p, _, rfl, DPut.k (k := kS "turn") e1 (by show 3 < sizeLine; decide), ?_⟩
    have b1 : But p H (upd H p (.dK (putK [(kS "cells", .ref cl), (kS "turn", vn a), (kS "rest", vn lf)] (kS "turn") (vn (a + 1))))) := But.upd (But.refl p H)
    have x1 : upd H p (.dK (putK [(kS "cells", .ref cl), (kS "turn", vn a), (kS "rest", vn lf)] (kS "turn") (vn (a + 1)))) p = some (.dK [(kS "cells", .ref cl), (kS "turn", vn (a + 1)), (kS "rest", vn lf)]) := upd_same
    generalize upd H p (.dK (putK [(kS "cells", .ref cl), (kS "turn", vn a), (kS "rest", vn lf)] (kS "turn") (vn (a + 1)))) = H1 at b1 x1 ⊢
    have y1 := b1 _ _ hcp e2
    refine ⟨_, rfl, p, _, rfl, DGet.k (k := kS "rest") x1, _, _, rfl, rfl, _, rfl, ite2 (fun z => ?_) (fun z => ?_)⟩
    · refine ⟨_, rfl, p, _, rfl, DGet.k (k := kS "rest") x1, _, rfl, lf, c, rfl, rfl, c0, ?_⟩
      refine ⟨_, rfl, p, _, rfl, DGet.k (k := kS "rest") x1, _, rfl, lf, c, rfl, rfl, ⟨c0, pow_up c60 (by decide)⟩, _, rfl, p, _, rfl, DPut.k (k := kS "rest") x1 (by show 3 < sizeLine; decide), ?_⟩
      refine ⟨_, rfl, q _ _ (Nat.mod_lt _ c0) (But.upd b1) ⟨l, lf / c, ?_, ?_, l0, l64⟩⟩
      · rw [upd_same]
        rfl
      · rw [upd_ne hcp]; exact y1
    · generalize ha1 : a + 1 = a1 at x1 q ⊢
      refine ⟨_, rfl, p, _, rfl, DGet.k (k := kS "turn") x1, _, rfl, p, _, rfl, DGet.k (k := kS "cells") x1, _, _, rfl, ?_⟩
      have b18 : a1 < 2 ^ 18 := by
        have : (2 : Nat) ^ 18 = 262144 := by decide
        omega
      have m1 : 65537 * a1 < 2 ^ 35 := by omega
      have m2 : 65537 * a1 * a1 < 2 ^ 53 := by
        have := Nat.mul_lt_mul'' m1 b18
        have e : (2 : Nat) ^ 35 * 2 ^ 18 = 2 ^ 53 := by decide
        omega
      have hget : ∃ z, l[a1 % l.length]? = some z := ⟨_, List.getElem?_eq_getElem (Nat.mod_lt _ l0)⟩
      obtain ⟨z0, hz0⟩ := hget
      obtain ⟨m, hm, hm2⟩ : ∃ m : Nat, (z0 + ((1009 * a1 : Nat) : Int)).fmod 2147483647 = (m : Int) ∧ m < 2147483647 := by
        have h1 := Int.fmod_nonneg_of_pos (z0 + ((1009 * a1 : Nat) : Int)) (show (0 : Int) < 2147483647 by decide)
        have h2 := Int.fmod_lt_of_pos (z0 + ((1009 * a1 : Nat) : Int)) (show (0 : Int) < 2147483647 by decide)
        exact ⟨((z0 + ((1009 * a1 : Nat) : Int)).fmod 2147483647).toNat, by omega, by omega⟩
      refine ⟨_, rfl, _, rfl, _, rfl, cl, _, rfl, .inl (SqL.of y1), a1, l.length, rfl, congrArg (fun n : Nat => V.int (n : Int)) (List.length_map ..), l0, cl, _, _, _, rfl, rfl, SqL.of y1, atI_nat (by rw [List.getElem?_map, hz0]; rfl), _, rfl, 1009, a1, rfl, rfl, ⟨20, 20, by decide, pow_up b18 (by decide), by decide, by decide, by decide⟩, _, _, rfl, rfl, _, _, rfl, rfl, (by show (2147483647 : Int) ≠ 0; decide), ?_⟩
      refine ⟨_, rfl, 65537, a1, rfl, rfl, ⟨20, 20, by decide, pow_up b18 (by decide), by decide, by decide, by decide⟩, _, rfl, 65537 * a1, a1, rfl, rfl, ⟨36, 20, pow_up m1 (by decide), pow_up b18 (by decide), by decide, by decide, by decide⟩, m, 65537 * a1 * a1, congrArg V.int hm, rfl, trivial, ?_⟩
      have h5 : (m + 65537 * a1 * a1) % 2147483647 < 2 ^ 31 := Nat.lt_trans (Nat.mod_lt _ (by decide)) (by decide)
      refine ⟨_, rfl, m + 65537 * a1 * a1, 2147483647, rfl, rfl, Nat.succ_pos _, _, rfl, a1, 48271, rfl, rfl, trivial, (m + 65537 * a1 * a1) % 2147483647, a1 + 48271, rfl, rfl, ⟨31, 20, h5, by omega, by decide, by decide, by decide⟩, _, 2147483629, rfl, rfl, Nat.succ_pos _, ?_⟩
      have h6 : (m + 65537 * a1 * a1) % 2147483647 * (a1 + 48271) % 2147483629 < 2 ^ 31 := Nat.lt_trans (Nat.mod_lt _ (by decide)) (by decide)
      obtain ⟨v, hv⟩ : ∃ v, (m + 65537 * a1 * a1) % 2147483647 * (a1 + 48271) % 2147483629 = v := ⟨_, rfl⟩
      rw [hv] at h6
      refine ⟨_, rfl, _, rfl, v, v, congrArg vn hv, congrArg vn hv, ⟨31, 31, h6, h6, by decide, by decide, by decide⟩, v * v, 2147483647, rfl, rfl, Nat.succ_pos _, v * v % 2147483647, 5, rfl, rfl, ⟨Nat.succ_pos _, by decide⟩, _, rfl, v * v % 2147483647 / 5, c, rfl, rfl, c0, ?_⟩
      exact q _ _ (Nat.mod_lt _ c0) b1 ⟨l, lf, x1, y1, l0, l64⟩
/-! ### the sources -/
def sp_l_no_triple (K : PySem.W.Frag) : Sp := fun vs H Q _ => ∃ (p t : Addr) (a : Nat) (B : List Nat), vs = [.ref p, .ref t] ∧ SrcD H p a ∧ a ≤ 150000 ∧ H t = some (.tup (B.map vn)) ∧ 0 < B.length ∧ B.length ≤ 40 ∧ B.Pairwise (· < ·) ∧ Free B ∧ (∀ x ∈ B, x < 2 ^ 40) ∧
  ∀ H', But p H H' → SrcD H' p (a + 5) → Q (.bl true) H'
theorem ok_l_no_triple (T : Txt K mg) : FnOk P w K mg base CX0 6 T.f_l_no_triple T.fd_l_no_triple ["source", "numbers"] (sp_l_no_triple K) := by
  have nd := sc_l_no_triple.nd
  refine T.F_l_no_triple.ok sc_l_no_triple (fun vs H Q E h => ?_) (fun cdv A outer s H vs Q E hr h => ?_)
  · obtain ⟨p, t, a, B, rfl, _⟩ := h
    rfl
  · obtain ⟨p, t, a, B, rfl, src, ha, ht, B0, B40, hBa, hBF, hBb, q⟩ := h
    refine ⟨_, (pss_cons (ps_asg (pe_lc (own := [("k", 7)]) (g := gName 7) (tt := tYes) rfl nd (pi_range1 rfl T.m_range (pa_cons pe_int pa_nil)) (blkOk_by (own := [("k", 7)]) (N := N_l_no_triple) (sc := defScope s_l_no_triple) (by decide +kernel)) (fun _ _ _ _ _ => pg_name (i := 7) nd rfl (Or.inl rfl)) (fun _ _ _ _ _ => pts_nil) (fun _ _ _ _ _ => (pe_ix (ix_tupK K) (pv 1) (pe_call (ok_l_pick T) (hr.mono (by decide)) rfl T.g_l_pick T.F_l_pick.kp T.b_l_pick .nil pass0 (pa_cons (pv 0) (pa_cons (pe_callB (call_lenK K) (by rfl) T.m_len PySem.boot_len (pa_cons (pv 1) pa_nil)) pa_nil))) (fun _ _ => rfl)))) (pg_lst rfl (pgs_cons (pg_name (i := 2) nd rfl (.inl rfl)) (pgs_cons (pg_name (i := 3) nd rfl (.inl rfl)) (pgs_cons (pg_name (i := 4) nd rfl (.inl rfl)) (pgs_cons (pg_name (i := 5) nd rfl (.inl rfl)) (pgs_cons (pg_name (i := 6) nd rfl (.inl rfl)) pgs_nil)))))))
      (pss_one (ps_ret (pe_and (pe_cmpR op_isN (pe_callR (ok_smallest_triple T) (hr.mono (by decide)) T.F_smallest_triple.kp rfl T.g_smallest_triple pass0 (pa_cons (pv 2) (pa_cons (pv 3) (pa_cons (pv 4) (pa_cons (pv 5) (pa_cons (pv 6) pa_nil)))))) pe_non (nomark _)) (pe_one (pe_cmpR op_isN (pe_callR (ok_smallest_triple T) (hr.mono (by decide)) T.F_smallest_triple.kp rfl T.g_smallest_triple pass0 (pa_cons (pv 6) (pa_cons (pv 4) pa_nil))) pe_non (nomark _))))))), ?_⟩
    have tp : t ≠ p := by obtain ⟨kvs, e⟩ := src.dict; exact ne_of ht e (fun z => nomatch z)
    refine ⟨5, rfl, by decide, by decide, fun D hD => ?_⟩
    have Dp : D ≠ p := by obtain ⟨kvs, e⟩ := src.dict; exact (ne_of_none e hD).symm
    obtain ⟨cl, srcc⟩ : ∃ cl, SrcC H p cl a := src.elim fun cl z => ⟨cl, z⟩
    have Dcl : D ≠ cl := by obtain ⟨_, _, _, e, _⟩ := srcc; exact (ne_of_none e hD).symm
    refine lc_it (walk_range (lo := 0) (n := 5)) (fun i H' => ∃ cs : List Nat, But p H H' ∧ SrcC H' p cl (a + i) ∧ H' D = some (.lst (cs.map vn)) ∧ cs.length = i ∧ ∀ x ∈ cs, x ∈ B)
      ⟨[], Same.but (same_new hD), srcc.same (same_new hD), upd_same, rfl, fun x hx => nomatch hx⟩ (fun _ _ _ _ => trivial) ?_ ?_
    · rintro i x H2 H3 hi ⟨cs, b2, src2, eD, hcl, hcs⟩ ⟨rfl, rfl⟩
      refine ⟨rfl, ?_⟩
      have ht3 := b2 _ _ tp ht
      refine iteT (B := ∃ cs, But p H H3 ∧ SrcC H3 p cl (a + (i + 1)) ∧ H3 D = some (HO.lst (List.map vn cs)) ∧ cs.length = i + 1 ∧ ∀ (x : Nat), x ∈ cs → x ∈ B) ⟨_, rfl, _, rfl, _, rfl, t, _, rfl, .inr (SqT.of ht3), p, cl, (B.map vn).length, a + i, rfl, by rw [List.length_map]; exact B0, by rw [List.length_map]; omega, src2, by omega, fun H4 r hr4 b4 src4 => ?_⟩
      rw [List.length_map] at hr4
      have ht4 := b4 _ _ tp ht3
      have eD4 := b4 _ _ Dp eD
      have b04 := But.trans b2 b4
      have hget : B[r]? = some B[r] := List.getElem?_eq_getElem hr4
      have hmem : B[r] ∈ B := List.getElem_mem hr4
      generalize B[r] = z at hget hmem
      refine ⟨t, _, _, _, rfl, rfl, SqT.of ht4, atI_nat (by rw [List.getElem?_map, hget]; rfl), _, eD4, small_lt (b := 50) (by rw [List.length_map]; omega), cs ++ [z], ?_, ?_, ?_, ?_, ?_⟩
      · exact fun b o hb e => by rw [upd_ne (fun z => by rw [z, hD] at e; cases e)]; exact b04 b o hb e
      · obtain ⟨l0, rf, h1, h2, h3, h4⟩ := src4
        exact ⟨l0, rf, by rw [upd_ne Dp.symm]; exact h1, by rw [upd_ne Dcl.symm]; exact h2, h3, h4⟩
      · rw [upd_same, List.map_append]
        rfl
      · rw [List.length_append, hcl]; rfl
      · intro x hx
        rcases List.mem_append.mp hx with y | y
        · exact hcs x y
        · rw [List.mem_singleton.mp y]; exact hmem
    · rintro H2 ⟨cs, b2, src2, eD, hcl, hcs⟩
      obtain ⟨c0, c1, c2, c3, c4, rfl⟩ : ∃ c0 c1 c2 c3 c4, cs = [c0, c1, c2, c3, c4] := by
        match cs, hcl with
        | [c0, c1, c2, c3, c4], _ => exact ⟨c0, c1, c2, c3, c4, rfl⟩
      have src2' : SrcD H2 p (a + 5) := src2.elim fun l0 z => ⟨cl, l0, z⟩
      have m0 : c0 ∈ B := hcs _ (by simp)
      have m1 : c1 ∈ B := hcs _ (by simp)
      have m2 : c2 ∈ B := hcs _ (by simp)
      have m3 : c3 ∈ B := hcs _ (by simp)
      have m4 : c4 ∈ B := hcs _ (by simp)
      refine ⟨D, _, rfl, SqL.of eD, rfl, _, [_, _, _, _], rfl, _, [_, _, _], rfl, _, [_, _], rfl, _, [_], rfl, _, [], rfl, rfl, ?_⟩
      obtain ⟨l, l1, l2, l3⟩ := trp_sub hBa hBF hcs
      refine ⟨_, rfl, _, rfl, _, rfl, _, rfl, _, rfl, (by show 5 ≤ sizeLine; decide), fun p3 hp3 => ⟨p3, [c0, c1, c2, c3, c4], l, rfl, upd_same, by show 5 ≤ 2000; decide, fun x hx => hBb x (hcs x hx), l1, l2, fun _ H4 s4 => ?_, fun y z hz => ?_⟩⟩
      rotate_left
      · rw [l3] at hz; cases hz
      have b4 : But p H H4 := But.same b2 (Same.trans (same_new hp3) s4)
      have src4 := src2'.same (Same.trans (same_new hp3) s4)
      refine ⟨rfl, _, rfl, ?_⟩
      refine iteT ?_
      obtain ⟨n, n1, n2, n3⟩ := trp_sub (cs := [c4, c2]) hBa hBF fun x hx => by
        rcases List.mem_cons.mp hx with rfl | hx
        · exact m4
        · rw [List.mem_singleton.mp hx]; exact m2
      refine ⟨_, rfl, _, rfl, (by show 2 ≤ sizeLine; decide), fun p5 hp5 => ⟨p5, [c4, c2], n, rfl, upd_same, by show 2 ≤ 2000; decide, fun x hx => ?_, n1, n2, fun _ H6 s6 => ?_, fun y z hz => ?_⟩⟩
      · rcases List.mem_cons.mp hx with rfl | hx
        · exact hBb _ m4
        · rw [List.mem_singleton.mp hx]; exact hBb _ m2
      · have s56 := Same.trans (same_new hp5) s6
        refine ⟨rfl, ?_⟩
        exact q H6 (But.same b4 s56) (src4.same s56)
      · rw [n3] at hz; cases hz
end
end Two
end K14

namespace K14
open PySem PySem.Spec PyProof.Rows L2 TM TF GS
open Two (sp_l_no_triple ok_l_no_triple)
theorem SrcD.but {p t : Addr} {H H' : Hp} {a a0 : Nat} (b : But p H H') (src : SrcD H p a) (tp : t ≠ p) : SrcD H t a0 → SrcD H' t a0 := fun ⟨cl, l, rf, h1, h2, h3, h4⟩ => by
  obtain ⟨kvs, e⟩ := src.dict
  exact ⟨cl, l, rf, b _ _ tp h1, b _ _ (ne_of h2 e (fun z => nomatch z)) h2, h3, h4⟩
theorem SrcD.bt2 {C x d p : Addr} {H H' : Hp} {S : List Nat} {L a : Nat} (b : Bt2 x d H H') (go : GO H C x d S L) (pd : p ≠ d) : SrcD H p a → SrcD H' p a := fun ⟨cl, l, rf, h1, h2, h3, h4⟩ => by
  obtain ⟨ts, tm, ms, c, g, gm⟩ := go
  obtain ⟨dx, ea⟩ := gm.obj
  exact ⟨cl, l, rf, b _ _ (ne_of h1 ea (fun z => nomatch z)) pd h1, b _ _ (ne_of h2 ea (fun z => nomatch z)) (ne_of h2 gm.hd (fun z => nomatch z)) h2, h3, h4⟩
theorem But.bt2 {s x d : Addr} {H H1 H2 : Hp} (b : But s H H1) (hx : H x = none) (hd : H d = none) (b2 : Bt2 x d H1 H2) : But s H H2 := fun q o hq e => b2 q o (ne_of_none e hx) (ne_of_none e hd) (b q o hq e)
theorem none_back {H H' : Hp} (s : Same H H') {y : Addr} (h : H' y = none) : H y = none := by
  cases e : H y with
  | none => rfl
  | some o => rw [s _ _ e] at h; cases h
/-- all that a turn of the law keeps -/
structure Kp (C s x d t : Addr) (H1 H : Hp) (S : List Nat) (L a : Nat) : Prop where
  b : But s H1 H
  src : SrcD H s a
  go : GO H C x d S L
  et : H t = some (.tup (S.map vn))
  hx : H1 x = none
  hd : H1 d = none
  ds : d ≠ s
theorem Kp.but {C s x d t : Addr} {H1 H H' : Hp} {S : List Nat} {L a a' : Nat} (k : Kp C s x d t H1 H S L a) (b : But s H H') (src : SrcD H' s a') : Kp C s x d t H1 H' S L a' where
  b := But.trans k.b b
  src := src
  go := k.src.dict.elim fun kvs e => k.go.but b e k.ds
  et := k.src.dict.elim fun kvs e => b _ _ (ne_of k.et e (fun z => nomatch z)) k.et
  hx := k.hx
  hd := k.hd
  ds := k.ds
theorem Kp.tup {C s x d t : Addr} {H1 H H' : Hp} {S : List Nat} {L a : Nat} (k : Kp C s x d t H1 H S L a) (b : Bt2 x d H H') {u : Addr} {xs : List V} (e : H u = some (.tup xs)) : H' u = some (.tup xs) := by
  obtain ⟨ts, tm, ms, c, g, gm⟩ := id k.go
  obtain ⟨dx, ea⟩ := gm.obj
  exact b _ _ (ne_of e ea (fun z => nomatch z)) (ne_of e gm.hd (fun z => nomatch z)) e
theorem Kp.tupB {C s x d t : Addr} {H1 H H' : Hp} {S : List Nat} {L a : Nat} (k : Kp C s x d t H1 H S L a) (b : But s H H') {u : Addr} {xs : List V} (e : H u = some (.tup xs)) : H' u = some (.tup xs) := k.src.dict.elim fun kvs e2 => b _ _ (ne_of e e2 (fun z => nomatch z)) e
theorem Kp.same {C s x d t : Addr} {H1 H H' : Hp} {S : List Nat} {L a : Nat} (k : Kp C s x d t H1 H S L a) (e : Same H H') : Kp C s x d t H1 H' S L a := k.but (Same.but e) (k.src.same e)
theorem Kp.bt2 {C s x d t : Addr} {H1 H H' : Hp} {S : List Nat} {L a : Nat} (k : Kp C s x d t H1 H S L a) (b : Bt2 x d H H') (go : GO H' C x d S L) : Kp C s x d t H1 H' S L a where
  b := But.bt2 k.b k.hx k.hd b
  src := k.src.bt2 b k.go k.ds.symm
  go := go
  et := by
    obtain ⟨ts, tm, ms, c, g, gm⟩ := id k.go
    obtain ⟨dx, ea⟩ := gm.obj
    exact b _ _ (ne_of k.et ea (fun z => nomatch z)) (ne_of k.et gm.hd (fun z => nomatch z)) k.et
  hx := k.hx
  hd := k.hd
  ds := k.ds
/-- the first forty members of a sequence hold all below a number not far behind the start -/
theorem below_forty {S : List Nat} {L sp : Nat} (st : Start S L) (h40 : S.length ≤ 40) (hs : sp ≤ L + 1 ∨ sp ≤ (gl S L 2000).getD 39 0) : ∀ x ∈ gl S L 2000, x < sp → x ∈ (gl S L 2000).take 40 := by
  intro x hx hlt
  rcases hs with hs | hs
  · have hxs : x ∈ S := (gl_start st (t := 2000) (show x ≤ L by omega)).mp hx
    obtain ⟨r, hr⟩ : S <+: gl S L 2000 := gl_pre (S := S) (L := L) (t := 0) (u := 2000) (Nat.zero_le _)
    rw [← hr, List.take_append]
    exact List.mem_append_left _ (by rw [List.take_of_length_le h40]; exact hxs)
  · obtain ⟨j, hj, e⟩ := List.getElem_of_mem hx
    rcases Nat.lt_or_ge j 40 with z | z
    · exact List.mem_take_iff_getElem.mpr ⟨j, by omega, e⟩
    · have h39 : 39 < (gl S L 2000).length := by omega
      have := List.pairwise_iff_getElem.mp (gl_asc st 2000) 39 j h39 hj (by omega)
      rw [List.getD_eq_getElem?_getD, List.getElem?_eq_getElem h39, Option.getD_some] at hs
      omega
theorem eqv_nats : ∀ (a b : List Nat), PyData.eqv (.tuple (a.map fun n : Nat => PyData.int (n : Int))) (.tuple (b.map fun n : Nat => PyData.int (n : Int))) = decide (a = b) := by
  have key : ∀ (a b : List Nat), PyData.eqvAll (a.map fun n : Nat => PyData.int (n : Int)) (b.map fun n : Nat => PyData.int (n : Int)) = decide (a = b) := by
    intro a
    induction a with
    | nil => intro b; cases b <;> simp [PyData.eqvAll]
    | cons x r ih =>
      intro b
      cases b with
      | nil => simp [PyData.eqvAll]
      | cons y s =>
        rw [List.map_cons, List.map_cons, PyData.eqvAll, ih]
        by_cases h : x = y
        · subst h; simp [PyData.eqv]
        · have h1 : ((x : Int) == (y : Int)) = false := by simp; omega
          simp [PyData.eqv, h, h1]
  intro a b
  rw [PyData.eqv]
  exact key a b
theorem dp_tns {K : PySem.W.Frag} {H : Hp} {p : Addr} {l : List Nat} (h : H p = some (.tup (l.map vn))) : Dp K H (.ref p) (.tuple (l.map fun n : Nat => PyData.int (n : Int))) := by
  refine .tup (SqT.of h) ?_
  clear h
  induction l with
  | nil => exact .nil
  | cons x r ih => exact .cons (.int _) ih
theorem tns_shaped (l : List Nat) : SeqAt.shaped (.tuple (l.map fun n : Nat => PyData.int (n : Int))) = true := by
  have e : (l.map fun n : Nat => PyData.int (n : Int)) = (l.map fun n : Nat => (n : Int)).map PyData.int := by rw [List.map_map]; rfl
  rw [e]
  exact shaped_of (by simp only [PyData.canLay0]; exact ints_lay _) (by simp only [PyData.depth, ints_depth]; omega)
section
variable {P : Program} {w : World} {K : PySem.W.Frag} {mg : Str → Option Value} {base : Heap}
def sp_law (K : PySem.W.Frag) : Sp := fun vs H Q _ => ∃ (a : Addr) (ns : List Int), vs = [.ref a] ∧ SqL K H a (ns.map V.int) ∧ ns.length ≤ 63 ∧ ∀ H', Q (.bl true) H'
theorem ok_law (T : Txt K mg) : FnOk P w K mg base CX0 19 T.f_law T.fd_law ["script"] (sp_law K) := by
  have nd := sc_law.nd
  refine T.F_law.ok sc_law (fun vs H Q E h => ?_) (fun cdv A outer s H vs Q E hr h => ?_)
  · obtain ⟨a, ns, rfl, _⟩ := h
    rfl
  · obtain ⟨a, ns, rfl, hS, hlen, q⟩ := h
    refine ⟨_, (pss_cons (ps_for PassesOwn.never rfl (pi_list (pe_call (ok_l_sources T) (hr.mono (by decide)) rfl T.g_l_sources T.F_l_sources.kp T.b_l_sources .nil pass0 (pa_cons (pv 0) pa_nil))) (pg_name (i := 1) nd rfl (.inl rfl)) (pss_one (ps_for PassesOwn.never rfl (pi_range1 rfl T.m_range (pa_cons pe_int pa_nil)) (pg_name (i := 2) nd rfl (.inl rfl)) (pss_cons (ps_set (i := 3) nd rfl (.inl rfl) (pe_call (ok_l_start T) (hr.mono (by decide)) rfl T.g_l_start T.F_l_start.kp T.b_l_start .nil pass0 (pa_cons (pv 1) pa_nil)))
      (pss_cons (ps_par (i := 4) (j := 5) (by rfl) nd rfl rfl (by decide) rfl rfl (pa_cons (pe_make T.M_GreedySequence (ok_GreedySequence_init T) (hr.mono (by decide)) rfl T.g_GreedySequence T.b_GreedySequence_init .nil pass0 (pa_cons (pv 3) pa_nil)) (pa_cons (pe_op op_add (pe_ix (ix_tupK K) (pv 3) (pe_un un_neg pe_int) (fun _ _ => rfl)) pe_int) pa_nil)) (by rfl))
      (pss_cons (ps_for PassesOwn.never rfl (pi_tup (pe_tup (pa_cons pe_int (pa_cons pe_int (pa_cons pe_int pa_nil))))) (pg_name (i := 6) nd rfl (.inl rfl)) (pss_one (ps_if (pt_not (pt_val (pe_call (ok_l_set_right T) (hr.mono (by decide)) rfl T.g_l_set_right T.F_l_set_right.kp T.b_l_set_right .nil pass0 (pa_cons (pv 4) (pa_cons (pe_call (ok_l_drawn T) (hr.mono (by decide)) rfl T.g_l_drawn T.F_l_drawn.kp T.b_l_drawn .nil pass0 (pa_cons (pv 1) (pa_cons (pv 3) (pa_cons (pv 5) (pa_cons (pv 6) pa_nil))))) (pa_cons (pe_ix (ix_tupK K) (pv 3) (pe_un un_neg pe_int) (fun _ _ => rfl)) (pa_cons (pv 5) pa_nil))))))) (pss_one (ps_ret pe_bl)) pss_nil)))
      (pss_one (ps_for PassesOwn.never rfl (pi_range1 rfl T.m_range (pa_cons pe_int pa_nil)) (pg_name (i := 7) nd rfl (.inl rfl)) (pss_cons (ps_set (i := 8) nd rfl (.inl rfl) (pe_op op_add (pe_op op_add (pe_ix (ix_tupK K) (pv 3) (pe_un un_neg pe_int) (fun _ _ => rfl)) pe_int) (pe_call (ok_l_pick T) (hr.mono (by decide)) rfl T.g_l_pick T.F_l_pick.kp T.b_l_pick .nil pass0 (pa_cons (pv 1) (pa_cons (pe_callB (call_max2 rfl) (by rfl) T.m_max (by decide +kernel) (pa_cons pe_int (pa_cons (pe_op op_sub (pe_ix (ix_tupK K) (pe_prop (pv 4) T.c_GreedySequence T.po_GreedySequence_beginning (ok_GreedySequence_beginning T) (hr.mono (by decide)) T.b_GreedySequence_beginning .nil pass0 rfl) pe_int (fun _ _ => rfl)) (pe_ix (ix_tupK K) (pv 3) (pe_un un_neg pe_int) (fun _ _ => rfl))) pa_nil))) pa_nil)))))
      (pss_one (ps_if (PW.pt (pw_or (pt_not (pt_val (pe_call (ok_l_added_right T) (hr.mono (by decide)) rfl T.g_l_added_right T.F_l_added_right.kp T.b_l_added_right .nil pass0 (pa_cons (pv 4) (pa_cons (pv 8) pa_nil))))) (pw_or1 (pt_not (pt_val (pe_call (ok_l_no_triple T) (hr.mono (by decide)) rfl T.g_l_no_triple T.F_l_no_triple.kp T.b_l_no_triple .nil pass0 (pa_cons (pv 1) (pa_cons (pe_prop (pv 4) T.c_GreedySequence T.po_GreedySequence_beginning (ok_GreedySequence_beginning T) (hr.mono (by decide)) T.b_GreedySequence_beginning .nil pass0 rfl) pa_nil)))))))) (pss_one (ps_ret pe_bl)) pss_nil)))))))))))
      (pss_one (ps_ret (pe_and (pe_cmpR (op_eqK K hr.units) (pe_callR (ok_smallest_triple T) (hr.mono (by decide)) T.F_smallest_triple.kp rfl T.g_smallest_triple pass0 (pa_cons pe_int (pa_cons pe_int (pa_cons pe_int pa_nil)))) (pe_tup (pa_cons pe_int (pa_cons pe_int (pa_cons pe_int pa_nil)))) (nomark _)) (pe_one (pe_cmpR (op_eqK K hr.units) (pe_callR (ok_smallest_triple T) (hr.mono (by decide)) T.F_smallest_triple.kp rfl T.g_smallest_triple pass0 (pa_cons pe_int (pa_cons pe_int (pa_cons pe_int (pa_cons pe_int (pa_cons pe_int (pa_cons pe_int (pa_cons pe_int (pa_cons pe_int (pa_cons pe_int pa_nil)))))))))) (pe_tup (pa_cons pe_int (pa_cons pe_int (pa_cons pe_int pa_nil)))) (nomark _))))))), ?_⟩
    refine ⟨_, rfl, a, ns, rfl, hS, hlen, fun H0 p ts e0 tsl tsn src0 => ?_⟩
    refine ⟨p, rfl, ⟨_, SqL.of e0⟩, ?_⟩
    refine for_it (walk_list (xs := ts.map V.ref)) (fun i σ H' => ∃ y1 y2 y3 y4 y5 y6 y7 y8 : Option V, σ = [some (.ref a), y1, y2, y3, y4, y5, y6, y7, y8] ∧ H' p = some (.lst (ts.map V.ref)) ∧ ∀ j t, i ≤ j → ts[j]? = some t → ∃ a0, a0 ≤ 1000 ∧ SrcD H' t a0)
      ⟨none, none, none, none, none, none, none, none, rfl, e0, fun j t _ ht => src0 t (List.mem_of_getElem? ht)⟩ (fun i σ H' _ ⟨_, _, _, _, _, _, _, _, _, e, _⟩ => SqL.of e) ?_ ?_
    · rintro i v σ H1 H1' hi ⟨y1, y2, y3, y4, y5, y6, y7, y8, rfl, e1, src1⟩ ⟨rfl, hv⟩
      obtain ⟨s, hs, rfl⟩ : ∃ s, ts[i]? = some s ∧ v = .ref s := by
        rw [List.getElem?_map] at hv
        cases e : ts[i]? with
        | none => rw [e] at hv; cases hv
        | some s => rw [e] at hv; cases hv; exact ⟨s, rfl, rfl⟩
      obtain ⟨a1, ha1, sd1⟩ := src1 i s (Nat.le_refl _) hs
      refine ⟨2, rfl, by decide, by decide, ?_⟩
      refine for_it (walk_range (lo := 0) (n := ((2 : Int)).toNat)) (fun j σ H' => ∃ (ai : Nat) (y2 y3 y4 y5 y6 y7 y8 : Option V), σ = [some (.ref a), some (.ref s), y2, y3, y4, y5, y6, y7, y8] ∧ But s H1' H' ∧ SrcD H' s ai ∧ ai ≤ 1000 + 2000 * j)
        ⟨a1, y2, y3, y4, y5, y6, y7, y8, rfl, fun _ _ _ h => h, sd1, by omega⟩ (fun _ _ _ _ _ => trivial) ?_ ?_
      · rintro j v σ H2 H2' hj ⟨a2, z2, z3, z4, z5, z6, z7, z8, rfl, b2, sd2, ha2⟩ ⟨rfl, rfl⟩
        have hj2 : j < 2 := hj
        show gName 2 (V.int (0 + (j : Int))) _ _ _
        refine ⟨_, rfl, s, a2, rfl, sd2, by omega, fun H3 t S L a3 b3 sd3 ha3 et st h40 hL => ?_⟩
        have h0 := st.pos
        have elast : atI (S.map vn) (-1) = some (vn L) := by rw [at_last h0, st.getLast]
        refine ⟨_, rfl, fun x dx hx hdx hdne => ⟨x, dx, t, S, L, rfl, upd_same, .inl ?_, st, h40, hL, fun H4 d b4 hd4 go4 => ⟨rfl, ?_⟩⟩⟩
        · exact Same.mut (same_new hdx) hx _ _ et
        have s34 : Same H3 H4 := fun q o e => b4 q o (ne_of_none e hx) (Same.mut (same_new hdx) hx _ _ e)
        have b03 := But.trans b2 b3
        have new : ∀ y, H3 y = none → H2' y = none ∧ y ≠ s := fun y hy => by
          obtain ⟨kvs, e3⟩ := sd3.dict
          have ys : y ≠ s := fun z => by rw [z, e3] at hy; cases hy
          refine ⟨?_, ys⟩
          cases e : H2' y with
          | none => rfl
          | some o => rw [b3 y o ys e] at hy; cases hy
        have kp : Kp T.C_GreedySequence s x d t H2' H4 S L a3 := {
          b := But.same b3 s34
          src := sd3.same s34
          go := go4
          et := s34 _ _ et
          hx := (new x hx).1
          hd := (new d (none_back (Same.mut (same_new hdx) hx) hd4)).1
          ds := (new d (none_back (Same.mut (same_new hdx) hx) hd4)).2 }
        refine ⟨_, rfl, _, rfl, t, _, _, _, rfl, rfl, SqT.of kp.et, elast, _, _, rfl, rfl, _, _, rfl, ?_⟩
        refine ⟨(by show 3 ≤ sizeLine; decide), fun t2 ht2 => ⟨t2, rfl, ⟨_, SqT.of upd_same⟩, ?_⟩⟩
        have kp5 := kp.same (same_new (o := .tup [.int 3, .int 7, .int 10]) ht2)
        have et5 : upd H4 t2 (.tup [.int 3, .int 7, .int 10]) t2 = some (.tup [.int 3, .int 7, .int 10]) := upd_same
        generalize upd H4 t2 (.tup [.int 3, .int 7, .int 10]) = H5 at kp5 et5 ⊢
        refine for_it (walk_tup (xs := [.int 3, .int 7, .int 10])) (fun k σ H' => ∃ (ai : Nat) (y6 : Option V), σ = [some (.ref a), some (.ref s), some (V.int (0 + (j : Int))), some (.ref t), some (.ref x), some (vn (L + 150)), y6, z7, z8] ∧ Kp T.C_GreedySequence s x d t H2' H' S L ai ∧ ai ≤ a3 + 200 * k ∧ H' t2 = some (.tup [.int 3, .int 7, .int 10]))
          ⟨a3, z6, rfl, kp5, by omega, et5⟩ (fun k σ H' _ ⟨_, _, _, _, _, e⟩ => SqT.of e) ?_ ?_
        · rintro k v σ H6 H6' hk ⟨a6, y6, rfl, kp6, ha6, et6⟩ ⟨rfl, hv⟩
          obtain ⟨sh, rfl⟩ : ∃ sh : Nat, v = vn sh := by
            rcases k with _ | _ | _ | k
            · cases hv; exact ⟨3, rfl⟩
            · cases hv; exact ⟨7, rfl⟩
            · cases hv; exact ⟨10, rfl⟩
            · cases hv
          have hk3 : k < 3 := hk
          refine ⟨_, rfl, _, rfl, _, rfl, _, rfl, _, rfl, s, t, a6, S, L, sh, rfl, kp6.src, by omega, kp6.et, st, h40, hL, fun H7 pd pls a7 b7 sd7 ha7 hpd epd hpa hpF hpl hpst hple => ?_⟩
          have kp7 := kp6.but b7 sd7
          have et7 := kp6.tupB b7 et6
          refine ⟨_, rfl, _, rfl, t, _, _, _, rfl, rfl, SqT.of kp7.et, elast, _, rfl, x, d, pd, S, pls, L, rfl, kp7.go, epd, ?_, hpF, hpst, fun H8 b8 go8 => ?_⟩
          · obtain ⟨ts6, tm6, ms6, c6, g6, gm6⟩ := kp6.go
            exact fun z => by rw [z, gm6.hd] at hpd; cases hpd
          exact ⟨_, rfl, iteF ⟨a7, _, rfl, kp7.bt2 b8 go8, by omega, kp7.tup b8 et7⟩⟩
        · rintro σ H6 ⟨a6, y6, rfl, kp6, ha6, et6⟩
          have ha6' : a6 ≤ a3 + 600 := ha6
          refine ⟨3, rfl, by decide, by decide, ?_⟩
          refine for_it (walk_range (lo := 0) (n := ((3 : Int)).toNat)) (fun k σ H' => ∃ (ai : Nat) (y7 y8 : Option V), σ = [some (.ref a), some (.ref s), some (V.int (0 + (j : Int))), some (.ref t), some (.ref x), some (vn (L + 150)), y6, y7, y8] ∧ Kp T.C_GreedySequence s x d t H2' H' S L ai ∧ ai ≤ a3 + 600 + 6 * k)
            ⟨a6, z7, z8, rfl, kp6, ha6'⟩ (fun _ _ _ _ _ => trivial) ?_ ?_
          · rintro k v σ H7 H7' hk ⟨a7, y7, y8, rfl, kp7, ha7⟩ ⟨rfl, rfl⟩
            have hk3 : k < 3 := hk
            obtain ⟨ts7, tm7, ms7, c7, g7, gm7⟩ := id kp7.go
            obtain ⟨dx7, ea7⟩ := gm7.obj
            have h40g := gl_forty st
            have hget : (gl S L 2000)[39]? = some ((gl S L 2000).getD 39 0) := by
              rw [List.getD_eq_getElem?_getD, List.getElem?_eq_getElem (show 39 < (gl S L 2000).length by omega), Option.getD_some]
            have hgle : (gl S L 2000).getD 39 0 ≤ L + 2000 := gl_le st.le 2000 _ (List.mem_of_getElem? hget)
            generalize hg39 : (gl S L 2000).getD 39 0 = g39 at hget hgle
            obtain ⟨c, hc, hc0, hc2, hc3⟩ : ∃ c : Nat, (if (g39 : Int) - (L : Int) > 1 then (g39 : Int) - (L : Int) else 1 : Int) = (c : Int) ∧ 0 < c ∧ c ≤ 2000 ∧ (L + c ≤ L + 1 ∨ L + c ≤ g39) := by
              by_cases z : (g39 : Int) - (L : Int) > 1
              · rw [if_pos z]
                exact ⟨g39 - L, by omega, by omega, by omega, .inr (by omega)⟩
              · rw [if_neg z]
                exact ⟨1, rfl, by decide, by decide, .inl (by omega)⟩
            refine ⟨_, rfl, _, rfl, t, _, _, _, rfl, rfl, SqT.of kp7.et, elast, _, _, rfl, rfl, ?_⟩
            refine ⟨_, rfl, _, rfl, x, dx7, _, rfl, ea7, x, d, S, L, rfl, kp7.go, fun H8 tb s8 eb => ?_⟩
            have kp8 := kp7.same s8
            refine ⟨tb, _, _, _, rfl, rfl, SqT.of eb, atI_nat (j := 39) (by rw [List.getElem?_map, List.getElem?_take_of_lt (by decide), hget]; rfl), _, rfl, _, rfl, t, _, _, _, rfl, rfl, SqT.of kp8.et, elast, _, _, rfl, rfl, _, _, rfl, ?_⟩
            refine ⟨s, c, a7, congrArg (fun z => [V.ref s, V.int z]) hc, hc0, Nat.lt_of_le_of_lt hc2 (by decide), kp8.src, by omega, fun H9 r hr9 b9 src9 => ?_⟩
            have kp9 := kp8.but b9 src9
            refine ⟨_, _, rfl, rfl, ?_⟩
            show gName 8 (vn (L + 1 + r)) _ _ _
            refine ⟨_, rfl, _, rfl, x, d, S, L, L + 1 + r, rfl, kp9.go, by omega, by omega, below_forty st h40 (by rw [hg39]; omega), fun H10 b10 go10 => ⟨_, rfl, iteF ?_⟩⟩
            have kp10 := kp9.bt2 b10 go10
            obtain ⟨ts10, tm10, ms10, c10, g10, gm10⟩ := id kp10.go
            obtain ⟨dx10, ea10⟩ := gm10.obj
            refine ⟨_, rfl, _, rfl, x, dx10, _, rfl, ea10, x, d, S, L, rfl, kp10.go, fun H11 tc s11 ec => ?_⟩
            have kp11 := kp10.same s11
            refine ⟨s, tc, a7 + 1, (gl S L 2000).take 40, rfl, kp11.src, by omega, ec, ?_, List.length_take_le .., (gl_asc st 2000).sublist (List.take_sublist ..), fun u hu cv => gl_free st 2000 u (List.mem_of_mem_take hu) (cv.mono fun y hy => List.mem_of_mem_take hy), fun u hu => Nat.lt_of_le_of_lt (gl_le st.le 2000 u (List.mem_of_mem_take hu)) (by omega), fun H12 b12 src12 => ⟨_, rfl, iteF ⟨a7 + 1 + 5, _, _, rfl, kp11.but b12 src12, by omega⟩⟩⟩
            rw [List.length_take]
            omega
          · rintro σ H7 ⟨a7, y7, y8, rfl, kp7, ha7⟩
            have ha7' : a7 ≤ a3 + 600 + 6 * 3 := ha7
            exact ⟨a7, _, _, _, _, _, _, _, rfl, But.trans b2 kp7.b, kp7.src, by omega⟩
      · rintro σ H2 ⟨a2, z2, z3, z4, z5, z6, z7, z8, rfl, b2, sd2, ha2⟩
        have sp_ : p ≠ s := fun z => by
          obtain ⟨kvs, e⟩ := sd1.dict
          rw [← z, e1] at e
          cases e
        refine ⟨_, _, _, _, _, _, _, _, rfl, b2 _ _ sp_ e1, fun k t hk ht => ?_⟩
        obtain ⟨a0, h1, h2⟩ := src1 k t (by omega) ht
        refine ⟨a0, h1, SrcD.but b2 sd1 (fun z => ?_) h2⟩
        subst z
        obtain ⟨hk1, e1⟩ := List.getElem?_eq_some_iff.mp ht
        obtain ⟨hi1, e2⟩ := List.getElem?_eq_some_iff.mp hs
        have := (List.getElem_inj tsn).mp (e1.trans e2.symm)
        omega
    · rintro σ H1 ⟨y1, y2, y3, y4, y5, y6, y7, y8, rfl, e1, src1⟩
      have h1 : trp [1, 5, 9] [1, 5, 9] = some (1, 5) := by decide
      have h2 : trp [0, 4, 8, 9, 12, 20, 30, 40, 50] [0, 4, 8, 9, 12, 20, 30, 40, 50] = some (0, 4) := by decide
      refine ⟨(by show 3 ≤ sizeLine; decide), fun p1 hp1 => ⟨p1, [9, 5, 1], [1, 5, 9], rfl, upd_same, by decide, by decide, by decide, fun x => by simp only [List.mem_cons, List.not_mem_nil, or_false]; omega, ⟨fun h => (by rw [h1] at h; cases h), fun y z h H4 t4 s4 e4 => ?_⟩⟩⟩
      rw [h1] at h
      cases h
      have e4' : H4 t4 = some (.tup ([1, 5, 9].map vn)) := e4
      refine ⟨(by show 3 ≤ sizeLine; decide), fun p5 hp5 => ⟨_, _, dp_tns (same_new hp5 _ _ e4'), dp_tns (l := [1, 5, 9]) upd_same, tns_shaped _, tns_shaped _, ?_⟩⟩
      rw [eqv_nats, decide_eq_true rfl]
      refine ⟨_, rfl, iteT ?_⟩
      refine ⟨(by show 9 ≤ sizeLine; decide), fun p6 hp6 => ⟨p6, [20, 9, 30, 12, 40, 0, 50, 4, 8], [0, 4, 8, 9, 12, 20, 30, 40, 50], rfl, upd_same, by decide, by decide, by decide, fun x => by simp only [List.mem_cons, List.not_mem_nil, or_false]; omega, ⟨fun h => (by rw [h2] at h; cases h), fun y z h H7 t7 s7 e7 => ?_⟩⟩⟩
      rw [h2] at h
      cases h
      have e7' : H7 t7 = some (.tup ([0, 4, 8].map vn)) := e7
      refine ⟨(by show 3 ≤ sizeLine; decide), fun p8 hp8 => ⟨_, _, dp_tns (same_new hp8 _ _ e7'), dp_tns (l := [0, 4, 8]) upd_same, tns_shaped _, tns_shaped _, ?_⟩⟩
      rw [eqv_nats, decide_eq_true rfl]
      exact q _
end
end K14

/-! own head: the facts of a program's names, told by one run of its top -/
namespace HX
open PySem PySem.W PySem.Calls PyProof.Rows He L2
section
variable {K : Frag} {C D : Addr}
/-- the def that a property asks -/
def gt (K : Frag) (C : Addr) (x : PySem.Str) : Addr := match recIn K (ma K C x) "property" with
  | some (.ref g :: _) => g
  | _ => 0
def propB (K : Frag) (C : Addr) (x : PySem.Str) : Bool :=
  eqO (findIn K (.ref C) x) (some (some (.ref (ma K C x)))) && (eqO (specialIn K (.ref (ma K C x)) "__get__") (some (some (.builtin "property.__get__"))) &&
    (decide (takesIn K (.ref (ma K C x)) = some true) && (match recIn K (ma K C x) "property" with
      | some (.ref _ :: _) => true
      | _ => false)))
theorem propB_ok {x : PySem.Str} (h : propB K C x = true) : PropOf K C x (ma K C x) (gt K C x) := by
  obtain ⟨h1, h⟩ := ba h
  obtain ⟨h2, h⟩ := ba h
  obtain ⟨h3, h4⟩ := ba h
  refine ⟨eqO_ok h1, eqO_ok h2, of_decide_eq_true h3, ?_⟩
  unfold gt
  split at h4
  · rename_i g r e
    exact ⟨r, by rw [e]⟩
  · cases h4
/-- a class's constant -/
def constB (K : Frag) (C : Addr) (x : PySem.Str) (i : Int) : Bool := match findCls K (.ref C) (.type "type") x with
  | some (.val (.int j _)) => decide (j = i)
  | _ => false
theorem constB_ok {x : PySem.Str} {i : Int} (h : constB K C x i = true) : ∃ u, ClX.CVal K C (.type "type") x (.int i) u := by
  unfold constB at h
  split at h
  · rename_i j t e
    obtain rfl := of_decide_eq_true h
    exact ⟨_, e, ⟨t, rfl⟩⟩
  · cases h
def readB (K : Frag) (C : Addr) : Bool := readsIn K C (.type "type") && eqO (specialIn K (.ref C) "__getattribute__") (some (some (.builtin "type.__getattribute__")))
theorem readB_ok (h : readB K C = true) : ClX.CRead K C (.type "type") := by
  obtain ⟨h1, h2⟩ := ba h
  exact ⟨h1, eqO_ok h2⟩
/-- a class method -/
def cmB (K : Frag) (C : Addr) (m : PySem.Str) : Bool := He5.wrapB K C "classmethod" "classmethod.__get__" m && fnIn K (He5.wf K C "classmethod" m)
theorem cmB_ok {m : PySem.Str} (h : cmB K C m = true) : ClX.CMet K C (.type "type") m (ma K C m) (He5.wf K C "classmethod" m) := by
  obtain ⟨h1, h2⟩ := ba h
  exact He5.cmet_of h1 h2
/-- what isinstance asks of a class -/
def isiB (K : Frag) (C : Addr) : Bool := eqO (findIn K (.ref C) "__class__") (some (some (.builtin "object.__class__"))) && (eqO (specialIn K (.builtin "object.__class__") "__get__") (some (some (.builtin "getset_descriptor.__get__"))) &&
  (decide (takesIn K (.builtin "object.__class__") = some true) && decide (mroIn K C (.type "object") = some true)))
theorem isiB_ok (h : isiB K C = true) : findIn K (.ref C) "__class__" = some (some (.builtin "object.__class__")) ∧ specialIn K (.builtin "object.__class__") "__get__" = some (some (.builtin "getset_descriptor.__get__")) ∧
    takesIn K (.builtin "object.__class__") = some true ∧ mroIn K C (.type "object") = some true := by
  obtain ⟨h1, h⟩ := ba h
  obtain ⟨h2, h⟩ := ba h
  obtain ⟨h3, h4⟩ := ba h
  exact ⟨eqO_ok h1, eqO_ok h2, of_decide_eq_true h3, of_decide_eq_true h4⟩
/-- an own == -/
def eqB (K : Frag) (C : Addr) : Bool := eqO (findIn K (.ref C) "__eq__") (some (some (.ref (ma K C "__eq__")))) && (isFn K (.ref (ma K C "__eq__")) && eqO (findIn K (.ref C) "__ne__") (some (some (.builtin "object.__ne__"))))
theorem eqB_ok (h : eqB K C = true) : findIn K (.ref C) "__eq__" = some (some (.ref (ma K C "__eq__"))) ∧ isFn K (.ref (ma K C "__eq__")) = true ∧ findIn K (.ref C) "__ne__" = some (some (.builtin "object.__ne__")) := by
  obtain ⟨h1, h⟩ := ba h
  obtain ⟨h2, h3⟩ := ba h
  exact ⟨eqO_ok h1, h2, eqO_ok h3⟩
/-- C below D or not -/
def subB (K : Frag) (C D : Addr) (v : Bool) : Bool := decide (mroIn K C (.ref D) = some v) && (isClsIn K D && decide (typeIn K (.ref D) = some (.type "type")))
theorem subB_ok {v : Bool} (h : subB K C D v = true) : mroIn K C (.ref D) = some v ∧ isClsIn K D = true ∧ typeIn K (.ref D) = some (.type "type") := by
  obtain ⟨h1, h⟩ := ba h
  obtain ⟨h2, h3⟩ := ba h
  exact ⟨of_decide_eq_true h1, h2, of_decide_eq_true h3⟩
/-- a method that is there -/
def mthB (K : Frag) (C : Addr) (m : PySem.Str) : Bool := eqO (findIn K (.ref C) m) (some (some (.ref (ma K C m)))) && (isFn K (.ref (ma K C m)) && keepIn K (.ref (ma K C m)))
theorem mthB_ok {m : PySem.Str} (h : mthB K C m = true) : Meth K C m (ma K C m) := by
  obtain ⟨h1, h⟩ := ba h
  obtain ⟨h2, h3⟩ := ba h
  exact ⟨eqO_ok h1, h2, h3⟩
/-- a written tuple of texts -/
def strsB (K : Frag) (x : PySem.Str) (ss : List PySem.Str) : Bool := match K.lookup (ga K x) with
  | some ⟨.type c, _, .seq its _, _⟩ => decide (c = "tuple") && KTD.strsLook its.toList ss
  | _ => false
theorem strsB_ok {x : PySem.Str} {ss : List PySem.Str} (h : strsB K x ss = true) (hz : ss.length ≤ 1000) (H : Hp) : SqT K H (ga K x) (ss.map V.str) := by
  unfold strsB at h
  split at h
  · rename_i c od its n sl e
    obtain ⟨h1, h2⟩ := ba h
    obtain rfl := of_decide_eq_true h1
    exact tup_written e h2 hz H
  · cases h
end
/-- the interpreter's limit on digits stands -/
def digB (K : Frag) : Bool := match K.lookup cStatics with
  | some ⟨_, _, .dict es _, _⟩ => es.all (fun e => match e.key with
    | .str _ _ => true
    | _ => false) && (nsFind es "sys.int_max_str_digits").isNone
  | _ => false
theorem digB_ok {K : Frag} {h : Heap} (X : K.In h) (d : digB K = true) : h.NoDigits := by
  unfold digB at d
  split at d
  · rename_i oc od es ep sl e
    obtain ⟨h1, h2⟩ := ba d
    have hg := X _ _ e
    refine ⟨h.nsMap cStatics, Heap.Ns.of_isNs ?_, ?_⟩
    · unfold Heap.isNs
      rw [hg]
      exact h1
    · unfold Heap.nsMap
      rw [hg]
      exact Option.isNone_iff_eq_none.mp h2
  · cases d
/-! ### the hook -/
def obsB (fs : List (Frag → Bool)) (fn : List He5.DefA) (K : Frag) : AlD := ((fs.all fun t => t K) && fn.all (He5.DefA.ok K), fn.map fun t => He5.fnA K (t.at_ K))
def Told (fs : List (Frag → Bool)) (fn : List He5.DefA) (K : Frag) : Prop := obsB fs fn K = (true, fn.map He5.DefA.val)
/-! ### what is looked at is reckoned first, part by part -/
abbrev fN {α : Type} (n : Nat) (k : Nat → α) : α := HandSHeadRun.frNat n k
def fV {α : Type} (v : Value) (k : Value → α) : α := match v with
  | .ref a => fN a fun a => k (.ref a)
  | v => k v
theorem fN_eq {α : Type} (n : Nat) (k : Nat → α) : fN n k = k n := HandSHeadRun.frNat_eq n k
theorem fV_eq {α : Type} (v : Value) (k : Value → α) : fV v k = k v := by
  cases v <;> simp only [fV, fN_eq]
def fVs {α : Type} : List Value → (List Value → α) → α
  | [], k => k []
  | v :: r, k => fV v fun v => fVs r fun r => k (v :: r)
theorem fVs_eq {α : Type} : ∀ (l : List Value) (k : List Value → α), fVs l k = k l
  | [], _ => rfl
  | v :: r, k => by
    show fV v (fun v => fVs r fun r => k (v :: r)) = _
    rw [fV_eq, fVs_eq r]
def fNs {α : Type} : List Addr → (List Addr → α) → α
  | [], k => k []
  | a :: r, k => fN a fun a => fNs r fun r => k (a :: r)
theorem fNs_eq {α : Type} : ∀ (l : List Addr) (k : List Addr → α), fNs l k = k l
  | [], _ => rfl
  | a :: r, k => by
    show fN a (fun a => fNs r fun r => k (a :: r)) = _
    rw [show fN a (fun a => fNs r fun r => k (a :: r)) = fNs r fun r => k (a :: r) from HandSHeadRun.frNat_eq _ _, fNs_eq r]
def fE {α : Type} (e : DictEntry) (k : DictEntry → α) : α := match e with
  | ⟨x, y, z⟩ => fV z fun z => k ⟨x, y, z⟩
theorem fE_eq {α : Type} (e : DictEntry) (k : DictEntry → α) : fE e k = k e := by
  cases e
  simp only [fE, fV_eq]
def fEs {α : Type} : List DictEntry → (List DictEntry → α) → α
  | [], k => k []
  | e :: r, k => fE e fun e => fEs r fun r => k (e :: r)
theorem fEs_eq {α : Type} : ∀ (l : List DictEntry) (k : List DictEntry → α), fEs l k = k l
  | [], _ => rfl
  | e :: r, k => by
    show fE e (fun e => fEs r fun r => k (e :: r)) = _
    rw [fE_eq, fEs_eq r]
def fD {α : Type} (d : Data) (k : Data → α) : α := match d with
  | .seq ⟨l⟩ n => fVs l fun l => k (.seq ⟨l⟩ n)
  | .dict ⟨l⟩ n => fEs l fun l => k (.dict ⟨l⟩ n)
  | .fields ⟨l⟩ => fVs l fun l => k (.fields ⟨l⟩)
  | .func ⟨a1, a2, a3, a4, a5, a6, a7, a8, a9, a10, a11, a12, a13, a14, a15⟩ => fV a8 fun a8 => fV a9 fun a9 => fV a13 fun a13 => fN a6 fun a6 => fN a15 fun a15 => k (.func ⟨a1, a2, a3, a4, a5, a6, a7, a8, a9, a10, a11, a12, a13, a14, a15⟩)
  | .cls ⟨a1, a2, a3, a4, a5, a6, a7, a8, a9, a10, a11⟩ => fVs a2 fun a2 => fVs a3 fun a3 => fN a4 fun a4 => k (.cls ⟨a1, a2, a3, a4, a5, a6, a7, a8, a9, a10, a11⟩)
  | d => k d
theorem fD_eq {α : Type} (d : Data) (k : Data → α) : fD d k = k d := by
  cases d with
  | seq its n => cases its; simp only [fD, fVs_eq]
  | dict es n => cases es; simp only [fD, fEs_eq]
  | fields vs => cases vs; simp only [fD, fVs_eq]
  | func f => cases f; simp only [fD, fV_eq, fN_eq]
  | cls c => cases c; simp only [fD, fVs_eq, fN_eq]
  | _ => simp only [fD]
def fO {α : Type} (o : Obj) (k : Obj → α) : α := match o with
  | ⟨c, some d, b, s⟩ => fV c fun c => fN d fun d => fD b fun b => k ⟨c, some d, b, s⟩
  | ⟨c, none, b, s⟩ => fV c fun c => fD b fun b => k ⟨c, none, b, s⟩
theorem fO_eq {α : Type} (o : Obj) (k : Obj → α) : fO o k = k o := by
  obtain ⟨c, d, b, s⟩ := o
  cases d <;> simp only [fO, fV_eq, fN_eq, fD_eq]
def fG {α : Type} (g : Addr → Option Obj) : List Addr → (Frag → α) → α
  | [], k => k []
  | a :: r, k => match g a with
    | some o => fO o fun o => fG g r fun K => k ((a, o) :: K)
    | none => fG g r k
theorem fG_eq {α : Type} (g : Addr → Option Obj) : ∀ (l : List Addr) (k : Frag → α), fG g l k = k (frG g l)
  | [], _ => rfl
  | a :: r, k => by
    unfold frG
    rw [List.filterMap_cons]
    unfold fG
    cases e : g a with
    | none => exact fG_eq g r k
    | some o =>
      show fO o (fun o => fG g r fun K => k ((a, o) :: K)) = _
      rw [fO_eq, fG_eq g r]
      rfl
/-- what an object names: a table's values, a def's code and defaults, a class's table and line, a property's defs -/
def refX (o : Obj) : List Addr := match o.data with
  | .dict es _ => es.toList.flatMap fun e => refV e.val
  | .func fd => refV fd.code ++ (refV fd.defaults ++ refV fd.kwdefaults)
  | .cls cd => cd.ns :: cd.mro.flatMap refV
  | .fields vs => (match o.cls with
    | .type c => (match decide (c = "code") with
      | true => []
      | false => vs.toList.flatMap refV)
    | _ => [])
  | _ => []
def seen (m a : Nat) : Bool := Nat.beq (Nat.land (Nat.shiftRight m a) 1) 1
def goX {α : Type} (g : Addr → Option Obj) : Nat → List Addr → Nat → (Frag → α) → α
  | 0, _, _, k => k []
  | n + 1, todo, m, k => match todo with
    | [] => k []
    | a :: r => match seen m a with
      | true => goX g n r m k
      | false => fN (Nat.lor m (Nat.shiftLeft 1 a)) fun m => match g a with
        | none => goX g n r m k
        | some o => fO o fun o => fNs (refX o) fun l => goX g n (l ++ r) m fun K => k ((a, o) :: K)
theorem goX_ex (g : Addr → Option Obj) : ∀ (n : Nat) (todo : List Addr) (m : Nat), ∃ as, ∀ (α : Type) (k : Frag → α), goX g n todo m k = k (frG g as)
  | 0, _, _ => ⟨[], fun _ _ => rfl⟩
  | n + 1, [], _ => ⟨[], fun _ _ => rfl⟩
  | n + 1, a :: r, m => by
    cases e : seen m a with
    | true =>
      obtain ⟨x, h⟩ := goX_ex g n r m
      refine ⟨x, fun α k => ?_⟩
      simp only [goX, e]
      exact h α k
    | false =>
      cases e2 : g a with
      | none =>
        obtain ⟨x, h⟩ := goX_ex g n r (Nat.lor m (Nat.shiftLeft 1 a))
        refine ⟨x, fun α k => ?_⟩
        simp only [goX, e, e2, fN_eq]
        exact h α k
      | some o =>
        obtain ⟨x, h⟩ := goX_ex g n (refX o ++ r) (Nat.lor m (Nat.shiftLeft 1 a))
        refine ⟨a :: x, fun α k => ?_⟩
        simp only [goX, e, e2, fN_eq, fO_eq, fNs_eq]
        rw [h]
        unfold frG
        rw [List.filterMap_cons, e2]
        rfl
def lookB (n : Nat) (fs : List (Frag → Bool)) (fn : List He5.DefA) (g : Addr → Option Obj) : AlD :=
  goX g n [mainGlobals] (Nat.shiftLeft 1 cStatics) fun K => fG g [cStatics] fun S => obsB fs fn (K ++ S)
theorem lookB_ex (n : Nat) (fs : List (Frag → Bool)) (fn : List He5.DefA) (g : Addr → Option Obj) : ∃ as, lookB n fs fn g = obsB fs fn (frG g as) := by
  obtain ⟨x, h⟩ := goX_ex g n [mainGlobals] (Nat.shiftLeft 1 cStatics)
  refine ⟨x ++ [cStatics], ?_⟩
  unfold lookB
  rw [h, fG_eq]
  unfold frG
  rw [List.filterMap_append]
def hookB (n : Nat) (fs : List (Frag → Bool)) (fn : List He5.DefA) : Hook where
  α := AlD
  obs := fun s => lookB n fs fn s.heap.get?
  val := fun _ => (true, fn.map He5.DefA.val)
  says := fun _ h => ∃ K : Frag, K.In h ∧ Told fs fn K
  of := fun _ s e => by
    obtain ⟨as, h⟩ := lookB_ex n fs fn s.heap.get?
    exact ⟨_, frG_in, h.symm.trans e⟩
  keeps := fun _ _ _ ⟨K, z, c⟩ k => ⟨K, Frag.In.keeps z k, c⟩
theorem lookB_eq {n : Nat} {fs : List (Frag → Bool)} {fn : List He5.DefA} {g : Addr → Option Obj} {s : Shared} (h : ∀ a, g a = s.heap.get? a) : lookB n fs fn g = (hookB n fs fn).obs s := by
  rw [show g = s.heap.get? from funext h] <;> rfl
section
variable {fs : List (Frag → Bool)} {fn : List He5.DefA} {K : Frag}
theorem Told.fact (c : Told fs fn K) (i : Nat) {t : Frag → Bool} (h : fs[i]? = some t := by rfl) : t K = true := by
  have e := congrArg (fun z : AlD => z.1) c
  have e1 := (ba (show ((fs.all fun t => t K) && fn.all (He5.DefA.ok K)) = true from e)).1
  exact List.all_eq_true.mp e1 t (List.mem_of_getElem? h)
theorem Told.fn_ (c : Told fs fn K) (i : Nat) {t : He5.DefA} (h : fn[i]? = some t := by rfl) : ∃ fd, FunD K t.name t.qual t.params t.body t.scope (t.dvs K) (t.kws K) (t.at_ K) fd := by
  have e := congrArg (fun z : AlD => z.1) c
  have e1 := (ba (show ((fs.all fun t => t K) && fn.all (He5.DefA.ok K)) = true from e)).2
  have e2 : (fn.map fun t => He5.fnA K (t.at_ K))[i]? = (fn.map He5.DefA.val)[i]? := congrArg (fun z : AlD => z.2[i]?) c
  rw [List.getElem?_map, List.getElem?_map, h] at e2
  exact He5.DefA.funD (Option.some.inj e2) (List.all_eq_true.mp e1 t (List.mem_of_getElem? h))
end
/-- the end of a law over such a head -/
theorem walk_told {l : OpenLaw} {n k : Nat} {q : Program} {loose : List PySem.Str} {XP : (PySem.Str → Option Value) → Heap → Prop} {YP : World → Heap → Prop} {d : DefRec} {x : PySem.Str}
    (hn : l.most = some n) (hn2 : n ≤ sizeLine) (hdf : d.params.defaults = []) (hr : Room k callerA)
    (F : ∀ (w : World) (mg : PySem.Str → Option Value) (fa : Addr) (h : Heap), YP w h → h.Ns mainGlobals mg → mg d.name = some (.ref fa) →
      ∃ (K : Frag) (fd : FuncData) (sp : Sp), K.In h ∧ (∀ (s : Shared) (u : Value), BindsTo s fd ⟨[u], []⟩ [(x, u)]) ∧
        (∀ (H : Hp) (a : Addr) (ns : List Int), ns.length ≤ n → Only H → SqL K H a (ns.map V.int) → sp [.ref a] H (fun v _ => v = .bl true) fun _ _ _ => False) ∧
        ∀ base : Heap, K.In base → base.Ns mainGlobals mg → TF.GOk l.prog w K mg base k fa fd [x] sp) :
    WalkO q loose XP YP l.row.toRowW d [] (fun f vs => PySem.call f vs) := by
  refine Att.attach_call hn hdf fun w s₀ s₁ mg mb fa o pm cd doc a vs ns G Y ho hd hcd hmg hobj hints hlen hg => ?_
  obtain ⟨K, fd, sp, KX, hb, hsp, hF⟩ := F w mg fa _ Y G.T.g hmg
  exact TF.law_callG KX G.T.g G.T.b G.T.builtins G.T.nolimit hg hobj hints (Nat.le_trans hlen hn2) hr hF hb fun H hO hS => hsp H a ns hlen hO hS
end HX

/-! a class's number read through an object -/
namespace HX
open PySem PySem.W PySem.Calls PyProof.Rows He L2
section
variable {K : Frag} {C : Addr}
def iconB (K : Frag) (C : Addr) (x : PySem.Str) (i : Int) : Bool := match findIn K (.ref C) x with
  | some (some (.int j t)) => decide (j = i) && (eqO (specialIn K (.int j t) "__get__") (some none) && decide (copiedNames.contains x = false))
  | _ => false
theorem iconB_ok {x : PySem.Str} {i : Int} (h : iconB K C x i = true) : ∃ u, Con K C x (.int i) u := by
  unfold iconB at h
  split at h
  · rename_i j t e
    obtain ⟨h1, h⟩ := ba h
    obtain ⟨h2, h3⟩ := ba h
    obtain rfl := of_decide_eq_true h1
    exact ⟨_, e, ⟨t, rfl⟩, eqO_ok h2, of_decide_eq_true h3⟩
  · cases h
end
end HX

namespace K14
open PySem PySem.Spec PyProof.Rows L2 TM TF GS
def d_0 : He5.DefA := ⟨fun K => He.ga K "is_whole", "is_whole", "is_whole", defArgs s_is_whole, defBody s_is_whole, defScope s_is_whole, [], []⟩
def d_1 : He5.DefA := ⟨fun K => He.ga K "is_number", "is_number", "is_number", defArgs s_is_number, defBody s_is_number, defScope s_is_number, [], []⟩
def d_2 : He5.DefA := ⟨fun K => He.ga K "is_between", "is_between", "is_between", defArgs s_is_between, defBody s_is_between, defScope s_is_between, [], []⟩
def d_3 : He5.DefA := ⟨fun K => He.ga K "check_number", "check_number", "check_number", defArgs s_check_number, defBody s_check_number, defScope s_check_number, [], []⟩
def d_4 : He5.DefA := ⟨fun K => He.ga K "bits_of", "bits_of", "bits_of", defArgs s_bits_of, defBody s_bits_of, defScope s_bits_of, [], []⟩
def d_5 : He5.DefA := ⟨fun K => He.ga K "lowest_place", "lowest_place", "lowest_place", defArgs s_lowest_place, defBody s_lowest_place, defScope s_lowest_place, [], []⟩
def d_6 : He5.DefA := ⟨fun K => He.ga K "moved", "moved", "moved", defArgs s_moved, defBody s_moved, defScope s_moved, [], []⟩
def d_7 : He5.DefA := ⟨fun K => He.ga K "covered_bits", "covered_bits", "covered_bits", defArgs s_covered_bits, defBody s_covered_bits, defScope s_covered_bits, [], []⟩
def d_8 : He5.DefA := ⟨fun K => He.ga K "least_triple", "least_triple", "least_triple", defArgs s_least_triple, defBody s_least_triple, defScope s_least_triple, [], []⟩
def d_9 : He5.DefA := ⟨fun K => He.ga K "smallest_triple", "smallest_triple", "smallest_triple", defArgs s_smallest_triple, defBody s_smallest_triple, defScope s_smallest_triple, [], []⟩
def d_10 : He5.DefA := ⟨fun K => He.ga K "checked_start", "checked_start", "checked_start", defArgs s_checked_start, defBody s_checked_start, defScope s_checked_start, [], []⟩
def d_11 : He5.DefA := ⟨fun K => He.ga K "covered_behind", "covered_behind", "covered_behind", defArgs s_covered_behind, defBody s_covered_behind, defScope s_covered_behind, [], []⟩
def d_12 : He5.DefA := ⟨fun K => He.ga K "growth_of", "growth_of", "growth_of", defArgs s_growth_of, defBody s_growth_of, defScope s_growth_of, [], []⟩
def d_13 : He5.DefA := ⟨fun K => He.ga K "window_of", "window_of", "window_of", defArgs s_window_of, defBody s_window_of, defScope s_window_of, [], []⟩
def d_14 : He5.DefA := ⟨fun K => He.ga K "grown", "grown", "grown", defArgs s_grown, defBody s_grown, defScope s_grown, [], []⟩
def d_15 : He5.DefA := ⟨fun K => He.ma K (He.ga K "GreedySequence") "__init__", "__init__", "GreedySequence.__init__", defArgs s_GreedySequence_init, defBody s_GreedySequence_init, defScope s_GreedySequence_init, [], []⟩
def d_16 : He5.DefA := ⟨fun K => HX.gt K (He.ga K "GreedySequence") "beginning", "beginning", "GreedySequence.beginning", defArgs s_GreedySequence_beginning, defBody s_GreedySequence_beginning, defScope s_GreedySequence_beginning, [], []⟩
def d_17 : He5.DefA := ⟨fun K => He.ma K (He.ga K "GreedySequence") "contains", "contains", "GreedySequence.contains", defArgs s_GreedySequence_contains, defBody s_GreedySequence_contains, defScope s_GreedySequence_contains, [], []⟩
def d_18 : He5.DefA := ⟨fun K => He.ma K (He.ga K "GreedySequence") "coverings", "coverings", "GreedySequence.coverings", defArgs s_GreedySequence_coverings, defBody s_GreedySequence_coverings, defScope s_GreedySequence_coverings, [], []⟩
def d_19 : He5.DefA := ⟨fun K => He.ma K (He.ga K "GreedySequence") "_check_reach", "_check_reach", "GreedySequence._check_reach", defArgs s_GreedySequence_check_reach, defBody s_GreedySequence_check_reach, defScope s_GreedySequence_check_reach, [], []⟩
def d_20 : He5.DefA := ⟨fun K => He.ma K (He.ga K "GreedySequence") "_first", "_first", "GreedySequence._first", defArgs s_GreedySequence_first, defBody s_GreedySequence_first, defScope s_GreedySequence_first, [], []⟩
def d_21 : He5.DefA := ⟨fun K => He.ma K (He.ga K "GreedySequence") "_growth_so_far", "_growth_so_far", "GreedySequence._growth_so_far", defArgs s_GreedySequence_growth_so_far, defBody s_GreedySequence_growth_so_far, defScope s_GreedySequence_growth_so_far, [], []⟩
def d_22 : He5.DefA := ⟨fun K => He.ma K (He.ga K "GreedySequence") "_known", "_known", "GreedySequence._known", defArgs s_GreedySequence_known, defBody s_GreedySequence_known, defScope s_GreedySequence_known, [], []⟩
def d_23 : He5.DefA := ⟨fun K => He.ma K (He.ga K "GreedySequence") "_grow", "_grow", "GreedySequence._grow", defArgs s_GreedySequence_grow, defBody s_GreedySequence_grow, defScope s_GreedySequence_grow, [], []⟩
def d_24 : He5.DefA := ⟨fun K => He.ma K (He.ga K "GreedySequence") "_covering_pairs", "_covering_pairs", "GreedySequence._covering_pairs", defArgs s_GreedySequence_covering_pairs, defBody s_GreedySequence_covering_pairs, defScope s_GreedySequence_covering_pairs, [], []⟩
def d_25 : He5.DefA := ⟨fun K => He.ga K "_law_sources", "_law_sources", "_law_sources", defArgs s_l_sources, defBody s_l_sources, defScope s_l_sources, [], []⟩
def d_26 : He5.DefA := ⟨fun K => He.ga K "_law_pick", "_law_pick", "_law_pick", defArgs s_l_pick, defBody s_l_pick, defScope s_l_pick, [], []⟩
def d_27 : He5.DefA := ⟨fun K => He.ga K "_law_pairs", "_law_pairs", "_law_pairs", defArgs s_l_pairs, defBody s_l_pairs, defScope s_l_pairs, [], []⟩
def d_28 : He5.DefA := ⟨fun K => He.ga K "_law_start", "_law_start", "_law_start", defArgs s_l_start, defBody s_l_start, defScope s_l_start, [], []⟩
def d_29 : He5.DefA := ⟨fun K => He.ga K "_law_triple", "_law_triple", "_law_triple", defArgs s_l_triple, defBody s_l_triple, defScope s_l_triple, [], []⟩
def d_30 : He5.DefA := ⟨fun K => He.ga K "_law_drawn", "_law_drawn", "_law_drawn", defArgs s_l_drawn, defBody s_l_drawn, defScope s_l_drawn, [], []⟩
def d_31 : He5.DefA := ⟨fun K => He.ga K "_law_set_right", "_law_set_right", "_law_set_right", defArgs s_l_set_right, defBody s_l_set_right, defScope s_l_set_right, [], []⟩
def d_32 : He5.DefA := ⟨fun K => He.ga K "_law_added_right", "_law_added_right", "_law_added_right", defArgs s_l_added_right, defBody s_l_added_right, defScope s_l_added_right, [], []⟩
def d_33 : He5.DefA := ⟨fun K => He.ga K "_law_no_triple", "_law_no_triple", "_law_no_triple", defArgs s_l_no_triple, defBody s_l_no_triple, defScope s_l_no_triple, [], []⟩
def d_34 : He5.DefA := ⟨fun K => He.ga K "law", "law", "law", defArgs s_law, defBody s_law, defScope s_law, [], []⟩
def fs_0 : List (PySem.W.Frag → Bool) := [fun K => (He.Fa.glo "is_whole").ok K,
  fun K => (He.Fa.glo "is_number").ok K,
  fun K => (He.Fa.glo "is_between").ok K,
  fun K => (He.Fa.glo "check_number").ok K,
  fun K => (He.Fa.glo "bits_of").ok K,
  fun K => (He.Fa.glo "lowest_place").ok K,
  fun K => (He.Fa.glo "moved").ok K,
  fun K => (He.Fa.glo "covered_bits").ok K,
  fun K => (He.Fa.glo "least_triple").ok K,
  fun K => (He.Fa.glo "smallest_triple").ok K,
  fun K => (He.Fa.glo "checked_start").ok K,
  fun K => (He.Fa.glo "covered_behind").ok K,
  fun K => (He.Fa.glo "growth_of").ok K,
  fun K => (He.Fa.glo "window_of").ok K,
  fun K => (He.Fa.glo "grown").ok K,
  fun K => (He.Fa.glo "_law_sources").ok K,
  fun K => (He.Fa.glo "_law_pick").ok K,
  fun K => (He.Fa.glo "_law_pairs").ok K,
  fun K => (He.Fa.glo "_law_start").ok K,
  fun K => (He.Fa.glo "_law_triple").ok K,
  fun K => (He.Fa.glo "_law_drawn").ok K,
  fun K => (He.Fa.glo "_law_set_right").ok K,
  fun K => (He.Fa.glo "_law_added_right").ok K,
  fun K => (He.Fa.glo "_law_no_triple").ok K,
  fun K => (He.Fa.glo "law").ok K]
def fs_1 : List (PySem.W.Frag → Bool) := [fun K => (He.Fa.glo "GreedySequence").ok K,
  fun K => (He.Fa.mkr "GreedySequence").ok K,
  fun K => (He.Fa.cls "GreedySequence").ok K,
  fun K => (He.Fa.noat "GreedySequence" "_start").ok K,
  fun K => (He.Fa.noat "GreedySequence" "_last").ok K,
  fun K => (He.Fa.noat "GreedySequence" "_horizon").ok K,
  fun K => (He.Fa.noat "GreedySequence" "_members").ok K,
  fun K => (He.Fa.noat "GreedySequence" "_present").ok K,
  fun K => (He.Fa.noat "GreedySequence" "_complete").ok K,
  fun K => (He.Fa.noat "GreedySequence" "_growth").ok K,
  fun K => HX.mthB K (He.ga K "GreedySequence") "contains",
  fun K => HX.mthB K (He.ga K "GreedySequence") "coverings",
  fun K => HX.mthB K (He.ga K "GreedySequence") "_check_reach",
  fun K => HX.mthB K (He.ga K "GreedySequence") "_first",
  fun K => HX.mthB K (He.ga K "GreedySequence") "_growth_so_far",
  fun K => HX.mthB K (He.ga K "GreedySequence") "_known",
  fun K => HX.mthB K (He.ga K "GreedySequence") "_grow",
  fun K => HX.mthB K (He.ga K "GreedySequence") "_covering_pairs",
  fun K => HX.readB K (He.ga K "GreedySequence"),
  fun K => HX.constB K (He.ga K "GreedySequence") "MAX_START" 40,
  fun K => HX.constB K (He.ga K "GreedySequence") "MAX_FIRST" 1000000,
  fun K => HX.constB K (He.ga K "GreedySequence") "REACH" 2000,
  fun K => HX.iconB K (He.ga K "GreedySequence") "MAX_START" 40,
  fun K => HX.iconB K (He.ga K "GreedySequence") "REACH" 2000,
  fun K => HX.propB K (He.ga K "GreedySequence") "beginning"]
def fs_2 : List (PySem.W.Frag → Bool) := [fun K => (He.Fa.free "isinstance").ok K,
  fun K => (He.Fa.free "int").ok K,
  fun K => (He.Fa.free "bool").ok K,
  fun K => (He.Fa.free "set").ok K,
  fun K => (He.Fa.free "sorted").ok K,
  fun K => (He.Fa.free "enumerate").ok K,
  fun K => (He.Fa.free "tuple").ok K,
  fun K => (He.Fa.free "list").ok K,
  fun K => (He.Fa.free "len").ok K,
  fun K => (He.Fa.free "range").ok K,
  fun K => (He.Fa.free "min").ok K,
  fun K => (He.Fa.free "dict").ok K,
  fun K => (He.Fa.free "max").ok K,
  fun K => (He.Fa.int "NEAR" 10000).ok K,
  fun K => (He.Fa.glo "law").ok K]
def fs_ : List (PySem.W.Frag → Bool) := fs_0 ++ (fs_1 ++ (fs_2))
def dn_ : List He5.DefA := [d_0, d_1, d_2, d_3, d_4, d_5, d_6, d_7, d_8, d_9, d_10, d_11, d_12, d_13, d_14, d_15, d_16, d_17, d_18, d_19, d_20, d_21, d_22, d_23, d_24, d_25, d_26, d_27, d_28, d_29, d_30, d_31, d_32, d_33, d_34]
theorem facts {P : Program} {w : World} {K : PySem.W.Frag} {h : Heap} {mg : Str → Option Value} {fa : Addr} (X : K.In h) (G : h.Ns mainGlobals mg) (hfa : mg "law" = some (.ref fa)) (c : HX.Told fs_ dn_ K) :
    ∃ fd : FuncData, (∀ (s : Shared) (v : Value), BindsTo s fd ⟨[v], []⟩ [("script", v)]) ∧ ∀ base : Heap, K.In base → base.Ns mainGlobals mg → GOk P w K mg base 19 fa fd ["script"] (sp_law K) := by
  obtain ⟨fd0, G0⟩ := c.fn_ 0 (t := d_0) rfl
  have F0 : Fun K "is_whole" "is_whole" s_is_whole (He.ga K "is_whole") fd0 := He5.fun_of (st := s_is_whole) G0
  have b0 := F0.binds (ps := ["value"]) fun _ _ _ _ _ _ us hl => match us, hl with | [_], _ => rfl
  obtain ⟨fd1, G1⟩ := c.fn_ 1 (t := d_1) rfl
  have F1 : Fun K "is_number" "is_number" s_is_number (He.ga K "is_number") fd1 := He5.fun_of (st := s_is_number) G1
  have b1 := F1.binds (ps := ["value"]) fun _ _ _ _ _ _ us hl => match us, hl with | [_], _ => rfl
  obtain ⟨fd2, G2⟩ := c.fn_ 2 (t := d_2) rfl
  have F2 : Fun K "is_between" "is_between" s_is_between (He.ga K "is_between") fd2 := He5.fun_of (st := s_is_between) G2
  have b2 := F2.binds (ps := ["value", "low", "high"]) fun _ _ _ _ _ _ us hl => match us, hl with | [_, _, _], _ => rfl
  obtain ⟨fd3, G3⟩ := c.fn_ 3 (t := d_3) rfl
  have F3 : Fun K "check_number" "check_number" s_check_number (He.ga K "check_number") fd3 := He5.fun_of (st := s_check_number) G3
  have b3 := F3.binds (ps := ["value"]) fun _ _ _ _ _ _ us hl => match us, hl with | [_], _ => rfl
  obtain ⟨fd4, G4⟩ := c.fn_ 4 (t := d_4) rfl
  have F4 : Fun K "bits_of" "bits_of" s_bits_of (He.ga K "bits_of") fd4 := He5.fun_of (st := s_bits_of) G4
  have b4 := F4.binds (ps := ["numbers"]) fun _ _ _ _ _ _ us hl => match us, hl with | [_], _ => rfl
  obtain ⟨fd5, G5⟩ := c.fn_ 5 (t := d_5) rfl
  have F5 : Fun K "lowest_place" "lowest_place" s_lowest_place (He.ga K "lowest_place") fd5 := He5.fun_of (st := s_lowest_place) G5
  have b5 := F5.binds (ps := ["bits"]) fun _ _ _ _ _ _ us hl => match us, hl with | [_], _ => rfl
  obtain ⟨fd6, G6⟩ := c.fn_ 6 (t := d_6) rfl
  have F6 : Fun K "moved" "moved" s_moved (He.ga K "moved") fd6 := He5.fun_of (st := s_moved) G6
  have b6 := F6.binds (ps := ["bits", "places"]) fun _ _ _ _ _ _ us hl => match us, hl with | [_, _], _ => rfl
  obtain ⟨fd7, G7⟩ := c.fn_ 7 (t := d_7) rfl
  have F7 : Fun K "covered_bits" "covered_bits" s_covered_bits (He.ga K "covered_bits") fd7 := He5.fun_of (st := s_covered_bits) G7
  have b7 := F7.binds (ps := ["members"]) fun _ _ _ _ _ _ us hl => match us, hl with | [_], _ => rfl
  obtain ⟨fd8, G8⟩ := c.fn_ 8 (t := d_8) rfl
  have F8 : Fun K "least_triple" "least_triple" s_least_triple (He.ga K "least_triple") fd8 := He5.fun_of (st := s_least_triple) G8
  have b8 := F8.binds (ps := ["numbers"]) fun _ _ _ _ _ _ us hl => match us, hl with | [_], _ => rfl
  obtain ⟨fd9, G9⟩ := c.fn_ 9 (t := d_9) rfl
  have F9 : Fun K "smallest_triple" "smallest_triple" s_smallest_triple (He.ga K "smallest_triple") fd9 := He5.fun_of (st := s_smallest_triple) G9
  have b9 := F9.starB (pv := "numbers") (fun _ _ _ _ _ _ => rfl) fun _ _ _ _ _ _ _ _ => rfl
  obtain ⟨fd10, G10⟩ := c.fn_ 10 (t := d_10) rfl
  have F10 : Fun K "checked_start" "checked_start" s_checked_start (He.ga K "checked_start") fd10 := He5.fun_of (st := s_checked_start) G10
  have b10 := F10.binds (ps := ["value"]) fun _ _ _ _ _ _ us hl => match us, hl with | [_], _ => rfl
  obtain ⟨fd11, G11⟩ := c.fn_ 11 (t := d_11) rfl
  have F11 : Fun K "covered_behind" "covered_behind" s_covered_behind (He.ga K "covered_behind") fd11 := He5.fun_of (st := s_covered_behind) G11
  have b11 := F11.binds (ps := ["start"]) fun _ _ _ _ _ _ us hl => match us, hl with | [_], _ => rfl
  obtain ⟨fd12, G12⟩ := c.fn_ 12 (t := d_12) rfl
  have F12 : Fun K "growth_of" "growth_of" s_growth_of (He.ga K "growth_of") fd12 := He5.fun_of (st := s_growth_of) G12
  have b12 := F12.binds (ps := ["start"]) fun _ _ _ _ _ _ us hl => match us, hl with | [_], _ => rfl
  obtain ⟨fd13, G13⟩ := c.fn_ 13 (t := d_13) rfl
  have F13 : Fun K "window_of" "window_of" s_window_of (He.ga K "window_of") fd13 := He5.fun_of (st := s_window_of) G13
  have b13 := F13.binds (ps := ["reach"]) fun _ _ _ _ _ _ us hl => match us, hl with | [_], _ => rfl
  obtain ⟨fd14, G14⟩ := c.fn_ 14 (t := d_14) rfl
  have F14 : Fun K "grown" "grown" s_grown (He.ga K "grown") fd14 := He5.fun_of (st := s_grown) G14
  have b14 := F14.binds (ps := ["last", "growth", "limit", "count"]) fun _ _ _ _ _ _ us hl => match us, hl with | [_, _, _, _], _ => rfl
  obtain ⟨fd15, G15⟩ := c.fn_ 15 (t := d_15) rfl
  have F15 : Fun K "__init__" "GreedySequence.__init__" s_GreedySequence_init (He.ma K (He.ga K "GreedySequence") "__init__") fd15 := He5.fun_of (st := s_GreedySequence_init) G15
  have b15 := F15.binds (ps := ["self", "start"]) fun _ _ _ _ _ _ us hl => match us, hl with | [_, _], _ => rfl
  obtain ⟨fd16, G16⟩ := c.fn_ 16 (t := d_16) rfl
  have F16 : Fun K "beginning" "GreedySequence.beginning" s_GreedySequence_beginning (HX.gt K (He.ga K "GreedySequence") "beginning") fd16 := He5.fun_of (st := s_GreedySequence_beginning) G16
  have b16 := F16.binds (ps := ["self"]) fun _ _ _ _ _ _ us hl => match us, hl with | [_], _ => rfl
  obtain ⟨fd17, G17⟩ := c.fn_ 17 (t := d_17) rfl
  have F17 : Fun K "contains" "GreedySequence.contains" s_GreedySequence_contains (He.ma K (He.ga K "GreedySequence") "contains") fd17 := He5.fun_of (st := s_GreedySequence_contains) G17
  have b17 := F17.binds (ps := ["self", "x"]) fun _ _ _ _ _ _ us hl => match us, hl with | [_, _], _ => rfl
  obtain ⟨fd18, G18⟩ := c.fn_ 18 (t := d_18) rfl
  have F18 : FunD K "coverings" "GreedySequence.coverings" (defArgs s_GreedySequence_coverings) (defBody s_GreedySequence_coverings) (defScope s_GreedySequence_coverings) [] [] (He.ma K (He.ga K "GreedySequence") "coverings") fd18 := G18
  have b18 := F18.bindsN (ps := ["self", "x"]) fun _ _ _ _ _ _ us hl => match us, hl with | [_, _], _ => rfl
  obtain ⟨fd19, G19⟩ := c.fn_ 19 (t := d_19) rfl
  have F19 : Fun K "_check_reach" "GreedySequence._check_reach" s_GreedySequence_check_reach (He.ma K (He.ga K "GreedySequence") "_check_reach") fd19 := He5.fun_of (st := s_GreedySequence_check_reach) G19
  have b19 := F19.binds (ps := ["self", "x"]) fun _ _ _ _ _ _ us hl => match us, hl with | [_, _], _ => rfl
  obtain ⟨fd20, G20⟩ := c.fn_ 20 (t := d_20) rfl
  have F20 : Fun K "_first" "GreedySequence._first" s_GreedySequence_first (He.ma K (He.ga K "GreedySequence") "_first") fd20 := He5.fun_of (st := s_GreedySequence_first) G20
  have b20 := F20.binds (ps := ["self", "count"]) fun _ _ _ _ _ _ us hl => match us, hl with | [_, _], _ => rfl
  obtain ⟨fd21, G21⟩ := c.fn_ 21 (t := d_21) rfl
  have F21 : Fun K "_growth_so_far" "GreedySequence._growth_so_far" s_GreedySequence_growth_so_far (He.ma K (He.ga K "GreedySequence") "_growth_so_far") fd21 := He5.fun_of (st := s_GreedySequence_growth_so_far) G21
  have b21 := F21.binds (ps := ["self"]) fun _ _ _ _ _ _ us hl => match us, hl with | [_], _ => rfl
  obtain ⟨fd22, G22⟩ := c.fn_ 22 (t := d_22) rfl
  have F22 : Fun K "_known" "GreedySequence._known" s_GreedySequence_known (He.ma K (He.ga K "GreedySequence") "_known") fd22 := He5.fun_of (st := s_GreedySequence_known) G22
  have b22 := F22.binds (ps := ["self", "limit", "count"]) fun _ _ _ _ _ _ us hl => match us, hl with | [_, _, _], _ => rfl
  obtain ⟨fd23, G23⟩ := c.fn_ 23 (t := d_23) rfl
  have F23 : Fun K "_grow" "GreedySequence._grow" s_GreedySequence_grow (He.ma K (He.ga K "GreedySequence") "_grow") fd23 := He5.fun_of (st := s_GreedySequence_grow) G23
  have b23 := F23.binds (ps := ["self", "limit", "count"]) fun _ _ _ _ _ _ us hl => match us, hl with | [_, _, _], _ => rfl
  obtain ⟨fd24, G24⟩ := c.fn_ 24 (t := d_24) rfl
  have F24 : Fun K "_covering_pairs" "GreedySequence._covering_pairs" s_GreedySequence_covering_pairs (He.ma K (He.ga K "GreedySequence") "_covering_pairs") fd24 := He5.fun_of (st := s_GreedySequence_covering_pairs) G24
  have b24 := F24.binds (ps := ["self", "x"]) fun _ _ _ _ _ _ us hl => match us, hl with | [_, _], _ => rfl
  obtain ⟨fd25, G25⟩ := c.fn_ 25 (t := d_25) rfl
  have F25 : Fun K "_law_sources" "_law_sources" s_l_sources (He.ga K "_law_sources") fd25 := He5.fun_of (st := s_l_sources) G25
  have b25 := F25.binds (ps := ["script"]) fun _ _ _ _ _ _ us hl => match us, hl with | [_], _ => rfl
  obtain ⟨fd26, G26⟩ := c.fn_ 26 (t := d_26) rfl
  have F26 : Fun K "_law_pick" "_law_pick" s_l_pick (He.ga K "_law_pick") fd26 := He5.fun_of (st := s_l_pick) G26
  have b26 := F26.binds (ps := ["source", "many"]) fun _ _ _ _ _ _ us hl => match us, hl with | [_, _], _ => rfl
  obtain ⟨fd27, G27⟩ := c.fn_ 27 (t := d_27) rfl
  have F27 : Fun K "_law_pairs" "_law_pairs" s_l_pairs (He.ga K "_law_pairs") fd27 := He5.fun_of (st := s_l_pairs) G27
  have b27 := F27.binds (ps := ["places", "spot"]) fun _ _ _ _ _ _ us hl => match us, hl with | [_, _], _ => rfl
  obtain ⟨fd28, G28⟩ := c.fn_ 28 (t := d_28) rfl
  have F28 : Fun K "_law_start" "_law_start" s_l_start (He.ga K "_law_start") fd28 := He5.fun_of (st := s_l_start) G28
  have b28 := F28.binds (ps := ["source"]) fun _ _ _ _ _ _ us hl => match us, hl with | [_], _ => rfl
  obtain ⟨fd29, G29⟩ := c.fn_ 29 (t := d_29) rfl
  have F29 : Fun K "_law_triple" "_law_triple" s_l_triple (He.ga K "_law_triple") fd29 := He5.fun_of (st := s_l_triple) G29
  have b29 := F29.binds (ps := ["numbers"]) fun _ _ _ _ _ _ us hl => match us, hl with | [_], _ => rfl
  obtain ⟨fd30, G30⟩ := c.fn_ 30 (t := d_30) rfl
  have F30 : Fun K "_law_drawn" "_law_drawn" s_l_drawn (He.ga K "_law_drawn") fd30 := He5.fun_of (st := s_l_drawn) G30
  have b30 := F30.binds (ps := ["source", "first", "top", "share"]) fun _ _ _ _ _ _ us hl => match us, hl with | [_, _, _, _], _ => rfl
  obtain ⟨fd31, G31⟩ := c.fn_ 31 (t := d_31) rfl
  have F31 : Fun K "_law_set_right" "_law_set_right" s_l_set_right (He.ga K "_law_set_right") fd31 := He5.fun_of (st := s_l_set_right) G31
  have b31 := F31.binds (ps := ["sequence_here", "places", "low", "top"]) fun _ _ _ _ _ _ us hl => match us, hl with | [_, _, _, _], _ => rfl
  obtain ⟨fd32, G32⟩ := c.fn_ 32 (t := d_32) rfl
  have F32 : Fun K "_law_added_right" "_law_added_right" s_l_added_right (He.ga K "_law_added_right") fd32 := He5.fun_of (st := s_l_added_right) G32
  have b32 := F32.binds (ps := ["sequence_here", "spot"]) fun _ _ _ _ _ _ us hl => match us, hl with | [_, _], _ => rfl
  obtain ⟨fd33, G33⟩ := c.fn_ 33 (t := d_33) rfl
  have F33 : Fun K "_law_no_triple" "_law_no_triple" s_l_no_triple (He.ga K "_law_no_triple") fd33 := He5.fun_of (st := s_l_no_triple) G33
  have b33 := F33.binds (ps := ["source", "numbers"]) fun _ _ _ _ _ _ us hl => match us, hl with | [_, _], _ => rfl
  obtain ⟨fd34, G34⟩ := c.fn_ 34 (t := d_34) rfl
  have F34 : Fun K "law" "law" s_law (He.ga K "law") fd34 := He5.fun_of (st := s_law) G34
  have b34 := F34.binds (ps := ["script"]) fun _ _ _ _ _ _ us hl => match us, hl with | [_], _ => rfl
  obtain ⟨u0_0, v0_0⟩ := HX.constB_ok (c.fact 44 rfl)
  obtain ⟨u0_1, v0_1⟩ := HX.constB_ok (c.fact 45 rfl)
  obtain ⟨u0_2, v0_2⟩ := HX.constB_ok (c.fact 46 rfl)
  obtain ⟨w0_0, x0_0⟩ := HX.iconB_ok (c.fact 47 rfl)
  obtain ⟨w0_1, x0_1⟩ := HX.iconB_ok (c.fact 48 rfl)
  obtain ⟨t0, y0⟩ := He.int_ok X G (x := "NEAR") (i := 10000) (c.fact 63 rfl)
  have e := hfa.symm.trans (He.glo_ok X G (x := "law") (c.fact 64 rfl))
  cases e
  have bl := FunD.bindsA (ps := ["script"]) G34 fun _ _ _ _ _ _ us hl => match us, hl with | [_], _ => rfl
  exact ⟨fd34, fun s v => bl s [v] rfl, fun base KB _ => GOk.of <| ok_law ({ f_is_whole := _, fd_is_whole := _, F_is_whole := F0, b_is_whole := b0, g_is_whole := He.glo_ok X G (c.fact 0 rfl), f_is_number := _, fd_is_number := _, F_is_number := F1, b_is_number := b1, g_is_number := He.glo_ok X G (c.fact 1 rfl), f_is_between := _, fd_is_between := _, F_is_between := F2, b_is_between := b2, g_is_between := He.glo_ok X G (c.fact 2 rfl), f_check_number := _, fd_check_number := _, F_check_number := F3, b_check_number := b3, g_check_number := He.glo_ok X G (c.fact 3 rfl), f_bits_of := _, fd_bits_of := _, F_bits_of := F4, b_bits_of := b4, g_bits_of := He.glo_ok X G (c.fact 4 rfl), f_lowest_place := _, fd_lowest_place := _, F_lowest_place := F5, b_lowest_place := b5, g_lowest_place := He.glo_ok X G (c.fact 5 rfl), f_moved := _, fd_moved := _, F_moved := F6, b_moved := b6, g_moved := He.glo_ok X G (c.fact 6 rfl), f_covered_bits := _, fd_covered_bits := _, F_covered_bits := F7, b_covered_bits := b7, g_covered_bits := He.glo_ok X G (c.fact 7 rfl), f_least_triple := _, fd_least_triple := _, F_least_triple := F8, b_least_triple := b8, g_least_triple := He.glo_ok X G (c.fact 8 rfl), f_smallest_triple := _, fd_smallest_triple := _, F_smallest_triple := F9, b_smallest_triple := b9, g_smallest_triple := He.glo_ok X G (c.fact 9 rfl), f_checked_start := _, fd_checked_start := _, F_checked_start := F10, b_checked_start := b10, g_checked_start := He.glo_ok X G (c.fact 10 rfl), f_covered_behind := _, fd_covered_behind := _, F_covered_behind := F11, b_covered_behind := b11, g_covered_behind := He.glo_ok X G (c.fact 11 rfl), f_growth_of := _, fd_growth_of := _, F_growth_of := F12, b_growth_of := b12, g_growth_of := He.glo_ok X G (c.fact 12 rfl), f_window_of := _, fd_window_of := _, F_window_of := F13, b_window_of := b13, g_window_of := He.glo_ok X G (c.fact 13 rfl), f_grown := _, fd_grown := _, F_grown := F14, b_grown := b14, g_grown := He.glo_ok X G (c.fact 14 rfl), f_GreedySequence_init := _, fd_GreedySequence_init := _, F_GreedySequence_init := F15, b_GreedySequence_init := b15, f_GreedySequence_beginning := _, fd_GreedySequence_beginning := _, F_GreedySequence_beginning := F16, b_GreedySequence_beginning := b16, f_GreedySequence_contains := _, fd_GreedySequence_contains := _, F_GreedySequence_contains := F17, b_GreedySequence_contains := b17, f_GreedySequence_coverings := _, fd_GreedySequence_coverings := _, F_GreedySequence_coverings := F18, b_GreedySequence_coverings := b18, f_GreedySequence_check_reach := _, fd_GreedySequence_check_reach := _, F_GreedySequence_check_reach := F19, b_GreedySequence_check_reach := b19, f_GreedySequence_first := _, fd_GreedySequence_first := _, F_GreedySequence_first := F20, b_GreedySequence_first := b20, f_GreedySequence_growth_so_far := _, fd_GreedySequence_growth_so_far := _, F_GreedySequence_growth_so_far := F21, b_GreedySequence_growth_so_far := b21, f_GreedySequence_known := _, fd_GreedySequence_known := _, F_GreedySequence_known := F22, b_GreedySequence_known := b22, f_GreedySequence_grow := _, fd_GreedySequence_grow := _, F_GreedySequence_grow := F23, b_GreedySequence_grow := b23, f_GreedySequence_covering_pairs := _, fd_GreedySequence_covering_pairs := _, F_GreedySequence_covering_pairs := F24, b_GreedySequence_covering_pairs := b24, f_l_sources := _, fd_l_sources := _, F_l_sources := F25, b_l_sources := b25, g_l_sources := He.glo_ok X G (c.fact 15 rfl), f_l_pick := _, fd_l_pick := _, F_l_pick := F26, b_l_pick := b26, g_l_pick := He.glo_ok X G (c.fact 16 rfl), f_l_pairs := _, fd_l_pairs := _, F_l_pairs := F27, b_l_pairs := b27, g_l_pairs := He.glo_ok X G (c.fact 17 rfl), f_l_start := _, fd_l_start := _, F_l_start := F28, b_l_start := b28, g_l_start := He.glo_ok X G (c.fact 18 rfl), f_l_triple := _, fd_l_triple := _, F_l_triple := F29, b_l_triple := b29, g_l_triple := He.glo_ok X G (c.fact 19 rfl), f_l_drawn := _, fd_l_drawn := _, F_l_drawn := F30, b_l_drawn := b30, g_l_drawn := He.glo_ok X G (c.fact 20 rfl), f_l_set_right := _, fd_l_set_right := _, F_l_set_right := F31, b_l_set_right := b31, g_l_set_right := He.glo_ok X G (c.fact 21 rfl), f_l_added_right := _, fd_l_added_right := _, F_l_added_right := F32, b_l_added_right := b32, g_l_added_right := He.glo_ok X G (c.fact 22 rfl), f_l_no_triple := _, fd_l_no_triple := _, F_l_no_triple := F33, b_l_no_triple := b33, g_l_no_triple := He.glo_ok X G (c.fact 23 rfl), f_law := _, fd_law := _, F_law := F34, b_law := b34, g_law := He.glo_ok X G (c.fact 24 rfl), C_GreedySequence := _, g_GreedySequence := He.glo_ok X G (c.fact 25 rfl), M_GreedySequence := He.mkr_ok (c.fact 26 rfl), c_GreedySequence := He.cls_ok (c.fact 27 rfl), n_GreedySequence_start := He.noat_ok (c.fact 28 rfl), n_GreedySequence_last := He.noat_ok (c.fact 29 rfl), n_GreedySequence_horizon := He.noat_ok (c.fact 30 rfl), n_GreedySequence_members := He.noat_ok (c.fact 31 rfl), n_GreedySequence_present := He.noat_ok (c.fact 32 rfl), n_GreedySequence_complete := He.noat_ok (c.fact 33 rfl), n_GreedySequence_growth := He.noat_ok (c.fact 34 rfl), me_GreedySequence_contains := HX.mthB_ok (c.fact 35 rfl), me_GreedySequence_coverings := HX.mthB_ok (c.fact 36 rfl), me_GreedySequence_check_reach := HX.mthB_ok (c.fact 37 rfl), me_GreedySequence_first := HX.mthB_ok (c.fact 38 rfl), me_GreedySequence_growth_so_far := HX.mthB_ok (c.fact 39 rfl), me_GreedySequence_known := HX.mthB_ok (c.fact 40 rfl), me_GreedySequence_grow := HX.mthB_ok (c.fact 41 rfl), me_GreedySequence_covering_pairs := HX.mthB_ok (c.fact 42 rfl), mc_GreedySequence := .type "type", cr_GreedySequence := HX.readB_ok (c.fact 43 rfl), u_GreedySequence_MAX_START := u0_0, cv_GreedySequence_MAX_START := v0_0, u_GreedySequence_MAX_FIRST := u0_1, cv_GreedySequence_MAX_FIRST := v0_1, u_GreedySequence_REACH := u0_2, cv_GreedySequence_REACH := v0_2, iu_GreedySequence_MAX_START := w0_0, ic_GreedySequence_MAX_START := x0_0, iu_GreedySequence_REACH := w0_1, ic_GreedySequence_REACH := x0_1, p_GreedySequence_beginning := _, po_GreedySequence_beginning := HX.propB_ok (c.fact 49 rfl), m_isinstance := He.free_ok X G (c.fact 50 rfl), m_int := He.free_ok X G (c.fact 51 rfl), m_bool := He.free_ok X G (c.fact 52 rfl), m_set := He.free_ok X G (c.fact 53 rfl), m_sorted := He.free_ok X G (c.fact 54 rfl), m_enumerate := He.free_ok X G (c.fact 55 rfl), m_tuple := He.free_ok X G (c.fact 56 rfl), m_list := He.free_ok X G (c.fact 57 rfl), m_len := He.free_ok X G (c.fact 58 rfl), m_range := He.free_ok X G (c.fact 59 rfl), m_min := He.free_ok X G (c.fact 60 rfl), m_dict := He.free_ok X G (c.fact 61 rfl), m_max := He.free_ok X G (c.fact 62 rfl), t_NEAR := t0, g_NEAR := y0 } : Txt K mg)⟩
def nm_0 : List PySem.Str := ["_wall", "SetError", "StateError", "LimitError", "InvalidNumber", "InvalidStart", "NotFree", "IsMember", "NotCovered", "TooLarge", "is_whole", "is_number", "is_between", "check_number", "bits_of", "lowest_place", "moved", "covered_bits", "NEAR", "least_triple", "smallest_triple", "checked_start", "covered_behind", "growth_of", "window_of"]
def nm_1 : List PySem.Str := ["grown", "GreedySequence", "_law_sources", "_law_pick", "_law_pairs", "_law_start", "_law_triple", "_law_drawn", "_law_set_right", "_law_added_right", "_law_no_triple"]
def nm_ : List PySem.Str := nm_0 ++ (nm_1)
abbrev hk_ : PySem.W.Hook := HX.hookB 4000 fs_ dn_
def ob_ (s : PySem.W.SharedT) : He.AlD := HX.lookB 4000 fs_ dn_ (HandSHeadRun.getT s)
theorem ob_eq (s : PySem.W.SharedT) : ob_ s = hk_.obs s.abs := HX.lookB_eq (HandSHeadRun.getT_eq s)
set_option maxHeartbeats 0 in
theorem run_ (w : World) : HandSHeadRun.RunEq (PySem.W.OpenLaw.row PySem.Challenge.rw_triplefree_k14_whole_first_of_free_sets) (PySem.W.view (PySem.W.OpenLaw.row PySem.Challenge.rw_triplefree_k14_whole_first_of_free_sets).prog [40]) hk_ ob_ 60000 nm_ w := by
  intro os
  kernel_rfl
end K14
open PySem PySem.W PySem.Calls PyProof.Rows
set_option maxHeartbeats 0 in
theorem PySem.Challenge.cw_triplefree_k14_whole_first_of_free_sets_holds : PySem.Challenge.rw_triplefree_k14_whole_first_of_free_sets.Holds := by
  w_on; o_law
  refine HandSHeadRun.head_any (r := PySem.W.OpenLaw.row PySem.Challenge.rw_triplefree_k14_whole_first_of_free_sets) (q := view (PySem.W.OpenLaw.row PySem.Challenge.rw_triplefree_k14_whole_first_of_free_sets).prog [40]) (H := K14.hk_) (ob := K14.ob_) (M := 60000) (loose := K14.nm_) (d := HandSHeadRun.topDef (PySem.W.OpenLaw.row PySem.Challenge.rw_triplefree_k14_whole_first_of_free_sets).prog 40) (kwd := []) K14.ob_eq
    (by kernel_rfl) (fun s => by kernel_rfl) K14.run_ (by kernel_rfl) (by kernel_rfl) (by kernel_rfl) (by rfl) (by first | assumption | decide +kernel) (by decide +kernel) ⟨rfl, rfl, rfl, rfl, rfl, by decide +kernel⟩ ?hw ?hc
  case hw => w_witness2
  case hc =>
    refine HX.walk_told (l := PySem.Challenge.rw_triplefree_k14_whole_first_of_free_sets) (n := 63) (k := 19) (x := "script") rfl (by decide) (by kernel_rfl) ⟨rfl, by decide, by decide⟩ ?F
    intro w mg fa h Y G hm0
    obtain ⟨K, KX, c⟩ := Y
    have hm : mg ("law" : PySem.Str) = some (.ref fa) := by
      have e : (HandSHeadRun.topDef (PySem.W.OpenLaw.row PySem.Challenge.rw_triplefree_k14_whole_first_of_free_sets).prog 40).name = ("law" : PySem.Str) := by kernel_rfl
      rw [← e]
      exact hm0
    obtain ⟨fd, hb, hF⟩ := K14.facts (P := (PySem.Challenge.rw_triplefree_k14_whole_first_of_free_sets).prog) (w := w) KX G hm c
    exact ⟨K, fd, K14.sp_law K, KX, hb, fun H a ns hl _ hS => ⟨a, ns, rfl, hS, hl, fun _ => rfl⟩, hF⟩

