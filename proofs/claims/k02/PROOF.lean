import PyProof.Rows.All
import Wide.All
import OpenK.AllK
import Wide.FinOn
import HandS.ForMost
import HandS.GenOver
import HandS.GenList
import HandS.GenCall
import HandS.Wide
import HandS.IsInst
import HandS.Deep
import PyProof.Rows.ReprR
import PyProof.ZipIter
import KE.KItemsList
import HandS.WideMore
import HandS.Walk
import KE.GoesMore
import PyProof.EnumMake
import PyProof.Draws
import HandS.Star
import PyProof.LongRange
import HandS.IntHex
import HandS.FStr
import HandS.Codes
import PyProof.FString3
import PyProof.Rows.StrIntSpec
import HandS.Rev
import HandS.MapJoin
import HandS.StrMore
import KE.KTabLook
import HandS.Style
import HandS.WideBits
import HandS.ReplaceLit
import HandS.ReplaceDef
import HandS.ReplaceList
import PyProof.Rows.StrJoinRep
import PyProof.Rows.StrMul
import HandS.Defaults
import PyProof.Rows.StrFromFirst
import HandS.Strs
import HandS.SetFor
import HandS.ClsMeth
import HandS.DictComp
import HandS.Property
import HandS.SortInts
import HandS.SortRule
import PyProof.TupleOfSeq
import HandS.RevRange
import PyProof.StrLawsLast
import HandS.TupSets
import HandS.HeadNt
import HandS.Head2
import PySem.Challenge.RW_triplefree_k02_whole_ordered_sums
set_option Elab.async false
set_option linter.all false
set_option maxRecDepth 100000
set_option maxHeartbeats 4000000
/-! G0: a run that never wakes a sleeping generator leaves it asleep, whatever it would do -/
namespace TF
open PySem PySem.Spec PyProof.Rows L2

/-- a sleeper that can't be woken -/
def deaf : Resume → Sem PySem.Fin := fun _ => .unsupported ""
def hush : GenState → GenState
  | .suspended _ l c p fs cl => .suspended deaf l c p fs cl
  | .fresh c => .fresh c
  | .running => .running
  | .finished => .finished

inductive Alike : GenState → GenState → Prop
  | fre (c) : Alike (.fresh c) (.fresh c)
  | run : Alike .running .running
  | fin : Alike .finished .finished
  | sus (k l c p fs cl) : splitAtGen fs = none → Alike (.suspended k l c p fs cl) (.suspended k l c p fs cl)
  | msk (k l c p fs cl) : Alike (.suspended deaf l c p fs cl) (.suspended k l c p fs cl)

theorem Alike.hushed (x : GenState) : Alike (hush x) x := by
  cases x with
  | fresh c => exact .fre c
  | suspended k l c p fs cl => exact .msk k l c p fs cl
  | running => exact .run
  | finished => exact .fin
theorem Alike.seen {x y : GenState} (h : Alike x y) : x.seen = y.seen := by cases h <;> rfl
theorem Alike.bare {x y : GenState} (h : Alike x y) : x.bare = y.bare := by cases h <;> rfl

/-- two tables of generators, one with deaf sleepers -/
structure Tabs (a b : Array GenState) : Prop where
  size : a.size = b.size
  alike : ∀ (i : Nat) x, a[i]? = some x → ∃ y, b[i]? = some y ∧ Alike x y
/-- the deaf ones of a, their twins in b: as they were -/
def Asleep (a b a' b' : Array GenState) : Prop := ∀ (i : Nat) l c p fs cl, a[i]? = some (.suspended deaf l c p fs cl) → a'[i]? = some (.suspended deaf l c p fs cl) ∧ b'[i]? = b[i]?
theorem Asleep.rfl' {a b : Array GenState} : Asleep a b a b := fun _ _ _ _ _ _ h => ⟨h, rfl⟩
theorem Asleep.trans {a b a' b' a2 b2 : Array GenState} (x : Asleep a b a' b') (y : Asleep a' b' a2 b2) : Asleep a b a2 b2 := fun i l c p fs cl h => by
  obtain ⟨h1, h2⟩ := x i l c p fs cl h
  obtain ⟨h3, h4⟩ := y i l c p fs cl h1
  exact ⟨h3, h4.trans h2⟩

theorem Tabs.set {a b : Array GenState} (t : Tabs a b) (g : Nat) {x y : GenState} (h : Alike x y) : Tabs (a.setIfInBounds g x) (b.setIfInBounds g y) where
  size := by simp [t.size]
  alike := fun i z hz => by
    by_cases e : i = g
    · subst e
      have hi : i < a.size := by
        have := (Array.getElem?_eq_some_iff.mp hz).1
        simpa using this
      have hb : i < b.size := by rw [← t.size]; exact hi
      have e1 : (a.setIfInBounds i x)[i]? = some x := by simp [hi]
      have e2 : (b.setIfInBounds i y)[i]? = some y := by simp [hb]
      rw [e1] at hz
      cases hz
      exact ⟨y, e2, h⟩
    · rw [Array.getElem?_setIfInBounds_ne (Ne.symm e)] at hz
      rw [Array.getElem?_setIfInBounds_ne (Ne.symm e)]
      exact t.alike i z hz
theorem Tabs.push {a b : Array GenState} (t : Tabs a b) (c : Code) : Tabs (a.push (.fresh c)) (b.push (.fresh c)) where
  size := by simp [t.size]
  alike := fun i z hz => by
    rw [Array.getElem?_push] at hz
    rw [Array.getElem?_push, ← t.size]
    by_cases e : i = a.size
    · rw [if_pos e] at hz ⊢
      cases hz
      exact ⟨_, rfl, .fre c⟩
    · rw [if_neg e] at hz ⊢
      exact t.alike i z hz
theorem Asleep.set {a b : Array GenState} {g : Nat} {x y : GenState} (h : ∀ l c p fs cl, a[g]? ≠ some (.suspended deaf l c p fs cl)) : Asleep a b (a.setIfInBounds g x) (b.setIfInBounds g y) := fun i l c p fs cl e => by
  have ne : g ≠ i := fun z => h l c p fs cl (z ▸ e)
  rw [Array.getElem?_setIfInBounds_ne ne, Array.getElem?_setIfInBounds_ne ne]
  exact ⟨e, rfl⟩
theorem Asleep.push {a b : Array GenState} (hs : a.size = b.size) (c : Code) : Asleep a b (a.push (.fresh c)) (b.push (.fresh c)) := fun i l cc p fs cl e => by
  have hi : i < a.size := (Array.getElem?_eq_some_iff.mp e).1
  rw [Array.getElem?_push, Array.getElem?_push, if_neg (Nat.ne_of_lt hi), if_neg (by rw [← hs]; exact Nat.ne_of_lt hi)]
  exact ⟨e, rfl⟩

theorem Asleep.about {a G a1 G1 a2 G2 : Array GenState} {g : Nat} {x y z u : GenState} (hne : ∀ l c p fs cl, a[g]? ≠ some (.suspended deaf l c p fs cl))
    (b1 : Asleep (a.setIfInBounds g x) (G.setIfInBounds g y) a1 G1) (b2 : Asleep (a1.setIfInBounds g z) (G1.setIfInBounds g u) a2 G2) : Asleep a G a2 G2 := fun i l c p fs cl e => by
  have ne : g ≠ i := fun z => hne l c p fs cl (z ▸ e)
  obtain ⟨q1, q2⟩ := b1 i l c p fs cl (by rw [Array.getElem?_setIfInBounds_ne ne]; exact e)
  obtain ⟨q3, q4⟩ := b2 i l c p fs cl (by rw [Array.getElem?_setIfInBounds_ne ne]; exact q1)
  rw [Array.getElem?_setIfInBounds_ne ne] at q2 q4
  exact ⟨q3, q4.trans q2⟩
/-- nothing runs on out of what is not supported -/
theorem no_run {M : Model} {Γ : PySem.Ctx} {p : Pos} {t : Sem PySem.Fin} {fs : List Frame} {s s' : Shared} {e : End} (h : Runs M Γ p t fs s e s') : ∀ w, t ≠ .unsupported w := by
  induction h with
  | segRet _ _ a _ => exact a
  | segGen _ _ a _ => exact a
  | segSuspOut _ _ a => exact a
  | segSuspGen _ _ _ _ a _ => exact a
  | _ => intro w z; cases z

theorem split_app {a b : List Frame} (ha : splitAtGen a = none) (hb : splitAtGen b = none) : splitAtGen (a ++ b) = none := by
  induction a with
  | nil => exact hb
  | cons F r ih =>
    cases F with
    | gen g k l c p => cases ha
    | ret k h g l c p kp =>
      have e : (splitAtGen r).map (fun x => ((Frame.ret k h g l c p kp) :: x.1, x.2.1, x.2.2)) = none := ha
      have er : splitAtGen r = none := by
        cases q : splitAtGen r with
        | none => rfl
        | some x => rw [q] at e; cases e
      show (splitAtGen (r ++ b)).map _ = none
      rw [ih er]; rfl
theorem split_tail {F : Frame} {r : List Frame} (h : splitAtGen (F :: r) = none) : splitAtGen r = none := by
  cases F with
  | gen g k l c p => cases h
  | ret k hh g l c p kp =>
    have e : (splitAtGen r).map (fun x => ((Frame.ret k hh g l c p kp) :: x.1, x.2.1, x.2.2)) = none := h
    cases q : splitAtGen r with
    | none => rfl
    | some x => rw [q] at e; cases e

/-- how a run may end: no generator's frame is left in it -/
def Tidy : End → Prop
  | .ret _ => True
  | .susp _ _ _ _ _ _ fs => splitAtGen fs = none
theorem Alike.ended {e : End} (h : Tidy e) : Alike e.genState e.genState := by
  cases e with
  | ret _ => exact .fin
  | susp v g l k c p fs => exact .sus k l c p fs _ h


/-- THE TWIN RUN: what a run does beside deaf sleepers it does beside any -/
theorem twin {M : Model} {Γ : PySem.Ctx} {p : Pos} {t : Sem PySem.Fin} {fs : List Frame} {s s' : Shared} {e : End} (h : Runs M Γ p t fs s e s') :
    splitAtGen fs = none → ∀ G, Tabs s.gens G → ∃ G', Tabs s'.gens G' ∧ Asleep s.gens G s'.gens G' ∧ Tidy e ∧ Runs M Γ p t fs { s with gens := G } e { s' with gens := G' } := by
  induction h with
  | done => intro _ G t; exact ⟨G, t, .rfl', trivial, .done⟩
  | raise => intro _ G t; exact ⟨G, t, .rfl', trivial, .raise⟩
  | again hq _ ih => intro hf G t; obtain ⟨G', a, b, c, d⟩ := ih hf G t; exact ⟨G', a, b, c, .again hq d⟩
  | rule _ ih => intro hf G t; obtain ⟨G', a, b, c, d⟩ := ih hf G t; exact ⟨G', a, b, c, .rule d⟩
  | «at» _ ih => intro hf G t; obtain ⟨G', a, b, c, d⟩ := ih hf G t; exact ⟨G', a, b, c, .at d⟩
  | load ho _ ih => intro hf G t; obtain ⟨G', a, b, c, d⟩ := ih hf G t; exact ⟨G', a, b, c, .load ho d⟩
  | update ho _ ih => intro hf G t; obtain ⟨G', a, b, c, d⟩ := ih hf G t; exact ⟨G', a, b, c, .update ho d⟩
  | loadIfAlive _ ih => intro hf G t; obtain ⟨G', a, b, c, d⟩ := ih hf G t; exact ⟨G', a, b, c, .loadIfAlive d⟩
  | point _ ih => intro hf G t; obtain ⟨G', a, b, c, d⟩ := ih hf G t; exact ⟨G', a, b, c, .point d⟩
  | alloc _ ih => intro hf G t; obtain ⟨G', a, b, c, d⟩ := ih hf G t; exact ⟨G', a, b, c, .alloc d⟩
  | fresh _ ih => intro hf G t; obtain ⟨G', a, b, c, d⟩ := ih hf G t; exact ⟨G', a, b, c, .fresh d⟩
  | ask _ ih => intro hf G t; obtain ⟨G', a, b, c, d⟩ := ih hf G t; exact ⟨G', a, b, c, .ask d⟩
  | choose hn _ ih => intro hf G t; obtain ⟨G', a, b, c, d⟩ := ih hf G t; exact ⟨G', a, b, c, .choose hn d⟩
  | os _ ih => intro hf G t; obtain ⟨G', a, b, c, d⟩ := ih hf G t; exact ⟨G', a, b, c, .os d⟩
  | handled _ ih => intro hf G t; obtain ⟨G', a, b, c, d⟩ := ih hf G t; exact ⟨G', a, b, c, .handled d⟩
  | stack _ ih => intro hf G t; obtain ⟨G', a, b, c, d⟩ := ih hf G t; exact ⟨G', a, b, c, .stack d⟩
  | thread _ ih => intro hf G t; obtain ⟨G', a, b, c, d⟩ := ih hf G t; exact ⟨G', a, b, c, .thread d⟩
  | genState hg _ ih =>
    intro hf G t
    obtain ⟨y, hy, al⟩ := t.alike _ _ hg
    obtain ⟨G', a, b, c, d⟩ := ih hf G t
    rw [al.seen] at d
    exact ⟨G', a, b, c, .genState hy d⟩
  | newGen _ ih =>
    intro hf G t
    obtain ⟨G', a, b, c, d⟩ := ih hf _ (t.push _)
    refine ⟨G', a, (Asleep.push t.size _).trans b, c, .newGen ?_⟩
    have es := t.size
    simp only at es d ⊢
    rw [← es]
    exact d
  | call _ _ ih1 ih2 =>
    intro hf G t
    obtain ⟨G1, a1, b1, c1, d1⟩ := ih1 rfl G t
    obtain ⟨G2, a2, b2, c2, d2⟩ := ih2 hf G1 a1
    exact ⟨G2, a2, b1.trans b2, c2, .call d1 d2⟩
  | callSusp _ ih =>
    intro hf G t
    obtain ⟨G1, a1, b1, c1, d1⟩ := ih rfl G t
    exact ⟨G1, a1, b1, split_app c1 rfl, .callSusp d1⟩
  | yield => intro hf G t; exact ⟨G, t, .rfl', rfl, .yield⟩
  | resumeFresh hg _ hq _ ih1 ih2 =>
    intro hf G t
    obtain ⟨y, hy, al⟩ := t.alike _ _ hg
    cases al
    obtain ⟨G1, a1, b1, c1, d1⟩ := ih1 rfl _ (t.set _ .run)
    obtain ⟨G2, a2, b2, c2, d2⟩ := ih2 hf _ (a1.set _ (.ended c1))
    exact ⟨G2, a2, Asleep.about (fun l c p fs cl z => by rw [hg] at z; cases z) b1 b2, c2, .resumeFresh hy d1 hq d2⟩
  | resumeSuspended hg h1 hq _ ih1 ih2 =>
    intro hf G t
    obtain ⟨y, hy, al⟩ := t.alike _ _ hg
    cases al with
    | msk k => exact absurd rfl (no_run h1 "")
    | sus _ _ _ _ _ _ hc =>
      obtain ⟨G1, a1, b1, c1, d1⟩ := ih1 hc _ (t.set _ .run)
      obtain ⟨G2, a2, b2, c2, d2⟩ := ih2 hf _ (a1.set _ (.ended c1))
      refine ⟨G2, a2, Asleep.about (fun l c p fs cl z => ?_) b1 b2, c2, .resumeSuspended hy d1 hq d2⟩
      rw [hg] at z
      cases z
      exact absurd rfl (no_run h1 "")
  | resumeJustStarted hg hv _ ih =>
    intro hf G t
    obtain ⟨y, hy, al⟩ := t.alike _ _ hg
    cases al
    obtain ⟨G', a, b, c, d⟩ := ih hf G t; exact ⟨G', a, b, c, .resumeJustStarted hy hv d⟩
  | resumeThrowFresh hg _ ih =>
    intro hf G t
    obtain ⟨y, hy, al⟩ := t.alike _ _ hg
    cases al
    obtain ⟨G', a, b, c, d⟩ := ih hf _ (t.set _ .fin)
    exact ⟨G', a, Asleep.trans (Asleep.set fun l c p fs cl z => by rw [hg] at z; cases z) b, c, .resumeThrowFresh hy d⟩
  | resumeRunning hg _ ih =>
    intro hf G t
    obtain ⟨y, hy, al⟩ := t.alike _ _ hg
    cases al
    obtain ⟨G', a, b, c, d⟩ := ih hf G t; exact ⟨G', a, b, c, .resumeRunning hy d⟩
  | resumeFinished hg _ ih =>
    intro hf G t
    obtain ⟨y, hy, al⟩ := t.alike _ _ hg
    cases al
    obtain ⟨G', a, b, c, d⟩ := ih hf G t; exact ⟨G', a, b, c, .resumeFinished hy d⟩
  | segRet _ _ ih1 ih2 =>
    intro hf G t
    obtain ⟨G1, a1, b1, c1, d1⟩ := ih1 rfl G t
    obtain ⟨G2, a2, b2, c2, d2⟩ := ih2 (split_tail hf) G1 a1
    exact ⟨G2, a2, b1.trans b2, c2, .segRet d1 d2⟩
  | segGen _ _ _ _ => intro hf; cases hf
  | segSuspOut hs _ ih =>
    intro hf G t
    obtain ⟨G1, a1, b1, c1, d1⟩ := ih rfl G t
    exact ⟨G1, a1, b1, split_app c1 hf, .segSuspOut hs d1⟩
  | segSuspGen hs _ _ _ _ _ => intro hf; rw [hs] at hf; cases hf
end TF

namespace TF
open PySem PySem.Spec PyProof.Rows L2
open Sem (wp)

theorem twin_wakes {M : Model} {Γ : PySem.Ctx} {p : Pos} {g : Nat} {r : Resume} {s s' : Shared} {res : GenResult} (h : Wakes M Γ p g r s res s') (G : Array GenState) (t : Tabs s.gens G) :
    ∃ G', Tabs s'.gens G' ∧ Asleep s.gens G s'.gens G' ∧ Wakes M Γ p g r { s with gens := G } res { s' with gens := G' } := by
  unfold Wakes at h
  split at h
  · exact h.elim
  · rename_i c hg
    obtain ⟨y, hy, al⟩ := t.alike _ _ hg
    cases al
    split at h
    · obtain ⟨e₁, s₁, hr, hq, rfl, rfl⟩ := h
      obtain ⟨G1, a1, b1, c1, d1⟩ := twin hr rfl _ (t.set g .run)
      refine ⟨G1.setIfInBounds g e₁.genState, a1.set g (.ended c1), Asleep.about (fun l c p fs cl z => by rw [hg] at z; cases z) b1 .rfl', ?_⟩
      unfold Wakes
      rw [show ({ s with gens := G } : Shared).gens[g]? = _ from hy]
      exact ⟨e₁, _, d1, hq, rfl, rfl⟩
    · rename_i v hv
      obtain ⟨rfl, rfl⟩ := h
      exact ⟨G, t, .rfl', Sem.wakes_justStarted M Γ hy hv⟩
    · obtain ⟨rfl, rfl⟩ := h
      refine ⟨G.setIfInBounds g .finished, t.set g .fin, Asleep.set (fun l c p fs cl z => by rw [hg] at z; cases z), ?_⟩
      unfold Wakes
      rw [show ({ s with gens := G } : Shared).gens[g]? = _ from hy]
      exact ⟨rfl, rfl⟩
  · rename_i hg
    obtain ⟨y, hy, al⟩ := t.alike _ _ hg
    obtain ⟨e₁, s₁, hr, hq, rfl, rfl⟩ := h
    cases al with
    | msk k => exact absurd rfl (no_run hr "")
    | sus _ _ _ _ _ _ hc =>
      obtain ⟨G1, a1, b1, c1, d1⟩ := twin hr hc _ (t.set g .run)
      refine ⟨G1.setIfInBounds g e₁.genState, a1.set g (.ended c1), Asleep.about (fun l c p fs cl z => ?_) b1 .rfl', ?_⟩
      · rw [hg] at z
        cases z
        exact absurd rfl (no_run hr "")
      · unfold Wakes
        rw [show ({ s with gens := G } : Shared).gens[g]? = _ from hy]
        exact ⟨e₁, _, d1, hq, rfl, rfl⟩
  · rename_i hg
    obtain ⟨y, hy, al⟩ := t.alike _ _ hg
    cases al
    obtain ⟨rfl, rfl⟩ := h
    refine ⟨G, t, .rfl', ?_⟩
    unfold Wakes
    rw [show ({ s' with gens := G } : Shared).gens[g]? = _ from hy]
    exact ⟨rfl, rfl⟩
  · rename_i hg
    obtain ⟨y, hy, al⟩ := t.alike _ _ hg
    cases al
    obtain ⟨rfl, rfl⟩ := h
    refine ⟨G, t, .rfl', ?_⟩
    unfold Wakes
    rw [show ({ s' with gens := G } : Shared).gens[g]? = _ from hy]
    exact ⟨rfl, rfl⟩

/-- behind a twin run from a, G: the state S beside s -/
def Beside (a G : Array GenState) {α : Type} (Q : α → Pos → Shared → Prop) : α → Pos → Shared → Prop := fun x p S =>
  ∃ s', Tabs s'.gens S.gens ∧ S = { s' with gens := S.gens } ∧ Asleep a G s'.gens S.gens ∧ Q x p s'
theorem Beside.of {a G a1 G1 : Array GenState} {α : Type} {Q : α → Pos → Shared → Prop} (k : Asleep a G a1 G1) {x : α} {p : Pos} {S : Shared} (h : Beside a1 G1 Q x p S) : Beside a G Q x p S := by
  obtain ⟨s', h1, h2, h3, h4⟩ := h
  exact ⟨s', h1, h2, k.trans h3, h4⟩
theorem twin_wp {α : Type} {M : Model} {Γ : PySem.Ctx} (t : Sem α) : ∀ (Q : α → Pos → Shared → Prop) (E : Value → Pos → Shared → Prop) (p : Pos) (s : Shared) (G : Array GenState), Tabs s.gens G → wp M Γ t Q E p s →
    wp M Γ t (Beside s.gens G Q) (Beside s.gens G E) p { s with gens := G } := by
  induction t with
  | pure a => intro Q E p s G t h; exact ⟨s, t, rfl, .rfl', h⟩
  | raise e => intro Q E p s G t h; exact ⟨s, t, rfl, .rfl', h⟩
  | unsupported _ => intro Q E p s G _ h; exact h
  | finish _ => intro Q E p s G _ h; exact h
  | rule _ k ih => intro Q E p s G t h; exact ih () Q E p s G t h
  | «at» p' k ih => intro Q E p s G t h; exact ih () Q E p' s G t h
  | load a _ k ih => intro Q E p s G t h; obtain ⟨o, ho, h⟩ := h; exact ⟨o, ho, ih o Q E p s G t h⟩
  | update a _ f k ih => intro Q E p s G t h; exact ⟨h.1, ih () Q E p { s with heap := s.heap.update a f } G t h.2⟩
  | loadIfAlive a k ih => intro Q E p s G t h; exact ih _ Q E p s G t h
  | point _ k ih => intro Q E p s G t h; exact ih () Q E p s G t h
  | register _ _ => intro Q E p s G _ h; exact h
  | alloc o k ih => intro Q E p s G t h; exact ih _ Q E p { s with heap := s.heap.push o } G t h
  | fresh k ih => intro Q E p s G t h; exact ih _ Q E p { s with toks := s.toks + 1 } G t h
  | ask k ih => intro Q E p s G t h; exact ih _ Q E p s G t h
  | choose src m k ih => intro Q E p s G t h; exact ⟨h.1, ih _ Q E p { s with drawn := s.drawn.bump src } G t h.2⟩
  | os q _ k ih => intro Q E p s G t h; exact ih _ Q E p { s with os := (Os.step s.os q).1 } G t h
  | call c hd _ _ k ih =>
    intro Q E p s G t h
    obtain ⟨r, s', hr, h⟩ := h
    obtain ⟨G1, a1, b1, _, d1⟩ := twin hr rfl G t
    exact ⟨r, _, d1, Sem.wp_mono M Γ _ (fun _ _ _ z => z.of b1) (fun _ _ _ z => z.of b1) p _ (ih r Q E p s' G1 a1 h)⟩
  | handled own k ih => intro Q E p s G t h; exact ih _ Q E p s G t h
  | genState g k ih =>
    intro Q E p s G t h
    obtain ⟨st, hs, h⟩ := h
    obtain ⟨y, hy, al⟩ := t.alike _ _ hs
    refine ⟨y, hy, ?_⟩
    rw [← al.seen]
    exact ih _ Q E p s G t h
  | newGen c k ih =>
    intro Q E p s G t h
    have q := ih _ Q E p { s with gens := s.gens.push (.fresh c) } _ (t.push c) h
    show wp M Γ (k G.size) _ _ p _
    rw [← t.size]
    exact Sem.wp_mono M Γ _ (fun _ _ _ z => z.of (Asleep.push t.size c)) (fun _ _ _ z => z.of (Asleep.push t.size c)) p _ q
  | resume g r _ k ih =>
    intro Q E p s G t h
    obtain ⟨res, s', hw, h⟩ := h
    obtain ⟨G1, a1, b1, d1⟩ := twin_wakes hw G t
    exact ⟨res, _, d1, Sem.wp_mono M Γ _ (fun _ _ _ z => z.of b1) (fun _ _ _ z => z.of b1) p _ (ih res Q E p s' G1 a1 h)⟩
  | yield _ _ _ _ => intro Q E p s G _ h; exact h
  | stack k ih => intro Q E p s G t h; exact ih _ Q E p s G t h
  | fork _ _ => intro Q E p s G _ h; exact h
  | thread k ih => intro Q E p s G t h; exact ih _ Q E p s G t h
  | await _ _ _ _ _ => intro Q E p s G _ h; exact h

/-- the table with every sleeper deaf -/
def hushed (s : Shared) : Shared := { s with gens := s.gens.map hush }
theorem tabs_hushed (a : Array GenState) : Tabs (a.map hush) a where
  size := by simp
  alike := fun i x h => by
    rw [Array.getElem?_map] at h
    cases q : a[i]? with
    | none => rw [q] at h; cases h
    | some y => rw [q] at h; cases h; exact ⟨y, rfl, .hushed y⟩
/-- S is as s, and all sleepers of the table G sleep on in it -/
structure Woke (G : Array GenState) (s S : Shared) : Prop where
  tabs : Tabs s.gens S.gens
  same : S = { s with gens := S.gens }
  stay : ∀ (i : Nat) k l c p fs cl, G[i]? = some (.suspended k l c p fs cl) → S.gens[i]? = G[i]?
/-- THE RULE: what is done beside deaf sleepers -/
theorem wpAny_deaf {α : Type} {M : Model} {A : Around} {t : Sem α} {Q : α → Shared → Prop} {E : Value → Shared → Prop} {s : Shared} (h : wpAny M A t Q E (hushed s)) :
    wpAny M A t (fun a S => ∃ s', Woke s.gens s' S ∧ Q a s') (fun e S => ∃ s', Woke s.gens s' S ∧ E e s') s := by
  intro Γ p hΓ
  have q := twin_wp t _ _ p (hushed s) s.gens (tabs_hushed s.gens) (h Γ p hΓ)
  have fin : ∀ {s' S : Shared}, Asleep (s.gens.map hush) s.gens s'.gens S.gens → ∀ (i : Nat) k l c p fs cl, s.gens[i]? = some (.suspended k l c p fs cl) → S.gens[i]? = s.gens[i]? := fun ha i k l c p fs cl e =>
    (ha i l c p fs cl (by rw [Array.getElem?_map, e]; rfl)).2
  exact Sem.wp_mono M Γ _ (fun _ _ _ ⟨s', h1, h2, h3, h4⟩ => ⟨s', ⟨h1, h2, fin h3⟩, h4⟩) (fun _ _ _ ⟨s', h1, h2, h3, h4⟩ => ⟨s', ⟨h1, h2, fin h3⟩, h4⟩) p _ q
theorem bare_tabs {a b : Array GenState} (t : Tabs a b) (h : AllBare a) : AllBare b := fun y hy => by
  obtain ⟨i, hi, e⟩ := Array.mem_iff_getElem.mp hy
  have hia : i < a.size := by rw [t.size]; exact hi
  obtain ⟨z, hz, al⟩ := t.alike i a[i] (Array.getElem?_eq_getElem hia)
  rw [Array.getElem?_eq_getElem hi, e] at hz
  cases hz
  rw [← al.bare]
  exact h _ (Array.getElem_mem hia)
theorem bare_hushed {s : Shared} (h : AllBare s.gens) : AllBare (hushed s).gens := fun y hy => by
  obtain ⟨x, hx, rfl⟩ := Array.mem_map.mp hy
  rw [(Alike.hushed x).bare]
  exact h x hx
/-- the invariant does not look at the table, but that it is bare -/
theorem Inv.hushed {X : Cx} {pins : List (Addr × Obj)} {σ : L2.St} {H : Hp} {s : Shared} (I : Inv X pins σ H s) : Inv X pins σ H (TF.hushed s) :=
  ⟨I.ok, I.os, bare_hushed I.bare, I.base, I.loc, I.cell, I.free, I.freeC, I.pin, I.hok, I.len⟩
theorem Inv.woke {X : Cx} {pins : List (Addr × Obj)} {σ : L2.St} {H : Hp} {G : Array GenState} {s S : Shared} (I : Inv X pins σ H s) (w : Woke G s S) : Inv X pins σ H S := by
  have e := w.same
  have b := bare_tabs w.tabs I.bare
  rw [e]
  exact ⟨I.ok, I.os, b, I.base, I.loc, I.cell, I.free, I.freeC, I.pin, I.hok, I.len⟩
end TF

/-! G1: a generator's body that sleeps while its consumer does what it likes -/
namespace TF
open PySem PySem.Spec PyProof.Rows L2 GenW

/-! ### the heap below an address -/
def under0 (h : Heap) (L : Addr) : Heap := ⟨h.objs.extract 0 L, h.life⟩
theorem under0_get {h : Heap} {L b : Addr} (hb : b < L) : (under0 h L).get? b = h.get? b := by
  unfold under0 Heap.get?
  have e : (h.objs.extract 0 L)[b]? = h.objs[b]? := by
    rw [Array.getElem?_extract]
    by_cases z : b < h.objs.size
    · rw [if_pos (show b < min L h.objs.size - 0 from Nat.lt_min.mpr ⟨hb, z⟩), Nat.zero_add]
    · rw [if_neg (show ¬ b < min L h.objs.size - 0 from fun q => z (Nat.lt_min.mp q).2), Array.getElem?_eq_none (Nat.le_of_not_lt z)]
  simp only [e]
theorem under0_size {h : Heap} {L : Addr} : (under0 h L).objs.size ≤ L := by
  show (h.objs.extract 0 L).size ≤ L
  rw [Array.size_extract]; exact Nat.min_le_left _ _
theorem under0_size' {h : Heap} {L n : Addr} (h1 : n ≤ L) (h2 : n ≤ h.objs.size) : n ≤ (under0 h L).objs.size := by
  show n ≤ (h.objs.extract 0 L).size
  rw [Array.size_extract]; exact Nat.le_min.mpr ⟨h1, h2⟩
theorem under0_of {h : Heap} {L b : Addr} {o : Obj} (e : (under0 h L).get? b = some o) : b < L ∧ h.get? b = some o := by
  have hb : b < L := Nat.lt_of_lt_of_le (Heap.lt_size e) under0_size
  exact ⟨hb, by rw [← under0_get hb]; exact e⟩
theorem under0_frames {h base : Heap} {L : Addr} : ∀ {l : List Env}, h.FunFrames base l → (∀ b ∈ frs l, b < L) → (under0 h L).FunFrames base l := by
  intro l
  induction l with
  | nil => intro _ _; trivial
  | cons env r ih =>
    rintro ⟨hk, ⟨a, o, hf, hn, ho, hd⟩, hr⟩ hl
    have ha : a < L := hl a (by unfold frs; rw [List.filterMap_cons, hf]; exact List.mem_cons_self)
    refine ⟨hk, ⟨a, o, hf, hn, (under0_get ha).trans ho, hd⟩, ih hr fun b hb => hl b ?_⟩
    unfold frs
    rw [List.filterMap_cons, hf]
    exact List.mem_cons_of_mem _ hb

/-! ### a generator's frame and what stands fast about it -/
structure Gx where
  P : Program
  w : World
  K : PySem.W.Frag
  mg : Str → Option Value
  base : Heap
  N : List Str
  qual : Str
  scope : Scope
  f : Addr
  cd : Value
  A : Around
  outer : List Env
  L : Addr
abbrev Gx.env (Y : Gx) : Env := envOfC Y.qual Y.scope Y.L Y.f Y.cd
/-- its context in a turn that begins at s, H -/
def Gx.cx (Y : Gx) (s : Shared) (H : Hp) : Cx where
  prog := Y.P
  w := Y.w
  K := Y.K
  mg := Y.mg
  base := Y.base
  A := Y.A.deeper Y.env
  N := Y.N
  s_0 := { s with heap := under0 s.heap Y.L }
  H_0 := H
  env := Y.env
  outer := Y.outer
  stack := Y.env :: Y.outer
  ex := []
  fn := fun _ => true
  calm := true
  pn := []
  xe := fun _ _ => False
/-- what stands fast -/
structure Gx.Fast (Y : Gx) : Prop where
  hd : Y.A.handled = none
  kind : Y.scope.kind = .function
  plain : ∀ y ∈ Y.scope.names, y.2 ≠ .cell ∧ y.2 ≠ .free
  above : Y.base.objs.size ≤ Y.L
  frs : ∀ b ∈ L2.frs Y.outer, b < Y.L

theorem cellsFrom_plain : ∀ (l : List (Str × NameKind)) (n : Nat), (∀ y ∈ l, y.2 ≠ .cell ∧ y.2 ≠ .free) → cellsFrom n l [] = [] := by
  intro l
  induction l with
  | nil => intro n _; rfl
  | cons a r ih =>
    intro n h
    obtain ⟨x, k⟩ := a
    have h1 := h (x, k) List.mem_cons_self
    have h2 := ih n fun y hy => h y (List.mem_cons_of_mem _ hy)
    cases k <;> first | exact h2 | exact absurd rfl h1.1 | exact absurd rfl h1.2
theorem Gx.Fast.cells {Y : Gx} (F : Y.Fast) (x : Str) (c : Addr) : Y.env.cells.lookup x ≠ some c := by
  show (cellsFrom (Y.L + 1) Y.scope.names []).lookup x ≠ some c
  rw [cellsFrom_plain _ _ F.plain]
  intro z; cases z
theorem Gx.Fast.nocell {Y : Gx} (F : Y.Fast) {x : Str} : ¬ (Y.env.kindOf x = some .cell ∨ Y.env.kindOf x = some .free) := by
  rintro (z | z)
  · exact (F.plain _ (PySem.mem_of_lookup (show Y.scope.names.lookup x = some .cell from z))).1 rfl
  · exact (F.plain _ (PySem.mem_of_lookup (show Y.scope.names.lookup x = some .free from z))).2 rfl

/-- the frame's slots as σ says -/
def Gx.Has (Y : Gx) (σ : L2.St) (h : Heap) : Prop :=
  ∃ m, h.Ns Y.L m ∧ ∀ (i : Nat) (x : Str) (v : V), Y.N[i]? = some x → σ[i]? = some (some v) → Vis Y.env.scope x → ∃ u, RelV v u ∧ Look Y.env h m x u
/-- the things that sleep with it stand still -/
def Still (ps : List (Addr × Obj)) (H : Hp) (h : Heap) : Prop := ∀ p ∈ ps, h.get? p.1 = some p.2 ∧ H p.1 = none
/-- they are its own -/
def Own (L : Addr) (ps : List (Addr × Obj)) : Prop := ∀ p ∈ ps, L < p.1 ∧ ∀ v, p.2.data ≠ .cell v

theorem Gx.wake {Y : Gx} (F : Y.Fast) {s : Shared} {H : Hp} {σ : L2.St} {ps : List (Addr × Obj)} (e0 : Env0 Y.P Y.w Y.K Y.mg Y.base Y.A Y.outer s H) (hl : Y.Has σ s.heap) (h0 : H Y.L = none) (hs : Still ps H s.heap) (ho : Own Y.L ps)
    (len : σ.length = Y.N.length) : Inv (Y.cx s H) ps σ H s where
  ok := ⟨e0.mod, F.kind, rfl, rfl, under0_size, fun x y c e _ => absurd e (F.cells x c), fun x h => absurd h F.nocell, fun x c _ e => absurd e (F.cells x c), fun _ => F.hd, Around.frames_deeper e0.frames, .inr ⟨rfl, rfl⟩,
    fun b z => absurd (show b ∈ ([] : List Addr) from z) (by simp),
    fun b o e => ⟨(under0_get (Nat.lt_of_lt_of_le (Heap.lt_size e) F.above)).trans (e0.bs b o e).1, (e0.bs b o e).2⟩, under0_size' F.above e0.bsz,
    fun b o _ z => absurd (show b ∈ ([] : List Addr) from z) (by simp), fun b z => absurd (show b ∈ ([] : List Addr) from z) (by simp), under0_frames e0.funs F.frs, e0.frf⟩
  os := rfl
  bare := e0.bare
  base := Un.kept fun b u e => (under0_of e).2
  loc := hl
  cell := fun x c e => absurd e (F.cells x c)
  free := h0
  freeC := fun x c e => absurd e (F.cells x c)
  pin := fun p hp => by
    have hp : p ∈ ps := hp
    obtain ⟨h1, h2⟩ := hs p hp
    obtain ⟨h3, h4⟩ := ho p hp
    exact ⟨h1, h2, Nat.ne_of_gt h3, fun z => absurd (F.frs p.1 z) (Nat.not_lt.mpr (Nat.le_of_lt h3)), h4⟩
  hok := e0.hok
  len := len

/-- what a turn from s, H to s', H' has done, for those who wait -/
structure Turned (P : Program) (w : World) (outer : List Env) (L : Addr) (s : Shared) (H : Hp) (s' : Shared) (H' : Hp) : Prop where
  os : s'.os = s.os
  bare : AllBare s'.gens
  un : ∃ ch, (∀ b ∈ ch, L ≤ b) ∧ Un (frs outer) ch H H' s.heap s'.heap
  hok : HOk P w H' s'.heap
theorem Inv.turned0 {Y : Gx} {ps : List (Addr × Obj)} {σ : L2.St} {H H' : Hp} {s s' : Shared} (I : Inv (Y.cx s H) ps σ H' s') : Turned Y.P Y.w Y.outer Y.L s H s' H' where
  os := I.os
  bare := I.bare
  hok := I.hok
  un := by
    refine ⟨(List.range s.heap.objs.size).filter fun b => decide (Y.L ≤ b), fun b hb => of_decide_eq_true (List.mem_filter.mp hb).2, ?_⟩
    have B : Un (frs Y.outer) [] H H' (under0 s.heap Y.L) s'.heap := I.base
    have low : ∀ {b : Addr} {o : Obj}, s.heap.get? b = some o → b ∉ (List.range s.heap.objs.size).filter (fun b => decide (Y.L ≤ b)) → (under0 s.heap Y.L).get? b = some o := fun {b o} e hb => by
      have hlt : b < Y.L := by
        apply Classical.byContradiction
        intro z
        exact hb (List.mem_filter.mpr ⟨List.mem_range.mpr (Heap.lt_size e), decide_eq_true (Nat.le_of_not_lt z)⟩)
      exact (under0_get hlt).trans e
    exact ⟨fun b o e n h1 h2 => B.keep b o (low e h2) n h1 (by simp), fun b o e n h1 h2 => B.slot b o (low e h2) n h1 (by simp), fun b o e n h2 => B.free b o (low e h2) n (by simp), fun b o e h2 => B.there b o (low e h2) (by simp),
      B.tups, B.frzs, B.tbls⟩
/-- its frame's object sleeps with the rest -/
theorem Inv.asleep {Y : Gx} {ps : List (Addr × Obj)} {σ : L2.St} {H H' : Hp} {s s' : Shared} (I : Inv (Y.cx s H) ps σ H' s') :
    ∃ oL, s'.heap.get? Y.L = some oL ∧ (∀ v, oL.data ≠ .cell v) ∧ Still ((Y.L, oL) :: ps) H' s'.heap ∧ ∀ h, h.get? Y.L = some oL → (∀ x c, Y.env.cells.lookup x ≠ some c) → Y.Has σ h := by
  obtain ⟨m, hn, hl⟩ := id I.loc
  obtain ⟨o, es, ep, ho, hd, r⟩ := id hn
  have hL : ∃ o : Obj, s'.heap.get? Y.L = some o := ⟨o, ho⟩
  refine ⟨o, ho, fun v z => (by rw [hd] at z; cases z), fun p hp => ?_, fun h e nc => ⟨m, ⟨o, es, ep, e, hd, r⟩, fun i x v e1 e2 e3 => ?_⟩⟩
  · rcases List.mem_cons.mp hp with z | z
    · rw [z]; exact ⟨ho, I.free⟩
    · obtain ⟨h1, h2, _⟩ := I.pin p (List.mem_append_right _ z)
      exact ⟨h1, h2⟩
  · obtain ⟨u, ru, l⟩ := hl i x v e1 e2 e3
    refine ⟨u, ru, ?_⟩
    rcases l with l | ⟨_, c, e, _⟩
    · exact .inl l
    · exact absurd e (nc x c)

/-! ### what a generator promises, and the protocol -/
/-- turn i from H: it hands out x in H' (go), or ends (stop); back: what the consumer may have done before the next turn -/
structure GJ where
  go : Nat → Hp → Prop
  yld : Nat → Hp → V → Hp → Prop
  back : Nat → Hp → Hp → Prop
  stop : Nat → Hp → Prop
  fin : Nat → Hp → Hp → Prop
  excl : ∀ i H, go i H → stop i H → False
/-- the consumer's own word at a turn's start: turns left, turn, heap, state -/
abbrev CI := Nat → Nat → Hp → Shared → Prop
def GYp (Y : Gx) (J : GJ) (C : CI) (a : Addr) (go : Obj) : Protocol := fun n s₀ v s kap =>
  ∃ i H x H' ps, C (n + 1) i H s₀ ∧ J.go i H ∧ J.yld i H x H' ∧ RelV x v ∧ Turned Y.P Y.w Y.outer Y.L s₀ H s H' ∧ Still ps H' s.heap ∧ (a, go) ∈ ps ∧ (∀ p ∈ ps, Y.L ≤ p.1 ∧ ∀ v, p.2.data ≠ .cell v) ∧
    ∀ s2 H2, C n (i + 1) H2 s2 → Env0 Y.P Y.w Y.K Y.mg Y.base Y.A Y.outer s2 H2 → Still ps H2 s2.heap → J.back i H' H2 → ((J.go (i + 1) H2 ∧ n ≠ 0) ∨ J.stop (i + 1) H2) → kap (.send .none) s2 ∧ kap (.send (.bool true)) s2
def GFin (Y : Gx) (J : GJ) (C : CI) (a : Addr) (go : Obj) (n : Nat) (s₀ s : Shared) : Prop :=
  ∃ i H H', C n i H s₀ ∧ J.stop i H ∧ J.fin i H H' ∧ Turned Y.P Y.w Y.outer Y.L s₀ H s H' ∧ s.heap.get? a = some go ∧ H' a = none
def GRp (Y : Gx) (J : GJ) (C : CI) (a : Addr) (go : Obj) : GenEnd := fun n s₀ r s =>
  ((r = .ok (.ret .none) ∨ r = .ok .next) ∧ GFin Y J C a go n s₀ s) ∨ ∃ e, r = .error e ∧ (fun (_ : Value) (_ : Shared) => False) e s

/-- what is wanted behind a statement of the body: turn, the heap at the turn's start, slots, heap -/
structure QEnds where
  nx : Nat → Hp → L2.St → Hp → Prop
  rt : Nat → Hp → VK
  bk : Nat → Hp → L2.St → Hp → Prop := fun _ _ _ _ => False
  ct : Nat → Hp → L2.St → Hp → Prop := fun _ _ _ _ => False
abbrev TQ := QEnds → Nat → Hp → L2.St → Hp → Prop
def QEnds.at (D : QEnds) (i : Nat) (B : Hp) : Ends := { nx := D.nx i B, rt := D.rt i B, bk := D.bk i B, ct := D.ct i B }
def QSP (Y : Gx) (ps : List (Addr × Obj)) (D : QEnds) (i : Nat) (B : Hp) (s₀ : Shared) (f : Flow) (s : Shared) : Prop :=
  match f with
  | .next => ∃ σ H, Inv (Y.cx s₀ B) ps σ H s ∧ D.nx i B σ H
  | .brk => ∃ σ H, Inv (Y.cx s₀ B) ps σ H s ∧ D.bk i B σ H
  | .cont => ∃ σ H, Inv (Y.cx s₀ B) ps σ H s ∧ D.ct i B σ H
  | .ret u => ∃ v σ H, Inv (Y.cx s₀ B) ps σ H s ∧ RelV v u ∧ D.rt i B v H
/-- a turn that runs: n more turns may follow -/
structure Amid (Y : Gx) (J : GJ) (C : CI) (T n i : Nat) (B : Hp) (s₀ : Shared) : Prop where
  ci : C n i B s₀
  way : (J.go i B ∧ n ≠ 0) ∨ J.stop i B
  sum : n + i = T
structure QC (Y : Gx) (a : Addr) (go : Obj) (ps : List (Addr × Obj)) (A : Around) (c : Code) (fs : List Frame) (gd : Bool → Bool) : Prop where
  fast : Y.Fast
  mine : (a, go) ∈ ps
  own : Own Y.L ps
  over : A.over c fs = Y.A.deeper Y.env
  split : splitAtGen fs = none
  guard : fs.any Frame.guarded = false
  gd : gd false = false
structure QK (Y : Gx) (J : GJ) (C : CI) (a : Addr) (go : Obj) (T : Nat) (ps : List (Addr × Obj)) (A : Around) (c : Code) (fs : List Frame) (K : Flow → Sem PySem.Fin) (D : QEnds) : Prop where
  ok : ∀ (n i : Nat) (B : Hp) (s₀ s : Shared) (f : Flow), Amid Y J C T n i B s₀ → QSP Y ps D i B s₀ f s → Seg (model Y.P Y.w) A (GRp Y J C a go) (GYp Y J C a go) n s₀ c (K f) fs s
structure QS (Y : Gx) (J : GJ) (st : Stmt) (t : TQ) : Prop where
  run : ∀ (C : CI) (a : Addr) (go : Obj) (T : Nat) (A : Around) (ps : List (Addr × Obj)) (n i : Nat) (B : Hp) (s₀ : Shared) (c : Code) (fs : List Frame) (K : Flow → Sem PySem.Fin) (Jx : Value → Sem PySem.Fin) (gd : Bool → Bool) (lv : List Value → List Value) (s : Shared) (σ : L2.St) (H : Hp) (D : QEnds),
    QC Y a go ps A c fs gd → Amid Y J C T n i B s₀ → QK Y J C a go T ps A c fs K D → Inv (Y.cx s₀ B) ps σ H s → t D i B σ H → Seg (model Y.P Y.w) A (GRp Y J C a go) (GYp Y J C a go) n s₀ c ((exec st Y.env).wrap K Jx gd lv) fs s
structure QSs (Y : Gx) (J : GJ) (st : List Stmt) (t : TQ) : Prop where
  run : ∀ (C : CI) (a : Addr) (go : Obj) (T : Nat) (A : Around) (ps : List (Addr × Obj)) (n i : Nat) (B : Hp) (s₀ : Shared) (c : Code) (fs : List Frame) (K : Flow → Sem PySem.Fin) (Jx : Value → Sem PySem.Fin) (gd : Bool → Bool) (lv : List Value → List Value) (s : Shared) (σ : L2.St) (H : Hp) (D : QEnds),
    QC Y a go ps A c fs gd → Amid Y J C T n i B s₀ → QK Y J C a go T ps A c fs K D → Inv (Y.cx s₀ B) ps σ H s → t D i B σ H → Seg (model Y.P Y.w) A (GRp Y J C a go) (GYp Y J C a go) n s₀ c ((execs st Y.env).wrap K Jx gd lv) fs s

section
variable {Y : Gx} {J : GJ} {st : Stmt} {rest : List Stmt}
theorem sp_qsp {ps : List (Addr × Obj)} {D : QEnds} {i : Nat} {B : Hp} {s₀ s : Shared} {f : Flow} (h : SP (Y.cx s₀ B) ps (D.at i B) f s) : QSP Y ps D i B s₀ f s := by
  cases f <;> exact h
/-- a statement (a block) that hands out nothing -/
def tQp (t : Shared → Hp → TS) : TQ := fun D i B σ H => ∀ s₀, t s₀ B (D.at i B) σ H
theorem qs_ps {t : Shared → Hp → TS} (h : ∀ s₀ B, PS (Y.cx s₀ B) st (t s₀ B)) : QS Y J st (tQp t) := by
  refine ⟨fun C a go T A ps n i B s₀ c fs K Jx gd lv s σ H D g am k hI ht => seg_wrap ?_⟩
  rw [g.over]
  exact wpAny_mono ((h s₀ B).run ps s σ H (D.at i B) hI (ht s₀)) (fun f s' hs => k.ok n i B s₀ s' f am (sp_qsp hs)) fun x s' hx => hx.elim
theorem qss_ps {t : Shared → Hp → TS} (h : ∀ s₀ B, PSs (Y.cx s₀ B) rest (t s₀ B)) : QSs Y J rest (tQp t) := by
  refine ⟨fun C a go T A ps n i B s₀ c fs K Jx gd lv s σ H D g am k hI ht => seg_wrap ?_⟩
  rw [g.over]
  exact wpAny_mono ((h s₀ B).run ps s σ H (D.at i B) hI (ht s₀)) (fun f s' hs => k.ok n i B s₀ s' f am (sp_qsp hs)) fun x s' hx => hx.elim
def tQ0 : TQ := fun D i B σ H => D.nx i B σ H
theorem qss_nil : QSs Y J [] tQ0 :=
  ⟨fun C a go T A ps n i B s₀ c fs K Jx gd lv s σ H D g am k hI ht => seg_execs_nil (k.ok n i B s₀ s .next am ⟨σ, H, hI, ht⟩)⟩
def tQThen (t u : TQ) : TQ := fun D i B σ H => t { D with nx := fun i' B' σ' H' => u D i' B' σ' H' } i B σ H
theorem qss_cons {t u : TQ} (x : QS Y J st t) (y : QSs Y J rest u) : QSs Y J (st :: rest) (tQThen t u) := by
  refine ⟨fun C a go T A ps n i B s₀ c fs K Jx gd lv s σ H D g am k hI ht => seg_execs_cons ?_⟩
  refine x.run C a go T A ps n i B s₀ c fs _ Jx gd lv s σ H { D with nx := fun i' B' σ' H' => u D i' B' σ' H' } g am ⟨fun n' i' B' s₀' s' f am' hs => ?_⟩ hI ht
  cases f with
  | next =>
    obtain ⟨σ', H', I', q⟩ := hs
    exact y.run C a go T A ps n' i' B' s₀' c fs K Jx gd lv s' σ' H' D g am' k I' q
  | brk => exact k.ok n' i' B' s₀' s' .brk am' hs
  | cont => exact k.ok n' i' B' s₀' s' .cont am' hs
  | ret v => exact k.ok n' i' B' s₀' s' (.ret v) am' hs

/-! ### yield -/
def tQYield (J : GJ) (te : Shared → Hp → TE) : TQ := fun D i B σ H => J.go i B ∧ ∀ s₀, te s₀ B σ H fun x H' => J.yld i B x H' ∧ ∀ H2, J.back i H' H2 → (J.go (i + 1) H2 ∨ J.stop (i + 1) H2) → D.nx (i + 1) H2 σ H2
theorem qs_yield {e : Expr} {yp pos : Pos} {te : Shared → Hp → TE} (he : ∀ s₀ B, PE (Y.cx s₀ B) e (te s₀ B)) (hco : Y.env.scope.isCoroutine = false := by rfl) (hi : interactive Y.env = false := by rfl) : QS Y J (.Expr (.Yield (some e) yp) pos) (tQYield J te) := by
  refine ⟨fun C a go T A ps n i B s₀ c fs K Jx gd lv s σ H D g am k hI ht => ?_⟩
  cases n with
  | zero =>
    rcases am.way with z | z
    · exact absurd rfl z.2
    · exact (J.excl i B ht.1 z).elim
  | succ n =>
    refine seg_Expr_Yield g.split g.gd g.guard ?_ hco hi
    rw [g.over]
    refine wpAny_mono ((he s₀ B).run ps s σ H _ hI (ht.2 s₀)) (fun v s' hv => ?_) fun x s' hx => hx.elim
    obtain ⟨x, H', I', rv, hy, hb⟩ := hv
    have hgo := ht.1
    intro kap hk
    obtain ⟨oL, eL, dL, hst, has⟩ := Inv.asleep I'
    refine ⟨i, B, x, H', (Y.L, oL) :: ps, am.ci, hgo, hy, rv, Inv.turned0 I', hst, List.mem_cons_of_mem _ g.mine, fun p hp => ?_, fun s2 H2 hc e0 hst2 hbk hw => ?_⟩
    · rcases List.mem_cons.mp hp with z | z
      · rw [z]; exact ⟨Nat.le_refl _, dL⟩
      · exact ⟨Nat.le_of_lt (g.own p z).1, (g.own p z).2⟩
    · have hsL := hst2 (Y.L, oL) List.mem_cons_self
      have I2 : Inv (Y.cx s2 H2) ps σ H2 s2 := Gx.wake g.fast e0 (has _ hsL.1 fun x c => g.fast.cells x c) hsL.2 (fun p hp => hst2 p (List.mem_cons_of_mem _ hp)) g.own (by have := I'.len; exact this)
      have q := k.ok n (i + 1) H2 s2 s2 .next ⟨hc, hw, by have := am.sum; omega⟩ ⟨σ, H2, I2, hb H2 hbk (hw.elim (fun z => .inl z.1) .inr)⟩
      exact ⟨hk .none s2 q, hk (.bool true) s2 q⟩
end
end TF

/-! G2: while in such a body; the def's promise -/
namespace TF
open PySem PySem.Spec PyProof.Rows L2 GenW
section
variable {Y : Gx} {J : GJ}
/-- W: the word by a measure; a turn of the loop makes the measure less, or has handed something out -/
def tQWhile (c : Shared → Hp → TT) (tb : TQ) : TQ := fun D i B σ H => ∃ W : Nat → Nat → Hp → L2.St → Hp → Prop, (∃ m, W m i B σ H) ∧ ∀ m i B σ H, W m i B σ H → ∀ s₀,
  c s₀ B σ H fun b H1 => if b = true then ∃ N : Nat → Hp → L2.St → Hp → Prop, (∀ i' B' σ' H', N i' B' σ' H' → ∃ m', (i < i' ∨ (i = i' ∧ m' < m)) ∧ W m' i' B' σ' H') ∧ tb { D with nx := N, ct := N, bk := D.nx } i B σ H1 else D.nx i B σ H1
theorem QC.loop {a : Addr} {go : Obj} {ps : List (Addr × Obj)} {A : Around} {c c' : Code} {fs : List Frame} {gd : Bool → Bool} {k : Result → Sem PySem.Fin} {l kp : List Value} {p : Pos} (g : QC Y a go ps A c fs gd) (hw : c'.weight = 0) (hu : c'.cUnits = 0) :
    QC Y a go ps A c' (.ret k none (gd false) l c p kp :: fs) id := by
  refine ⟨g.fast, g.mine, g.own, (over_loop hw hu).trans g.over, ?_, ?_, rfl⟩
  · show Option.map _ (splitAtGen fs) = none
    rw [g.split, Option.map_none]
  · have h1 := g.gd
    have h2 := g.guard
    simp only [List.any_cons, Frame.guarded, h1, h2, Bool.or_self]
theorem qs_while {test : Expr} {body : List Stmt} {pos : Pos} {tc : Shared → Hp → TT} {tb : TQ} (hc : ∀ s₀ B, PT (Y.cx s₀ B) test (tc s₀ B)) (hb : QSs Y J body tb) : QS Y J (.While test body [] pos) (tQWhile tc tb) := by
  constructor
  intro C a go T A ps n i B s₀ c fs K Jx gd lv s σ H D g am k hI ht
  obtain ⟨W, ⟨m0, w0⟩, turn⟩ := ht
  apply seg_While
  intro p
  have loop : ∀ (n m i : Nat) (B : Hp) (s₀ s : Shared) (σ : L2.St) (H : Hp), Amid Y J C T n i B s₀ → W m i B σ H → Inv (Y.cx s₀ B) ps σ H s →
      Seg (model Y.P Y.w) A (GRp Y J C a go) (GYp Y J C a go) n s₀ (.whileLoop test body [] Y.env) ((model Y.P Y.w).den (.whileLoop test body [] Y.env))
        (.ret (fun r => ((match r with | .ok f => (.pure f : Sem Flow) | .error e => .raise e).onRaise (cameBack Y.env)).wrap K Jx gd lv) none (gd false) (lv []) c p [] :: fs) s := by
    intro n
    induction n using Nat.strongRecOn with
    | ind n ihn =>
      intro m
      induction m using Nat.strongRecOn with
      | ind m ihm =>
        intro i B s₀ s σ H am w hI
        have gl := QC.loop (k := fun r => ((match r with | .ok f => (.pure f : Sem Flow) | .error e => .raise e).onRaise (cameBack Y.env)).wrap K Jx gd lv) (c' := .whileLoop test body [] Y.env) (l := lv []) (kp := []) (p := p) g rfl rfl
        apply seg_whileLoop
        rw [gl.over]
        refine wpAny_mono ((hc s₀ B).run ps s σ H _ hI (turn m i B σ H w s₀)) (fun b s' hb' => ?_) fun x s' hx => hx.elim
        obtain ⟨H2, I2, q2⟩ := hb'
        by_cases e : b = true
        · rw [if_pos e] at q2 ⊢
          obtain ⟨N, hN, q2⟩ := q2
          refine hb.run C a go T A ps n i B s₀ _ _ _ _ id id s' σ H2 { D with nx := N, ct := N, bk := D.nx } gl am ⟨fun n' i' B' s₀' s3 f am' hs => ?_⟩ I2 q2
          have more : ∀ {σ3 : L2.St} {H3 : Hp}, Inv (Y.cx s₀' B') ps σ3 H3 s3 → N i' B' σ3 H3 → Seg (model Y.P Y.w) A (GRp Y J C a go) (GYp Y J C a go) n' s₀' (.whileLoop test body [] Y.env) (.pure (.again (.whileLoop test body [] Y.env)))
              (.ret (fun r => ((match r with | .ok f => (.pure f : Sem Flow) | .error e => .raise e).onRaise (cameBack Y.env)).wrap K Jx gd lv) none (gd false) (lv []) c p [] :: fs) s3 := fun {σ3 H3} I3 n3 => by
            obtain ⟨m', hm, w3⟩ := hN i' B' σ3 H3 n3
            have h1 := am.sum
            have h2 := am'.sum
            refine seg_again rfl ?_
            rcases hm with hm | ⟨hi, hm⟩
            · exact ihn n' (by omega) m' i' B' s₀' s3 σ3 H3 am' w3 I3
            · have en : n' = n := by omega
              subst en
              exact ihm m' hm i' B' s₀' s3 σ3 H3 am' w3 I3
          cases f with
          | next => obtain ⟨σ3, H3, I3, n3⟩ := hs; exact more I3 n3
          | cont => obtain ⟨σ3, H3, I3, n3⟩ := hs; exact more I3 n3
          | brk => exact seg_leaf (.ok .next) (k.ok n' i' B' s₀' s3 .next am' hs)
          | ret v => exact seg_leaf (.ok (.ret v)) (k.ok n' i' B' s₀' s3 (.ret v) am' hs)
        · rw [if_neg e] at q2 ⊢
          exact seg_execs_nil (seg_leaf (.ok .next) (k.ok n i B s₀ s' .next am ⟨σ, H2, I2, q2⟩))
  exact loop n m0 i B s₀ s σ H am w0 hI
end

/-! ### the def's promise -/
/-- the arguments, the heap at the call, what it then does -/
abbrev SpJ := List V → Hp → GJ → Prop
/-- a generator that has not begun: its frame stands at the size of the heap at the call -/
def GFresh (P : Program) (w : World) (K : PySem.W.Frag) (mg : Str → Option Value) (base : Heap) (k : Nat) (outer : List Env) (s : Shared) (J : GJ) (u : Value) (s' : Shared) : Prop :=
  ∃ (Y : Gx) (a : Addr) (g : Nat) (c : Code) (go oL : Obj), Y.P = P ∧ Y.w = w ∧ Y.K = K ∧ Y.mg = mg ∧ Y.base = base ∧ Y.outer = outer ∧ Y.L = s.heap.objs.size ∧ u = .ref a ∧ Y.L < a ∧ s'.heap.get? a = some go ∧ s'.heap.get? Y.L = some oL ∧ (∀ v, go.data ≠ .cell v) ∧ (∀ v, oL.data ≠ .cell v) ∧
    (∀ h : Heap, h.get? a = some go → h.IsGen a g) ∧ s'.gens[g]? = some (.fresh c) ∧ g < s'.gens.size ∧ s'.os = s.os ∧ AllBare s'.gens ∧ (∀ b o, s.heap.get? b = some o → s'.heap.get? b = some o) ∧
    ∀ (A : Around) (C : CI) (n : Nat) (s2 : Shared) (H2 : Hp), Room k A → Y.base.objs.size ≤ Y.L → (∀ b ∈ frs outer, b < Y.L) → C n 0 H2 s2 → Env0 P w K mg base A outer s2 H2 → Still [(Y.L, oL), (a, go)] H2 s2.heap → ((J.go 0 H2 ∧ n ≠ 0) ∨ J.stop 0 H2) →
      Seg (model P w) A (GRp { Y with A := A } J C a go) (GYp { Y with A := A } J C a go) n s2 c ((model P w).den c) [] s2
structure GDef (P : Program) (w : World) (K : PySem.W.Frag) (mg : Str → Option Value) (base : Heap) (k : Nat) (f : Addr) (fd : FuncData) (ps : List Str) (sp : SpJ) : Prop where
  len : ∀ vs H J, sp vs H J → vs.length = ps.length
  run : ∀ (A : Around) (outer : List Env) (s : Shared) (H : Hp) (args : Args) (us : List Value) (vs : List V) (J : GJ), Room k A → Env0 P w K mg base A outer s H → BindsTo s fd args (ps.zip us) → Vals vs us → sp vs H J →
    codeAny (model P w) A (.call (.ref f) args) (fun r s' => match r with | .ok (.ret u) => GFresh P w K mg base k outer s J u s' | _ => False) s
end TF

/-! G3: a generator def by its body -/
namespace TF
open PySem PySem.Spec PyProof.Rows L2 GenW
/-- the frame of such a def in a call -/
abbrev gxOf (P : Program) (w : World) (K : PySem.W.Frag) (mg : Str → Option Value) (base : Heap) (N : List Str) (qual : Str) (scope : Scope) (f : Addr) (cd : Value) (A : Around) (outer : List Env) (L : Addr) : Gx :=
  ⟨P, w, K, mg, base, N, qual, scope, f, cd, A, outer, L⟩
/-- its end -/
def qEnd (J : GJ) : QEnds := { nx := fun i B _ H => J.stop i B ∧ J.fin i B H, rt := fun i B v H => v = .non ∧ J.stop i B ∧ J.fin i B H }
theorem gdef_of {P : Program} {w : World} {K : PySem.W.Frag} {mg : Str → Option Value} {base : Heap} {k : Nat} {f : Addr} {name qual : Str} {params : Arguments} {body : List Stmt} {scope : Scope} {dV kV doc pm cdv ct oc : Value} {an od : Option Addr}
    {osl : Array (Option Value)} {N ps : List Str} {sp : SpJ} (lk : K.lookup f = some ⟨oc, od, .func (PySem.W.fnOf name qual params body scope dV kV doc pm an cdv ct), osl⟩) (hcd : PySem.W.codeIn K cdv qual = true) (S : GScope N ps scope)
    (plain : ∀ y ∈ scope.names, y.2 ≠ .cell ∧ y.2 ≠ .free) (len : ∀ vs H J, sp vs H J → vs.length = ps.length)
    (hbody : ∀ (A : Around) (outer : List Env) (L : Addr) (H : Hp) (vs : List V) (J : GJ), Room k (A.deeper (envOfC qual scope L f cdv)) → sp vs H J →
      ∃ t, QSs (gxOf P w K mg base N qual scope f cdv A outer L) J body t ∧ ∀ B, (J.go 0 B ∨ J.stop 0 B) → t (qEnd J) 0 B (start N vs) B) :
    GDef P w K mg base (k + 1) f (PySem.W.fnOf name qual params body scope dV kV doc pm an cdv ct) ps sp := by
  refine ⟨len, ?_⟩
  intro A outer s H args us vs J hr e0 hb r hsp
  have hl := len _ _ _ hsp
  have KX : K.In s.heap := e0.mod.kin.keeps fun b o e => (e0.bs b o e).1
  have lim : s.heap.NoLimit := e0.mod.nolimit.keeps fun b o e => (e0.bs b o e).1
  have kinds : ∀ y ∈ ps.zip us, scope.names.lookup y.1 = some .local ∨ (scope.names.lookup y.1 = some .cell ∧ ((cellsFrom (s.heap.objs.size + 1) scope.names []).lookup y.1).isSome = true) := by
    rintro ⟨n, v⟩ hy
    rcases S.par n (List.of_mem_zip hy).1 with q | q
    · exact .inl q
    · exact .inr ⟨q, PySem.W.cellsFrom_some _ _ _ (.inl q)⟩
  refine codeAny_call_generator hr.depth (KX _ _ lk) rfl S.co S.gen rfl (PySem.W.codeRec_of KX hcd) (hb _ _ _ _ ?_)
  refine wpAny_newFunctionEnv_cells S.kind kinds fun env he s1 x => ?_
  subst he
  refine ⟨lim.keeps x.toInCall.keep, ?_⟩
  obtain ⟨h1, tk, es1, hk1⟩ := x.done
  have I1 : Inv (gcxOf P w K mg base N qual scope f cdv A outer s H (fun _ _ _ => False) []) [] (start N vs) H s1 := inv_startG S hr.hd e0 hl r x
  obtain ⟨m, hns, hslots⟩ := I1.loc
  obtain ⟨oL, es, ep, hoL, hdL, rL⟩ := id hns
  have ltL : s.heap.objs.size < s1.heap.objs.size := x.toInCall.ns.lt
  have main : ∀ (go : Obj) (nm qn : Value) (tk2 : Nat), go.cls = .type "generator" → go.data = .fields #[.int s1.gens.size 0, nm, qn] → go.slots = #[] → (∀ h : Heap, (h.push go).get? h.objs.size = some go) →
      GFresh P w K mg base (k + 1) outer s J (.ref s1.heap.objs.size) { s1 with gens := s1.gens.push (.fresh (.func body (envOfC qual scope s.heap.objs.size f cdv))), toks := tk2, heap := s1.heap.push go } := by
    intro go nm qn tk2 g1 g2 g3 g4
    have dgo : ∀ v, go.data ≠ .cell v := fun v z => by rw [g2] at z; cases z
    have doL : ∀ v, oL.data ≠ .cell v := fun v z => by rw [hdL] at z; cases z
    refine ⟨gxOf P w K mg base N qual scope f cdv A outer s.heap.objs.size, s1.heap.objs.size, s1.gens.size, _, go, oL, rfl, rfl, rfl, rfl, rfl, rfl, rfl, rfl, ltL, g4 _, Heap.get?_push_of_some _ hoL, dgo, doL,
      fun h e => ⟨go, nm, qn, e, g1, g2, g3⟩, Array.getElem?_push_size .., ?_, I1.os, ?_, fun b o e => Heap.get?_push_of_some _ (x.toInCall.keep b o e), ?_⟩
    · show s1.gens.size < (s1.gens.push _).size
      rw [Array.size_push]; exact Nat.lt_succ_self _
    · exact AllBare.push I1.bare rfl
    intro A2 C n s2 H2 hr2 hab hfr hc e2 hst hw
    obtain ⟨t, ht, hq⟩ := hbody A2 outer s.heap.objs.size H vs J (hr2.deeper _) hsp
    have F : (gxOf P w K mg base N qual scope f cdv A2 outer s.heap.objs.size).Fast := ⟨hr2.hd, S.kind, plain, hab, hfr⟩
    have hL2 := hst (s.heap.objs.size, oL) List.mem_cons_self
    have ha2 := hst (s1.heap.objs.size, go) (List.mem_cons_of_mem _ List.mem_cons_self)
    have has : (gxOf P w K mg base N qual scope f cdv A2 outer s.heap.objs.size).Has (start N vs) s2.heap := by
      refine ⟨m, ⟨oL, es, ep, hL2.1, hdL, rL⟩, fun i y v e1 e2 e3 => ?_⟩
      obtain ⟨u, ru, l⟩ := hslots i y v e1 e2 e3
      refine ⟨u, ru, ?_⟩
      rcases l with l | ⟨_, c, e, _⟩
      · exact .inl l
      · exact absurd e (F.cells y c)
    have hown : Own s.heap.objs.size [(s1.heap.objs.size, go)] := fun p hp => by
      rw [List.mem_singleton.mp hp]; exact ⟨ltL, dgo⟩
    have I2 : Inv ((gxOf P w K mg base N qual scope f cdv A2 outer s.heap.objs.size).cx s2 H2) [(s1.heap.objs.size, go)] (start N vs) H2 s2 :=
      Gx.wake F e2 has hL2.2 (fun p hp => by rw [List.mem_singleton.mp hp]; exact ha2) hown I1.len
    refine seg_func ?_
    refine ht.run C s1.heap.objs.size go n A2 [(s1.heap.objs.size, go)] n 0 H2 s2 _ [] _ _ id id s2 (start N vs) H2 (qEnd J) ⟨F, List.mem_singleton.mpr rfl, hown, over_func, rfl, rfl, rfl⟩ ⟨hc, hw, Nat.add_zero _⟩ ⟨fun n' i B s₀ s' fl am hs => ?_⟩ I2
      (hq H2 (hw.elim (fun z => .inl z.1) .inr))
    have fin : ∀ {σ' : L2.St} {H' : Hp}, Inv ((gxOf P w K mg base N qual scope f cdv A2 outer s.heap.objs.size).cx s₀ B) [(s1.heap.objs.size, go)] σ' H' s' → J.stop i B → J.fin i B H' →
        ∀ r : Result, (r = .ok (.ret .none) ∨ r = .ok .next) → GRp (gxOf P w K mg base N qual scope f cdv A2 outer s.heap.objs.size) J C s1.heap.objs.size go n' s₀ r s' := fun {σ' H'} I' q1 q2 r hr => by
      obtain ⟨p1, p2, _⟩ := I'.pin (s1.heap.objs.size, go) (List.mem_append_right _ (List.mem_singleton.mpr rfl))
      exact .inl ⟨hr, i, B, H', am.ci, q1, q2, Inv.turned0 I', p1, p2⟩
    cases fl with
    | next => obtain ⟨σ', H', I', q1, q2⟩ := hs; exact seg_end (.ok (.ret .none)) (fin I' q1 q2 _ (.inl rfl))
    | brk => obtain ⟨_, _, _, q⟩ := hs; exact q.elim
    | cont => obtain ⟨_, _, _, q⟩ := hs; exact q.elim
    | ret u =>
      obtain ⟨v, σ', H', I', rv, ev, q1, q2⟩ := hs
      subst ev
      obtain rfl : u = Value.none := rv
      exact seg_end (.ok (.ret .none)) (fin I' q1 q2 _ (.inl rfl))
  exact main _ _ _ _ rfl rfl rfl fun h => Heap.get?_push_size _ rfl
end TF

/-! G4: for x in such a generator -/
namespace TF
open PySem PySem.Spec PyProof.Rows L2 GenW
/-- an expression whose value is such a generator, not yet begun -/
abbrev TJ := L2.St → Hp → (GJ → Hp → Prop) → Prop
structure PJ (X : Cx) (k : Nat) (e : Expr) (tj : TJ) : Prop where
  run : ∀ (pins : List (Addr × Obj)) (s : Shared) (σ : L2.St) (H : Hp) (R : GJ → Hp → Prop), Inv X pins σ H s → tj σ H R →
    wpAny (model X.prog X.w) X.A (eval e X.env) (fun u s' => ∃ H1 sc J, Inv X pins σ H1 sc ∧ GFresh X.prog X.w X.K X.mg X.base k X.stack sc J u s' ∧ R J H1) X.xe s
section
variable {X : Cx} {k : Nat}
/-- W: the word by turn and measure -/
def tForJ (tj : TJ) (g : TG) (tb : TS) : TS := fun D σ H => tj σ H fun J H1 => ∃ W : Nat → Nat → L2.St → Hp → Prop, (∃ m, W 0 m σ H1) ∧ ∀ i m σ H, W i m σ H →
  (J.stop i H ∧ ∀ H', J.fin i H H' → (∀ b xs, H b = some (.tup xs) → H' b = some (.tup xs)) → D.nx σ H') ∨
  (J.go i H ∧ ∃ N : Hp → L2.St → Hp → Prop, (∀ B σ' H', N B σ' H' → J.back i B H' ∧ ∃ m', m' < m ∧ W (i + 1) m' σ' H') ∧
    ∀ x H', J.yld i H x H' → (∀ b xs, H b = some (.tup xs) → H' b = some (.tup xs)) → g x σ H' fun σ2 H2 => tb { D with nx := N H', ct := N H', bk := D.nx } σ2 H2)
theorem nofail {α : Type} {M : Model} {A : Around} {t : Sem α} {Q : α → Shared → Prop} {E E' : Value → Shared → Prop} {s : Shared} (hx : ∀ e s, ¬ E e s) (h : wpAny M A t Q E s) : wpAny M A t Q E' s :=
  wpAny_mono h (fun _ _ q => q) fun e s q => (hx e s q).elim
/-- beside sleepers, where nothing is raised -/
theorem deafly {α : Type} {M : Model} {A : Around} {t : Sem α} {Q Q' : α → Shared → Prop} {E E' : Value → Shared → Prop} {s : Shared} (hx : ∀ e s, ¬ E e s) (h : wpAny M A t Q E (hushed s)) (k : ∀ a s' S, Woke s.gens s' S → Q a s' → Q' a S) : wpAny M A t Q' E' s :=
  wpAny_mono (wpAny_deaf h) (fun a S ⟨s', w, q⟩ => k a s' S w q) fun e S ⟨s', _, q⟩ => (hx e s' q).elim
theorem Inv.setGen {pins : List (Addr × Obj)} {σ : L2.St} {H : Hp} {s : Shared} (I : Inv X pins σ H s) (g : Nat) {x : GenState} (hx : x.bare = true) : Inv X pins σ H (s.setGen g x) :=
  ⟨I.ok, I.os, allBare_setGen I.bare hx, I.base, I.loc, I.cell, I.free, I.freeC, I.pin, I.hok, I.len⟩
theorem Woke.at {G : Array GenState} {s S : Shared} (w : Woke G s S) {g : Nat} {x : GenState} (h : G[g]? = some x) (hs : ∃ k l c p fs cl, x = .suspended k l c p fs cl) : S.gens[g]? = some x := by
  obtain ⟨k, l, c, p, fs, cl, rfl⟩ := hs
  rw [w.stay g k l c p fs cl h]; exact h
theorem Woke.heap {G : Array GenState} {s S : Shared} (w : Woke G s S) : S.heap = s.heap := by rw [w.same]

theorem ps_forJ {tg iter : Expr} {body : List Stmt} {tj : TJ} {g : TG} {tb : TS} {pos : Pos} (hx : ∀ e s, ¬ X.xe e s) (hc : X.calm = true) (hr : Room (k + 1) X.A) (hi : PJ X k iter tj) (hg : PG X tg g) (hb : PSs X body tb)
    (hs : ∀ x, foldedSetIterable iter X.env x = pure x := by intro _; rfl) : PS X (.For tg iter body [] pos) (tForJ tj g tb) := by
  constructor
  intro pins s σ H D I h
  refine wpAny_For (thn (hi.run pins s σ H _ I h) fun u s1 h1 => ?_) hs
  obtain ⟨H1, sc, J, Isc, ⟨Y, a, gi, c, go, oL, eP, ew, eK, emg, ebase, eout, eL, eu, haL, hga, hgL, dgo, doL, hgen, hgs, hglt, hos, hbare, hkp, wake⟩, W, ⟨m0, w0⟩, turn⟩ := h1
  subst eu
  have I1 : Inv X pins σ H1 s1 := Isc.call' (ch := []) hos (Un.kept hkp) (Isc.hok.kept hkp) hbare fun b z => by simp at z
  refine wpAny_pyIter_gen (hgen _ hga) ?_
  have pinsL : ∀ p ∈ X.pn ++ pins, p.1 < Y.L := fun p hp => by rw [eL]; exact Heap.lt_size (Isc.pin p hp).1
  have locL : X.env.locals < Y.L := by rw [eL]; exact Isc.lt
  have cellL : ∀ x cc, X.env.cells.lookup x = some cc → cc < Y.L := fun x cc e => by
    obtain ⟨v, o, ho, _⟩ := Isc.cell x cc e
    rw [eL]; exact Heap.lt_size ho
  have frsL : ∀ b ∈ frs X.stack, b < Y.L := fun b hb => by
    rw [eL]
    obtain ⟨_, o, ho, _⟩ := Isc.stack.mem hb
    exact Heap.lt_size ho
  have szL : X.s_0.heap.objs.size ≤ Y.L := by rw [eL]; exact Isc.sz
  have baseL : Y.base.objs.size ≤ Y.L := by rw [ebase]; exact Nat.le_trans Isc.ok.bsz szL
  have hchL : ∀ {ch : List Addr}, (∀ b ∈ ch, Y.L ≤ b) → ∀ b ∈ ch, (b ∈ X.ex ∨ X.s_0.heap.objs.size ≤ b) ∧ b ≠ X.env.locals ∧ (∀ x cc, X.env.cells.lookup x = some cc → cc ≠ b) ∧ ∀ p ∈ X.pn ++ pins, p.1 ≠ b := fun {ch} hch b hb =>
    ⟨.inr (Nat.le_trans szL (hch b hb)), Nat.ne_of_gt (Nat.lt_of_lt_of_le locL (hch b hb)), fun x cc e => Nat.ne_of_lt (Nat.lt_of_lt_of_le (cellL x cc e) (hch b hb)), fun p hp => Nat.ne_of_lt (Nat.lt_of_lt_of_le (pinsL p hp) (hch b hb))⟩
  -- the consumer's word at a turn's start
  let C : CI := fun n i H s => ∃ σ m, Inv X pins σ H s ∧ W i m σ H ∧ m < n
  let Y1 : Gx := { Y with A := X.A.in1 }
  have env1 : ∀ {σ' : L2.St} {H' : Hp} {s' : Shared} {ps' : List (Addr × Obj)}, Inv X ps' σ' H' s' → Env0 X.prog X.w X.K X.mg X.base X.A.in1 X.stack s' H' := fun I' => I'.env0.in1
  have way : ∀ {i m n : Nat} {σ' : L2.St} {H' : Hp}, W i m σ' H' → m < n → ((J.go i H' ∧ n ≠ 0) ∨ J.stop i H') := fun {i m n σ' H'} w hm => by
    rcases turn i m σ' H' w with ⟨z, _⟩ | ⟨z, _⟩
    · exact .inr z
    · exact .inl ⟨z, by omega⟩
  have back1 : ∀ {s0 s' : Shared} {σ' : L2.St} {H' H3 : Hp}, Inv X pins σ' H' s0 → Turned Y.P Y.w Y.outer Y.L s0 H' s' H3 → Inv X pins σ' H3 s' := fun {s0 s' σ' H' H3} I' t => by
    obtain ⟨q1, q2, ⟨ch, hch, un⟩, q4⟩ := t
    rw [eout] at un
    rw [eP, ew] at q4
    exact I'.call' q1 un q4 q2 (hchL hch)
  have tups1 : ∀ {s0 s' : Shared} {H' H3 : Hp}, Turned Y.P Y.w Y.outer Y.L s0 H' s' H3 → ∀ b xs, H' b = some (.tup xs) → H3 b = some (.tup xs) := fun t => by
    obtain ⟨_, _, ⟨ch, _, un⟩, _⟩ := t
    exact un.tups
  refine codeAny_forLoop_any (fun n s' => s'.heap.get? a = some go ∧ ∃ i σ' H' m gs, Inv X pins σ' H' s' ∧ W i m σ' H' ∧ m < n ∧ s'.gens[gi]? = some gs ∧
    gs.Goes (model X.prog X.w) X.A.in1 (GRp Y1 J C a go) (GYp Y1 J C a go) n (.send .none) (s'.setGen gi .running)) ?_ (m0 + 1) ⟨hga, 0, σ, H1, m0, .fresh c, I1, w0, Nat.lt_succ_self _, hgs, rfl, ?_⟩
  · -- a turn
    rintro n s' ⟨hga', i, σ', H', m, gs, I', w', hmn, hgs', hgo⟩
    refine nofail (E := fun _ _ => False) (fun _ _ z => z) (wpAny_gsz (n := gi + 1) (Array.getElem?_eq_some_iff.mp hgs').1 (next_genG (F := GFin Y1 J C a go) (Er := fun _ _ => False) (Y := GYp Y1 J C a go) (I'.ok.hd hc) I'.nolimit hr.depth (hgen _ hga') hgs' hgo (fun v s3 gs' hb' hy => ?_) (fun s3 hp h' hk => ?_) fun e s3 z => z.elim))
    · intro hsz
      obtain ⟨i2, H2, x, H3, ps, ⟨σ2, m2, I2, w2, hm2⟩, hgo2, hy2, rv, td, hst, hmem, hps, kap⟩ := hy
      obtain ⟨n, rfl⟩ : ∃ q, n = q + 1 := ⟨n - 1, by omega⟩
      have hn2 : m2 < n + 1 := by simpa using hm2
      rcases turn i2 m2 σ2 H2 w2 with ⟨z, _⟩ | ⟨_, N, hN, step⟩
      · exact (J.excl i2 H2 hgo2 z).elim
      have I3 : Inv X pins σ2 H3 s3 := back1 I2 td
      have I3g : Inv X pins σ2 H3 (s3.setGen gi gs') := Inv.setGen I3 gi hb'
      have hga3 : s3.heap.get? a = some go := (hst (a, go) hmem).1
      obtain ⟨ob, nm, qn, g1, g2, g3, g4⟩ := hgen _ hga3
      refine go_of (s := s3.setGen gi gs') g1 g2 g3 (by decide) ?_
      have I3p : Inv X (pins ++ ps) σ2 H3 (s3.setGen gi gs') := I3g.pins_of fun p hp => by
        rcases List.mem_append.mp hp with z | z
        · exact I3g.pin p (List.mem_append_right _ z)
        · obtain ⟨q1, q2⟩ := hst p z
          obtain ⟨q3, q4⟩ := hps p z
          exact ⟨q1, q2, Nat.ne_of_gt (Nat.lt_of_lt_of_le locL q3), fun hb => absurd (Nat.lt_of_lt_of_le (by
            obtain ⟨_, o, ho, _⟩ := Isc.funs.mem hb
            rw [eL]; exact Heap.lt_size ho) q3) (Nat.lt_irrefl _), q4⟩
      refine deafly hx (hg.run (pins ++ ps) _ σ2 H3 x v _ (Inv.hushed I3p) rv (step x H3 hy2 (tups1 td))) fun _ s4 S4 w4 q4 => ?_
      obtain ⟨σ4, H4, I4, q4⟩ := q4
      have I4 : Inv X (pins ++ ps) σ4 H4 S4 := Inv.woke I4 w4
      refine deafly hx (hb.run (pins ++ ps) _ σ4 H4 _ (Inv.hushed I4) q4) fun f s5 S5 w5 q5 => ?_
      have kept : ∀ x, (∃ k l c p fs cl, x = GenState.suspended k l c p fs cl) → (s3.setGen gi gs').gens[gi]? = some x → S5.gens[gi]? = some x := fun x hx e => w5.at (w4.at e hx) hx
      have hin : (s3.setGen gi gs').gens[gi]? = some gs' := by
        refine setGen_at ?_
        have q : (s3.setGen gi gs').gens.size = s3.gens.size := setGen_size _ _ _
        have q2 : gi + 1 ≤ (s3.setGen gi gs').gens.size := hsz
        omega
      have again : ∀ {σ5 : L2.St} {H5 : Hp}, Inv X (pins ++ ps) σ5 H5 s5 → N H3 σ5 H5 → ∃ q, q < n + 1 ∧ (S5.heap.get? a = some go ∧ ∃ i σ' H' m gs, Inv X pins σ' H' S5 ∧ W i m σ' H' ∧ m < q ∧ S5.gens[gi]? = some gs ∧
          gs.Goes (model X.prog X.w) X.A.in1 (GRp Y1 J C a go) (GYp Y1 J C a go) q (.send .none) (S5.setGen gi .running)) := fun {σ5 H5} I5 n5 => by
        have I5 : Inv X (pins ++ ps) σ5 H5 S5 := Inv.woke I5 w5
        obtain ⟨hbk, m5, hm5, w5'⟩ := hN H3 σ5 H5 n5
        have hm5n : m5 < n := by omega
        have stl : Still ps H5 S5.heap := fun p hp => by
          obtain ⟨q1, q2, _⟩ := I5.pin p (List.mem_append_right _ (List.mem_append_right _ hp))
          exact ⟨q1, q2⟩
        have I5u : Inv X pins σ5 H5 S5 := I5.unpinned
        have I5r : Inv X pins σ5 H5 (S5.setGen gi .running) := Inv.setGen I5u gi rfl
        have e0 : Env0 Y1.P Y1.w Y1.K Y1.mg Y1.base Y1.A Y1.outer (S5.setGen gi .running) H5 := by
          show Env0 Y.P Y.w Y.K Y.mg Y.base X.A.in1 Y.outer _ _
          rw [eP, ew, eK, emg, ebase, eout]
          exact env1 I5r
        obtain ⟨k1, k2⟩ := kap (S5.setGen gi .running) H5 ⟨σ5, m5, I5r, w5', by simpa using hm5n⟩ e0 stl hbk (way w5' (by simpa using hm5n))
        refine ⟨n, Nat.lt_succ_self _, (stl (a, go) hmem).1, i2 + 1, σ5, H5, m5, gs', I5u, w5', hm5n, ?_, k1⟩
        cases gs' with
        | fresh cc => exact absurd k2.1 (by intro z; cases z)
        | running => exact k2.elim
        | finished => exact k2.elim
        | suspended k l cc p fs cl => exact kept _ ⟨k, l, cc, p, fs, cl, rfl⟩ hin
      cases f with
      | next => obtain ⟨σ5, H5, I5, n5⟩ := q5; exact again I5 n5
      | cont => obtain ⟨σ5, H5, I5, n5⟩ := q5; exact again I5 n5
      | brk => obtain ⟨σ5, H5, I5, n5⟩ := q5; exact ⟨σ5, H5, (Inv.woke I5 w5).unpinned, n5⟩
      | ret u => obtain ⟨x5, σ5, H5, I5, r5, n5⟩ := q5; exact ⟨x5, σ5, H5, (Inv.woke I5 w5).unpinned, r5, n5⟩
    · intro _
      obtain ⟨i2, H2, H3, ⟨σ2, m2, I2, w2, hm2⟩, hst2, hfin, td, hga3, _⟩ := hp
      rcases turn i2 m2 σ2 H2 w2 with ⟨_, z⟩ | ⟨z, _⟩
      · have I3 : Inv X pins σ2 H3 s3 := back1 I2 td
        have I3g : Inv X pins σ2 H3 (s3.setGen gi .finished) := Inv.setGen I3 gi rfl
        exact wpAny_execs_nil ⟨σ2, H3, I3g.kept (t' := (s3.setGen gi .finished).toks) hk, z H3 hfin (tups1 td)⟩
      · exact (J.excl i2 H2 z hst2).elim
  · -- the first one
    have I1r : Inv X pins σ H1 (s1.setGen gi .running) := Inv.setGen I1 gi rfl
    have e0 : Env0 X.prog X.w X.K X.mg X.base X.A.in1 X.stack (s1.setGen gi .running) H1 := env1 I1r
    refine wake X.A.in1 C (m0 + 1) (s1.setGen gi .running) H1 hr.in1 baseL frsL ⟨σ, m0, I1r, w0, Nat.lt_succ_self _⟩ e0 (fun p hp => ?_) (way w0 (Nat.lt_succ_self _))
    have fr : ∀ b, Y.L ≤ b → H1 b = none := fun b hb => Isc.hok.fresh (by rw [← eL]; exact hb)
    rcases List.mem_cons.mp hp with z | z
    · rw [z]; exact ⟨hgL, fr _ (Nat.le_refl _)⟩
    · rw [List.mem_singleton.mp z]; exact ⟨hga, fr _ (Nat.le_of_lt haL)⟩
end
end TF

/-! plain mathematics of digits, for all the laws: core Lean alone -/
namespace TM
/-- the digits of n, the least one first; f: at least as many turns as digits -/
def digsF : Nat → Nat → Nat → List Nat
  | 0, _, _ => []
  | f + 1, r, n => if n = 0 then [] else n % r :: digsF f r (n / r)
def digs (r n : Nat) : List Nat := digsF n r n
theorem digsF_more {r : Nat} (hr : 2 ≤ r) : ∀ (f g n : Nat), n ≤ f → n ≤ g → digsF f r n = digsF g r n
  | 0, 0, n, _, _ => rfl
  | 0, g + 1, n, h, _ => by
    have e : n = 0 := by omega
    subst e
    show [] = if (0 : Nat) = 0 then [] else _
    rw [if_pos rfl]
  | f + 1, 0, n, _, h => by
    have e : n = 0 := by omega
    subst e
    show (if (0 : Nat) = 0 then [] else _) = []
    rw [if_pos rfl]
  | f + 1, g + 1, n, h1, h2 => by
    show (if n = 0 then [] else n % r :: digsF f r (n / r)) = if n = 0 then [] else n % r :: digsF g r (n / r)
    by_cases h : n = 0
    · rw [if_pos h, if_pos h]
    · have lt : n / r < n := Nat.div_lt_self (by omega) (by omega)
      rw [if_neg h, if_neg h, digsF_more hr f g (n / r) (by omega) (by omega)]
theorem digs_zero (r : Nat) : digs r 0 = [] := rfl
theorem digs_pos {r n : Nat} (hr : 2 ≤ r) (h : 0 < n) : digs r n = n % r :: digs r (n / r) := by
  obtain ⟨m, rfl⟩ : ∃ m, n = m + 1 := ⟨n - 1, by omega⟩
  have lt : (m + 1) / r < m + 1 := Nat.div_lt_self (by omega) (by omega)
  show (if m + 1 = 0 then [] else (m + 1) % r :: digsF m r ((m + 1) / r)) = (m + 1) % r :: digsF ((m + 1) / r) r ((m + 1) / r)
  rw [if_neg (by omega), digsF_more hr m ((m + 1) / r) ((m + 1) / r) (by omega) (by omega)]
theorem digs_len {r : Nat} (hr : 2 ≤ r) : ∀ (b n : Nat), n < 2 ^ b → (digs r n).length ≤ b
  | 0, n, h => by
    have e : n = 0 := by simpa using h
    subst e
    exact Nat.le_refl _
  | b + 1, n, h => by
    by_cases h0 : n = 0
    · subst h0
      exact Nat.zero_le _
    · rw [digs_pos hr (by omega), List.length_cons]
      have : n / r < 2 ^ b := by
        refine Nat.div_lt_of_lt_mul ?_
        rw [Nat.pow_succ] at h
        have : 2 * 2 ^ b ≤ r * 2 ^ b := Nat.mul_le_mul_right _ hr
        omega
      have := digs_len hr b (n / r) this
      omega
/-- no digit 2 -/
def plain (n : Nat) : Prop := 2 ∉ digs 3 n
instance (n : Nat) : Decidable (plain n) := by unfold plain; infer_instance
theorem plain_zero : plain 0 := by unfold plain; rw [digs_zero]; exact List.not_mem_nil
theorem digs_step {b n : Nat} (hb : b < 3) (h : 0 < b + 3 * n) : digs 3 (b + 3 * n) = b :: digs 3 n := by
  rw [digs_pos (by omega) h, show (b + 3 * n) % 3 = b by omega, show (b + 3 * n) / 3 = n by omega]
theorem plain_step {b n : Nat} (hb : b < 2) : plain (b + 3 * n) ↔ plain n := by
  unfold plain
  by_cases h : 0 < b + 3 * n
  · rw [digs_step (by omega) h, List.mem_cons]
    constructor
    · intro h1 h2
      exact h1 (.inr h2)
    · rintro h1 (h2 | h2)
      · omega
      · exact h1 h2
  · have e1 : b = 0 := by omega
    have e2 : n = 0 := by omega
    subst e1 e2
    exact Iff.rfl
theorem not_plain_two {n : Nat} : ¬ plain (2 + 3 * n) := by
  unfold plain
  rw [digs_step (by omega) (by omega)]
  intro h
  exact h List.mem_cons_self
/-- some place holds the digit 1 in both -/
def common (n m : Nat) : Prop := (1, 1) ∈ (digs 3 n).zip (digs 3 m)
instance (n m : Nat) : Decidable (common n m) := by unfold common; infer_instance
theorem common_step {b c n m : Nat} (hb : b < 3) (hc : c < 3) (h : ¬ (b = 1 ∧ c = 1)) : common (b + 3 * n) (c + 3 * m) → common n m := by
  unfold common
  by_cases h1 : 0 < b + 3 * n
  · by_cases h2 : 0 < c + 3 * m
    · rw [digs_step hb h1, digs_step hc h2, List.zip_cons_cons, List.mem_cons]
      rintro (e | e)
      · cases e
        exact absurd ⟨rfl, rfl⟩ h
      · exact e
    · rw [show c + 3 * m = 0 by omega, digs_zero, List.zip_nil_right]
      intro e
      cases e
  · rw [show b + 3 * n = 0 by omega, digs_zero, List.zip_nil_left]
    intro e
    cases e
/-! ### the pair of a difference -/
def dpF : Nat → Int → Nat × Nat
  | 0, _ => (0, 0)
  | f + 1, d => if d = 0 then (0, 0) else
    ((if d % 3 = 1 then 1 else 0) + 3 * (dpF f ((d + 1) / 3)).1, (if d % 3 = 2 then 1 else 0) + 3 * (dpF f ((d + 1) / 3)).2)
theorem dpF_more : ∀ (f g : Nat) (d : Int), d.natAbs ≤ f → d.natAbs ≤ g → dpF f d = dpF g d
  | 0, 0, d, _, _ => rfl
  | 0, g + 1, d, h, _ => by
    have e : d = 0 := by omega
    show (0, 0) = if d = 0 then (0, 0) else _
    rw [if_pos e]
  | f + 1, 0, d, _, h => by
    have e : d = 0 := by omega
    show (if d = 0 then (0, 0) else _) = (0, 0)
    rw [if_pos e]
  | f + 1, g + 1, d, h1, h2 => by
    show (if d = 0 then (0, 0) else _) = if d = 0 then (0, 0) else _
    by_cases h : d = 0
    · rw [if_pos h, if_pos h]
    · rw [if_neg h, if_neg h, dpF_more f g ((d + 1) / 3) (by omega) (by omega)]
def dp (d : Int) : Nat × Nat := dpF d.natAbs d
def dx (d : Int) : Nat := (dp d).1
def dy (d : Int) : Nat := (dp d).2
theorem dp_zero : dp 0 = (0, 0) := rfl
theorem dp_step {d : Int} (h : d ≠ 0) : dp d = ((if d % 3 = 1 then 1 else 0) + 3 * dx ((d + 1) / 3), (if d % 3 = 2 then 1 else 0) + 3 * dy ((d + 1) / 3)) := by
  unfold dx dy dp
  obtain ⟨f, hf⟩ : ∃ f, d.natAbs = f + 1 := ⟨d.natAbs - 1, by omega⟩
  rw [hf]
  show (if d = 0 then (0, 0) else _) = _
  rw [if_neg h, dpF_more f ((d + 1) / 3).natAbs _ (by omega) (Nat.le_refl _)]
theorem dx_step {d : Int} (h : d ≠ 0) : dx d = (if d % 3 = 1 then 1 else 0) + 3 * dx ((d + 1) / 3) := congrArg Prod.fst (dp_step h)
theorem dy_step {d : Int} (h : d ≠ 0) : dy d = (if d % 3 = 2 then 1 else 0) + 3 * dy ((d + 1) / 3) := congrArg Prod.snd (dp_step h)
theorem bal_ind {P : Int → Prop} (h0 : P 0) (hs : ∀ d : Int, d ≠ 0 → P ((d + 1) / 3) → P d) : ∀ d, P d := by
  have : ∀ (n : Nat) (d : Int), d.natAbs ≤ n → P d := by
    intro n
    induction n with
    | zero => intro d h; have e : d = 0 := by omega
              subst e; exact h0
    | succ n ih =>
      intro d h
      by_cases e : d = 0
      · subst e; exact h0
      · exact hs d e (ih _ (by omega))
  exact fun d => this _ d (Nat.le_refl _)
theorem dp_sub : ∀ d : Int, (dx d : Int) - dy d = d := by
  refine bal_ind rfl fun d h ih => ?_
  rw [dx_step h, dy_step h]
  by_cases h1 : d % 3 = 1
  · rw [if_pos h1, if_neg (by omega)]; omega
  · by_cases h2 : d % 3 = 2
    · rw [if_neg h1, if_pos h2]; omega
    · rw [if_neg h1, if_neg h2]; omega
theorem dx_plain : ∀ d : Int, plain (dx d) := by
  refine bal_ind plain_zero fun d h ih => ?_
  rw [dx_step h]
  refine (plain_step ?_).mpr ih
  split <;> omega
theorem dy_plain : ∀ d : Int, plain (dy d) := by
  refine bal_ind plain_zero fun d h ih => ?_
  rw [dy_step h]
  refine (plain_step ?_).mpr ih
  split <;> omega
theorem dp_common : ∀ d : Int, ¬ common (dx d) (dy d) := by
  refine bal_ind (by decide) fun d h ih => ?_
  rw [dx_step h, dy_step h]
  intro hc
  refine ih (common_step (by split <;> omega) (by split <;> omega) ?_ hc)
  rintro ⟨e1, e2⟩
  split at e1 <;> split at e2 <;> omega
theorem dp_neg : ∀ d : Int, dx (-d) = dy d ∧ dy (-d) = dx d := by
  refine bal_ind ⟨rfl, rfl⟩ fun d h ih => ?_
  have e : (-d + 1) / 3 = -((d + 1) / 3) := by omega
  have h1 : ((-d) % 3 = 1) ↔ (d % 3 = 2) := by omega
  have h2 : ((-d) % 3 = 2) ↔ (d % 3 = 1) := by omega
  rw [dx_step (show -d ≠ 0 by omega), dy_step (show -d ≠ 0 by omega), e, ih.1, ih.2, dx_step h, dy_step h]
  simp only [h1, h2, and_self]
theorem plain_add : ∀ (p n : Nat), plain n → n / 3 ^ p % 3 = 0 → plain (n + 3 ^ p)
  | 0, n, h, h0 => by
    rw [Nat.pow_zero, Nat.div_one] at h0
    have e : n = 0 + 3 * (n / 3) := by omega
    rw [e] at h
    have h2 := (plain_step (by omega)).mp h
    rw [Nat.pow_zero, show n + 1 = 1 + 3 * (n / 3) by omega]
    exact (plain_step (by omega)).mpr h2
  | p + 1, n, h, h0 => by
    have hb : n % 3 < 2 := by
      rcases Nat.lt_or_ge (n % 3) 2 with q | q
      · exact q
      · have e : n = 2 + 3 * (n / 3) := by omega
        rw [e] at h
        exact absurd h not_plain_two
    have e : n = n % 3 + 3 * (n / 3) := by omega
    have hp : plain (n / 3) := by
      rw [e] at h
      exact (plain_step hb).mp h
    have h1 : n / 3 / 3 ^ p % 3 = 0 := by
      rw [Nat.div_div_eq_div_mul, show 3 * 3 ^ p = 3 ^ (p + 1) by rw [Nat.pow_succ]; omega]
      exact h0
    have ih := plain_add p (n / 3) hp h1
    rw [show n + 3 ^ (p + 1) = n % 3 + 3 * (n / 3 + 3 ^ p) by rw [Nat.pow_succ]; omega]
    exact (plain_step hb).mpr ih
/-- the least members -/
def plains : List Nat := (List.range 730).filter fun n => decide (plain n)
end TM
namespace TM
theorem dp_lt : ∀ (j : Nat) (d : Int), d.natAbs < 2 ^ j → dx d < 3 ^ j ∧ dy d < 3 ^ j
  | 0, d, h => by
    have e : d = 0 := by rw [Nat.pow_zero] at h; omega
    subst e
    exact ⟨by decide, by decide⟩
  | j + 1, d, h => by
    by_cases h0 : d = 0
    · subst h0
      exact ⟨Nat.lt_of_le_of_lt (Nat.zero_le _) (Nat.pow_pos (by decide)), Nat.lt_of_le_of_lt (Nat.zero_le _) (Nat.pow_pos (by decide))⟩
    · have h2 : ((d + 1) / 3).natAbs < 2 ^ j := by
        rw [Nat.pow_succ] at h
        omega
      obtain ⟨a, b⟩ := dp_lt j _ h2
      rw [dx_step h0, dy_step h0, Nat.pow_succ]
      constructor
      · split <;> omega
      · split <;> omega
end TM

/-! members of the base set, their gaps, sums and mirrors: core Lean -/
namespace TM
theorem digs_cons {r b n : Nat} (hr : 2 ≤ r) (hb : b < r) (h : 0 < b + r * n) : digs r (b + r * n) = b :: digs r n := by
  rw [digs_pos hr h]
  have h1 : (b + r * n) % r = b := by rw [Nat.add_mul_mod_self_left, Nat.mod_eq_of_lt hb]
  have h2 : (b + r * n) / r = n := by rw [Nat.add_mul_div_left _ _ (by omega), Nat.div_eq_of_lt hb, Nat.zero_add]
  rw [h1, h2]
/-- digits read in a radix, the least one first -/
def rd (r : Nat) : List Nat → Nat
  | [] => 0
  | d :: l => d + r * rd r l
theorem rd_digs {r : Nat} (hr : 2 ≤ r) : ∀ (f n : Nat), n ≤ f → rd r (digs r n) = n
  | 0, n, h => by
    have e : n = 0 := by omega
    subst e
    rfl
  | f + 1, n, h => by
    by_cases h0 : n = 0
    · subst h0; rfl
    · have lt : n / r < n := Nat.div_lt_self (by omega) (by omega)
      rw [digs_pos hr (by omega)]
      show n % r + r * rd r (digs r (n / r)) = n
      rw [rd_digs hr f (n / r) (by omega)]
      exact Nat.mod_add_div n r
def B (n : Nat) : Nat := rd 3 (digs 2 n)
theorem B_zero : B 0 = 0 := rfl
theorem B_step {b n : Nat} (hb : b < 2) : B (b + 2 * n) = b + 3 * B n := by
  unfold B
  by_cases h : 0 < b + 2 * n
  · rw [digs_cons (by omega) hb h]; rfl
  · have e1 : b = 0 := by omega
    have e2 : n = 0 := by omega
    subst e1 e2
    rfl
theorem B_even (n : Nat) : B (2 * n) = 3 * B n := by
  have := B_step (b := 0) (n := n) (by omega)
  rw [Nat.zero_add, Nat.zero_add] at this
  exact this
theorem B_odd (n : Nat) : B (1 + 2 * n) = 1 + 3 * B n := B_step (by omega)
theorem bin_ind {P : Nat → Prop} (h0 : P 0) (hs : ∀ b n, b < 2 → 0 < b + 2 * n → P n → P (b + 2 * n)) : ∀ n, P n := by
  have : ∀ f n, n ≤ f → P n := by
    intro f
    induction f with
    | zero => intro n h; have e : n = 0 := by omega
              subst e; exact h0
    | succ f ih =>
      intro n h
      by_cases e : n = 0
      · subst e; exact h0
      · have := hs (n % 2) (n / 2) (by omega) (by omega) (ih (n / 2) (by omega))
        rw [show n % 2 + 2 * (n / 2) = n by omega] at this
        exact this
  exact fun n => this n n (Nat.le_refl _)
theorem B_pos {n : Nat} (h : 0 < n) : 0 < B n := by
  revert h
  refine bin_ind (P := fun n => 0 < n → 0 < B n) (fun h => absurd h (by omega)) (fun b n hb h ih _ => ?_) n
  rw [B_step hb]
  by_cases e : 0 < n
  · have := ih e; omega
  · omega
theorem B_digs : ∀ n, digs 3 (B n) = digs 2 n := by
  refine bin_ind rfl fun b n hb h ih => ?_
  have hp := B_pos h
  rw [B_step hb] at hp ⊢
  rw [digs_step (by omega) hp, digs_cons (by omega) hb h, ih]
theorem bits_lt : ∀ n, ∀ d ∈ digs 2 n, d < 2 := by
  refine bin_ind (fun d h => by cases h) fun b n hb h ih d hd => ?_
  rw [digs_cons (by omega) hb h] at hd
  rcases List.mem_cons.mp hd with e | e
  · omega
  · exact ih d e
theorem B_plain (n : Nat) : plain (B n) := by
  unfold plain
  rw [B_digs]
  intro h
  have := bits_lt n 2 h
  omega
/-- a common binary digit 1 -/
def commonB (n m : Nat) : Prop := (1, 1) ∈ (digs 2 n).zip (digs 2 m)
instance (n m : Nat) : Decidable (commonB n m) := by unfold commonB; infer_instance
theorem commonB_step {b c n m : Nat} (hb : b < 2) (hc : c < 2) : commonB (b + 2 * n) (c + 2 * m) ↔ (b = 1 ∧ c = 1) ∨ commonB n m := by
  unfold commonB
  by_cases h1 : 0 < b + 2 * n
  · by_cases h2 : 0 < c + 2 * m
    · rw [digs_cons (by omega) hb h1, digs_cons (by omega) hc h2, List.zip_cons_cons, List.mem_cons]
      constructor
      · rintro (e | e)
        · cases e; exact .inl ⟨rfl, rfl⟩
        · exact .inr e
      · rintro (⟨e1, e2⟩ | e)
        · subst e1 e2; exact .inl rfl
        · exact .inr e
    · have e1 : c = 0 := by omega
      have e2 : m = 0 := by omega
      subst e1 e2
      simp [digs_zero]
  · have e1 : b = 0 := by omega
    have e2 : n = 0 := by omega
    subst e1 e2
    simp [digs_zero]
theorem B_add : ∀ a b : Nat, B a + B b ≤ B (a + b) ∧ (B a + B b = B (a + b) ↔ ¬ commonB a b) := by
  refine bin_ind (P := fun a => ∀ b, B a + B b ≤ B (a + b) ∧ (B a + B b = B (a + b) ↔ ¬ commonB a b)) ?_ ?_
  · intro b
    rw [B_zero, Nat.zero_add, Nat.zero_add]
    refine ⟨Nat.le_refl _, ?_⟩
    have : ¬ commonB 0 b := by unfold commonB; rw [digs_zero, List.zip_nil_left]; exact List.not_mem_nil
    simp [this]
  · intro x a hx _ ih b
    obtain ⟨y, b', hy, rfl⟩ : ∃ y b', y < 2 ∧ b = y + 2 * b' := ⟨b % 2, b / 2, by omega, by omega⟩
    obtain ⟨i1, i2⟩ := ih b'
    rw [B_step hx, B_step hy, commonB_step hx hy]
    by_cases hc : x = 1 ∧ y = 1
    · obtain ⟨rfl, rfl⟩ := hc
      have e : 1 + 2 * a + (1 + 2 * b') = 0 + 2 * (a + b' + 1) := by omega
      rw [e, B_step (by omega)]
      have key : B (a + b') + 1 ≤ B (a + b' + 1) := by
        have : ∀ n, B n + 1 ≤ B (n + 1) := by
          refine bin_ind (by decide) fun z n hz _ ihn => ?_
          rcases (show z = 0 ∨ z = 1 by omega) with rfl | rfl
          · rw [show 0 + 2 * n + 1 = 1 + 2 * n by omega, B_odd, Nat.zero_add, B_even]; omega
          · rw [show 1 + 2 * n + 1 = 2 * (n + 1) by omega, B_odd, B_even]; omega
        exact this _
      refine ⟨by omega, ?_⟩
      constructor
      · intro z; omega
      · intro z; exact absurd (Or.inl ⟨rfl, rfl⟩) z
    · have e : x + 2 * a + (y + 2 * b') = (x + y) + 2 * (a + b') := by omega
      rw [e, B_step (by omega)]
      refine ⟨by omega, ?_⟩
      constructor
      · intro z
        have := i2.mp (by omega)
        rintro (q | q)
        · exact hc q
        · exact this q
      · intro z
        have := i2.mpr fun q => z (.inr q)
        omega
theorem B_mono {m n : Nat} (h : m ≤ n) : B m ≤ B n := by
  have := (B_add m (n - m)).1
  rw [show m + (n - m) = n by omega] at this
  omega
theorem B_lt {m n : Nat} (h : m < n) : B m < B n := by
  have := (B_add m (n - m)).1
  rw [show m + (n - m) = n by omega] at this
  have := B_pos (show 0 < n - m by omega)
  omega
theorem compl_none : ∀ (p a b : Nat), a + b + 1 = 2 ^ p → ¬ commonB a b
  | 0, a, b, h => by
    have e1 : a = 0 := by rw [Nat.pow_zero] at h; omega
    have e2 : b = 0 := by rw [Nat.pow_zero] at h; omega
    subst e1 e2
    decide
  | p + 1, a, b, h => by
    rw [Nat.pow_succ] at h
    rw [show a = a % 2 + 2 * (a / 2) by omega, show b = b % 2 + 2 * (b / 2) by omega, commonB_step (by omega) (by omega)]
    rintro (q | q)
    · omega
    · exact compl_none p (a / 2) (b / 2) (by omega) q
theorem B_compl {p a b : Nat} (h : a + b + 1 = 2 ^ p) : B a + B b = B (2 ^ p - 1) := by
  rw [((B_add a b).2.mpr (compl_none p a b h)), show a + b = 2 ^ p - 1 by omega]
theorem B_full : ∀ p : Nat, 2 * B (2 ^ p - 1) + 1 = 3 ^ p
  | 0 => rfl
  | p + 1 => by
    have hp : 0 < 2 ^ p := Nat.pow_pos (by decide)
    have e : 2 ^ (p + 1) - 1 = 1 + 2 * (2 ^ p - 1) := by rw [Nat.pow_succ]; omega
    have ih := B_full p
    rw [e, B_odd, Nat.pow_succ]
    omega
theorem B_bound {p n : Nat} (h : n < 2 ^ p) : 2 * B n < 3 ^ p := by
  have := B_mono (show n ≤ 2 ^ p - 1 by omega)
  have := B_full p
  omega
/-! ### gaps -/
def GF : Nat → Nat → Nat
  | 0, _ => 1
  | f + 1, n => if n % 2 = 0 then 3 * GF f (n / 2) else 1
def G (n : Nat) : Nat := GF n n
theorem GF_more : ∀ (f g n : Nat), 0 < n → n ≤ f → n ≤ g → GF f n = GF g n
  | 0, _, n, h, h1, _ => by omega
  | _ + 1, 0, n, h, _, h2 => by omega
  | f + 1, g + 1, n, h, h1, h2 => by
    show (if n % 2 = 0 then 3 * GF f (n / 2) else 1) = if n % 2 = 0 then 3 * GF g (n / 2) else 1
    by_cases e : n % 2 = 0
    · rw [if_pos e, if_pos e, GF_more f g (n / 2) (by omega) (by omega) (by omega)]
    · rw [if_neg e, if_neg e]
theorem G_even {n : Nat} (h : 0 < n) (e : n % 2 = 0) : G n = 3 * G (n / 2) := by
  unfold G
  obtain ⟨m, rfl⟩ : ∃ m, n = m + 1 := ⟨n - 1, by omega⟩
  show (if (m + 1) % 2 = 0 then 3 * GF m ((m + 1) / 2) else 1) = _
  rw [if_pos e, GF_more m ((m + 1) / 2) ((m + 1) / 2) (by omega) (by omega) (Nat.le_refl _)]
theorem G_odd {n : Nat} (e : n % 2 = 1) : G n = 1 := by
  unfold G
  obtain ⟨m, rfl⟩ : ∃ m, n = m + 1 := ⟨n - 1, by omega⟩
  show (if (m + 1) % 2 = 0 then 3 * GF m ((m + 1) / 2) else 1) = 1
  rw [if_neg (by omega)]
theorem G_gap : ∀ n : Nat, 0 < n → 2 * B n = 2 * B (n - 1) + (G n + 1) := by
  refine bin_ind (fun h => absurd h (by omega)) fun b n hb h ih _ => ?_
  rcases (show b = 0 ∨ b = 1 by omega) with rfl | rfl
  · have hn : 0 < n := by omega
    have i := ih hn
    rw [Nat.zero_add] at h ⊢
    rw [G_even h (by omega), show 2 * n / 2 = n by omega, show 2 * n - 1 = 1 + 2 * (n - 1) by omega, B_even, B_odd]
    omega
  · rw [G_odd (by omega), show 1 + 2 * n - 1 = 2 * n by omega, B_odd, B_even]
    omega
theorem G_pow : ∀ (p n : Nat), 0 < n → n < 2 ^ p → G n < 3 ^ p
  | 0, n, h, h2 => by rw [Nat.pow_zero] at h2; omega
  | p + 1, n, h, h2 => by
    rcases (show n % 2 = 0 ∨ n % 2 = 1 by omega) with e | e
    · rw [Nat.pow_succ] at h2
      have := G_pow p (n / 2) (by omega) (by omega)
      rw [G_even h e, Nat.pow_succ]
      omega
    · rw [G_odd e]
      have : 0 < 3 ^ p := Nat.pow_pos (by decide)
      rw [Nat.pow_succ]
      omega
/-! ### sums -/
def S : Nat → Nat
  | 0 => 0
  | n + 1 => S n + B n
def sm : Nat → (Nat → Nat) → Nat
  | 0, _ => 0
  | n + 1, f => sm n f + f n
theorem sm_shift (f : Nat → Nat) : ∀ n, sm (n + 1) f = f 0 + sm n fun j => f (j + 1)
  | 0 => by simp [sm]
  | n + 1 => by
    show sm (n + 1) f + f (n + 1) = f 0 + (sm n (fun j => f (j + 1)) + f (n + 1))
    rw [sm_shift f n]; omega
theorem sm_congr {f g : Nat → Nat} : ∀ n, (∀ j, j < n → f j = g j) → sm n f = sm n g
  | 0, _ => rfl
  | n + 1, h => by
    show sm n f + f n = sm n g + g n
    rw [sm_congr n fun j hj => h j (by omega), h n (by omega)]
theorem sm_add (f g : Nat → Nat) : ∀ n, sm n (fun j => f j + g j) = sm n f + sm n g
  | 0 => rfl
  | n + 1 => by
    show sm n (fun j => f j + g j) + (f n + g n) = sm n f + f n + (sm n g + g n)
    rw [sm_add f g n]; omega
theorem sm_mul (c : Nat) (f : Nat → Nat) : ∀ n, sm n (fun j => c * f j) = c * sm n f
  | 0 => rfl
  | n + 1 => by
    show sm n (fun j => c * f j) + c * f n = c * (sm n f + f n)
    rw [sm_mul c f n, Nat.mul_add]
theorem sm_bits : ∀ (L n : Nat), n < 2 ^ L → sm L (fun j => 3 ^ j * (n / 2 ^ j % 2)) = B n
  | 0, n, h => by
    have e : n = 0 := by rw [Nat.pow_zero] at h; omega
    subst e; rfl
  | L + 1, n, h => by
    rw [sm_shift]
    have e : sm L (fun j => 3 ^ (j + 1) * (n / 2 ^ (j + 1) % 2)) = 3 * sm L (fun j => 3 ^ j * (n / 2 / 2 ^ j % 2)) := by
      rw [← sm_mul]
      refine sm_congr L fun j _ => ?_
      rw [Nat.pow_succ 3 j, Nat.pow_succ 2 j, Nat.mul_comm (2 ^ j) 2, ← Nat.div_div_eq_div_mul, Nat.mul_comm (3 ^ j) 3, Nat.mul_assoc]
    rw [Nat.pow_succ] at h
    rw [e, sm_bits L (n / 2) (by omega)]
    simp only [Nat.pow_zero, Nat.one_mul, Nat.div_one]
    rw [← B_step (by omega), show n % 2 + 2 * (n / 2) = n by omega]
/-- how many of the first n numbers have the digit 1 at this place -/
def cn (p n : Nat) : Nat := n / (2 * p) * p + (n % (2 * p) - p)
theorem cn_zero (p : Nat) : cn p 0 = 0 := by unfold cn; simp
theorem cn_step {p : Nat} (hp : 0 < p) (n : Nat) : cn p (n + 1) = cn p n + n / p % 2 := by
  have h2 : 0 < 2 * p := by omega
  have dm := Nat.div_add_mod n (2 * p)
  have lt := Nat.mod_lt n h2
  generalize hq : n / (2 * p) = q at dm
  generalize hr : n % (2 * p) = r at dm lt
  have bit : n / p % 2 = if r < p then 0 else 1 := by
    by_cases h : r < p
    · rw [if_pos h]
      have : n / p = 2 * q := by
        rw [← dm, show 2 * p * q + r = r + p * (2 * q) by rw [Nat.mul_comm 2 p, Nat.mul_assoc]; omega, Nat.add_mul_div_left _ _ hp, Nat.div_eq_of_lt h, Nat.zero_add]
      rw [this]; omega
    · rw [if_neg h]
      have : n / p = 1 + 2 * q := by
        rw [← dm, show 2 * p * q + r = (r - p) + p * (1 + 2 * q) by rw [Nat.mul_add, Nat.mul_one, Nat.mul_comm 2 p, Nat.mul_assoc]; omega, Nat.add_mul_div_left _ _ hp, Nat.div_eq_of_lt (by omega), Nat.zero_add]
      rw [this]; omega
  unfold cn
  rw [hq, hr, bit]
  by_cases h : r + 1 < 2 * p
  · have e1 : (n + 1) / (2 * p) = q := by
      rw [← dm, show 2 * p * q + r + 1 = (r + 1) + 2 * p * q by omega, Nat.add_mul_div_left _ _ h2, Nat.div_eq_of_lt h, Nat.zero_add]
    have e2 : (n + 1) % (2 * p) = r + 1 := by
      rw [← dm, show 2 * p * q + r + 1 = (r + 1) + 2 * p * q by omega, Nat.add_mul_mod_self_left, Nat.mod_eq_of_lt h]
    rw [e1, e2]
    split <;> omega
  · have e0 : r + 1 = 2 * p := by omega
    have e1 : (n + 1) / (2 * p) = q + 1 := by
      rw [← dm, show 2 * p * q + r + 1 = 0 + 2 * p * (q + 1) by rw [Nat.mul_add]; omega, Nat.add_mul_div_left _ _ h2, Nat.zero_div, Nat.zero_add]
    have e2 : (n + 1) % (2 * p) = 0 := by
      rw [← dm, show 2 * p * q + r + 1 = 0 + 2 * p * (q + 1) by rw [Nat.mul_add]; omega, Nat.add_mul_mod_self_left, Nat.zero_mod]
    rw [e1, e2, Nat.add_mul]
    split <;> omega
theorem S_sum {L : Nat} : ∀ n, n ≤ 2 ^ L → sm L (fun j => 3 ^ j * cn (2 ^ j) n) = S n
  | 0, _ => by
    have : ∀ k, sm k (fun j => 3 ^ j * cn (2 ^ j) 0) = 0 := by
      intro k
      induction k with
      | zero => rfl
      | succ k ih => show sm k _ + 3 ^ k * cn (2 ^ k) 0 = 0; rw [ih, cn_zero]; simp
    exact this L
  | n + 1, h => by
    show _ = S n + B n
    rw [← S_sum (L := L) n (by omega), ← sm_bits L n (by omega), ← sm_add]
    refine sm_congr L fun j _ => ?_
    rw [cn_step (Nat.pow_pos (by decide)), Nat.mul_add]
theorem B_high (k m : Nat) (h : m < 2 ^ k) : B (2 ^ k + m) = 3 ^ k + B m := by
  have nc : ∀ (k m : Nat), m < 2 ^ k → ¬ commonB (2 ^ k) m ∧ B (2 ^ k) = 3 ^ k := by
    intro k
    induction k with
    | zero =>
      intro m h
      have e : m = 0 := by rw [Nat.pow_zero] at h; omega
      subst e
      exact ⟨by decide, by decide⟩
    | succ k ih =>
      intro m h
      rw [Nat.pow_succ] at h
      obtain ⟨i1, i2⟩ := ih (m / 2) (by omega)
      have e : 2 ^ (k + 1) = 0 + 2 * 2 ^ k := by rw [Nat.pow_succ]; omega
      refine ⟨?_, ?_⟩
      · rw [e, show m = m % 2 + 2 * (m / 2) by omega, commonB_step (by omega) (by omega)]
        rintro (q | q)
        · omega
        · exact i1 q
      · rw [e, B_step (by omega), i2, Nat.pow_succ]
        omega
  obtain ⟨i1, i2⟩ := nc k m h
  rw [← (B_add (2 ^ k) m).2.mpr i1, i2]
theorem S_split (k : Nat) : ∀ r, r ≤ 2 ^ k → S (2 ^ k + r) = S (2 ^ k) + S r + r * 3 ^ k
  | 0, _ => by simp [S]
  | r + 1, h => by
    show S (2 ^ k + r) + B (2 ^ k + r) = S (2 ^ k) + (S r + B r) + (r + 1) * 3 ^ k
    rw [S_split k r (by omega), B_high k r (by omega), Nat.succ_mul]
    omega
theorem S_pow : ∀ j : Nat, 4 * S (2 ^ j) + 2 ^ j = 2 ^ j * 3 ^ j
  | 0 => rfl
  | j + 1 => by
    have e : 2 ^ (j + 1) = 2 ^ j + 2 ^ j := by rw [Nat.pow_succ]; omega
    have ih := S_pow j
    rw [e, S_split j (2 ^ j) (Nat.le_refl _), Nat.pow_succ 3 j]
    have : (2 ^ j + 2 ^ j) * (3 ^ j * 3) = 6 * (2 ^ j * 3 ^ j) := by
      rw [Nat.add_mul, ← Nat.mul_assoc]; omega
    omega
theorem S_lt {L n : Nat} (h : n ≤ 2 ^ L) : S n ≤ n * 3 ^ L := by
  induction n with
  | zero => exact Nat.zero_le _
  | succ n ih =>
    have := ih (by omega)
    have b := B_bound (p := L) (n := n) (by omega)
    show S n + B n ≤ (n + 1) * 3 ^ L
    rw [Nat.succ_mul]
    omega
end TM

namespace TM
/-! ### the number of members below a number -/
def R (n : Nat) : Nat := if h : n = 0 then 0 else 2 * R (n / 3) + (if plain (n / 3) then n % 3 else 0)
termination_by n
decreasing_by omega
theorem R_zero : R 0 = 0 := by
  unfold R
  rw [dif_pos rfl]
theorem R_step {b m : Nat} (hb : b < 3) : R (b + 3 * m) = 2 * R m + (if plain m then b else 0) := by
  by_cases h : b + 3 * m = 0
  · have hb0 : b = 0 := by omega
    have hm0 : m = 0 := by omega
    subst hb0 hm0
    show R 0 = 2 * R 0 + (if plain 0 then 0 else 0)
    rw [R_zero]
    split <;> rfl
  · rw [R, dif_neg h, show (b + 3 * m) / 3 = m by omega, show (b + 3 * m) % 3 = b by omega]
theorem ter_ind {P : Nat → Prop} (h0 : P 0) (hs : ∀ b n, b < 3 → 0 < b + 3 * n → P n → P (b + 3 * n)) : ∀ n, P n := by
  intro n
  induction n using Nat.strongRecOn with
  | ind n ih =>
    by_cases h : n = 0
    · rw [h]; exact h0
    · have e : n % 3 + 3 * (n / 3) = n := by omega
      rw [← e]
      exact hs _ _ (by omega) (by omega) (ih _ (by omega))
/-- every number whose digits are 0 and 1 is a member -/
theorem plain_B : ∀ n, plain n → ∃ r, B r = n := by
  refine ter_ind (fun _ => ⟨0, rfl⟩) fun b n hb hp ih h => ?_
  by_cases h2 : b = 2
  · subst h2
    exact absurd h not_plain_two
  · have hb2 : b < 2 := by omega
    obtain ⟨r, e⟩ := ih ((plain_step hb2).mp h)
    exact ⟨b + 2 * r, by rw [B_step hb2, e]⟩
theorem R_iff : ∀ n k, B k < n ↔ k < R n := by
  refine ter_ind (fun k => by rw [R_zero]; omega) fun b n hb hp ih k => ?_
  have ek : B k = k % 2 + 3 * B (k / 2) := by
    have := B_step (b := k % 2) (n := k / 2) (by omega)
    rw [show k % 2 + 2 * (k / 2) = k by omega] at this
    exact this
  have hj := ih (k / 2)
  rw [R_step hb, ek]
  have hc : k % 2 < 2 := by omega
  by_cases hpl : plain n
  · rw [if_pos hpl]
    obtain ⟨r, e⟩ := plain_B n hpl
    have hr : R n = r := by
      have h1 := ih r
      rw [e] at h1
      have h3 : ¬ r < R n := fun z => Nat.lt_irrefl _ (h1.mpr z)
      by_cases h4 : R n < r
      · have h5 := B_lt h4
        rw [e] at h5
        have := (ih (R n)).mp h5
        omega
      · omega
    rw [hr] at hj ⊢
    have h6 : B (k / 2) = n ↔ k / 2 = r := by
      constructor
      · intro z
        rcases Nat.lt_trichotomy (k / 2) r with y | y | y
        · have := B_lt y; omega
        · exact y
        · have := B_lt y; omega
      · intro z
        rw [z, e]
    constructor
    · intro z
      by_cases y : B (k / 2) < n
      · have := hj.mp y
        omega
      · have q : B (k / 2) = n := by omega
        have := h6.mp q
        omega
    · intro z
      by_cases y : k / 2 < r
      · have := hj.mpr y
        omega
      · have q : k / 2 = r := by omega
        have := h6.mpr q
        omega
  · rw [if_neg hpl]
    have hne : B (k / 2) ≠ n := fun z => hpl (by rw [← z]; exact B_plain _)
    constructor
    · intro z
      have := hj.mp (by omega)
      omega
    · intro z
      have := hj.mpr (by omega)
      omega
theorem R_B (r : Nat) : R (B r) = r := by
  have h1 := R_iff (B r) r
  by_cases h : R (B r) < r
  · have := (R_iff (B r) (R (B r))).mp (B_lt h)
    omega
  · have : ¬ r < R (B r) := fun z => Nat.lt_irrefl _ (h1.mpr z)
    omega
theorem R_B1 (r : Nat) : R (B r + 1) = r + 1 := by
  have h1 := (R_iff (B r + 1) r).mp (Nat.lt_succ_self _)
  by_cases h : r + 1 < R (B r + 1)
  · have := (R_iff (B r + 1) (r + 1)).mpr h
    have : B r < B (r + 1) := B_lt (by omega)
    omega
  · omega
/-- the next member -/
theorem next_ge (n : Nat) : n ≤ B (R n) := by
  by_cases h : n ≤ B (R n)
  · exact h
  · exact absurd ((R_iff n (R n)).mp (by omega)) (Nat.lt_irrefl _)
theorem between_not {g n : Nat} (h1 : g < n) (h2 : n < B (R (g + 1))) : ¬ plain n := by
  intro hp
  obtain ⟨k, e⟩ := plain_B n hp
  have h3 : ¬ k < R (g + 1) := fun z => by
    have := (R_iff (g + 1) k).mpr z
    omega
  have := B_mono (show R (g + 1) ≤ k by omega)
  omega
theorem R_le (n : Nat) : R n ≤ n := by
  by_cases h : R n ≤ n
  · exact h
  · have h1 := (R_iff n n).mpr (by omega)
    have h2 : ∀ k, k ≤ B k := by
      refine bin_ind (Nat.le_refl _) fun b m hb hp ih => ?_
      rw [B_step hb]
      omega
    have := h2 n
    omega
theorem le_B : ∀ k, k ≤ B k := by
  refine bin_ind (Nat.le_refl _) fun b m hb hp ih => ?_
  rw [B_step hb]
  omega
/-- a digit 2 behind a plain beginning -/
theorem R_two {m : Nat} (hm : plain m) : ∀ (p low : Nat), low < 3 ^ p → R (low + 3 ^ p * (2 + 3 * m)) = (R m + 1) * 2 ^ (p + 1) ∧ ¬ plain (low + 3 ^ p * (2 + 3 * m))
  | 0, low, h => by
    have : low = 0 := by
      rw [Nat.pow_zero] at h
      omega
    subst this
    rw [Nat.pow_zero, Nat.one_mul, Nat.zero_add, R_step (by omega), if_pos hm]
    exact ⟨by rw [Nat.zero_add, Nat.pow_one]; omega, not_plain_two⟩
  | p + 1, low, h => by
    have e : low + 3 ^ (p + 1) * (2 + 3 * m) = low % 3 + 3 * (low / 3 + 3 ^ p * (2 + 3 * m)) := by
      rw [Nat.pow_succ, Nat.mul_right_comm, Nat.mul_comm (3 ^ p * _) 3]
      omega
    obtain ⟨h1, h2⟩ := R_two hm p (low / 3) (by rw [Nat.pow_succ] at h; omega)
    rw [e]
    refine ⟨?_, fun z => ?_⟩
    · rw [R_step (by omega), if_neg h2, h1, Nat.pow_succ 2 (p + 1)]
      rw [Nat.add_zero, Nat.mul_comm 2, Nat.mul_assoc]
    · by_cases h3 : low % 3 = 2
      · rw [h3] at z
        exact not_plain_two z
      · exact h2 ((plain_step (by omega)).mp z)
/-! ### joins and meets -/
theorem bit_split (a : Nat) : a = a % 2 + 2 * (a / 2) := by omega
theorem or_step {b c m n : Nat} (hb : b < 2) (hc : c < 2) : (b + 2 * m) ||| (c + 2 * n) = max b c + 2 * (m ||| n) := by
  have h1 : ((b + 2 * m) ||| (c + 2 * n)) / 2 = m ||| n := by
    rw [Nat.or_div_two, show (b + 2 * m) / 2 = m by omega, show (c + 2 * n) / 2 = n by omega]
  have h2 : ((b + 2 * m) ||| (c + 2 * n)) % 2 = max b c := by
    rw [Nat.or_mod_two_pow (n := 1), show (b + 2 * m) % 2 ^ 1 = b by omega, show (c + 2 * n) % 2 ^ 1 = c by omega]
    rcases (by omega : b = 0 ∨ b = 1) with rfl | rfl <;> rcases (by omega : c = 0 ∨ c = 1) with rfl | rfl <;> rfl
  have := bit_split ((b + 2 * m) ||| (c + 2 * n))
  omega
theorem and_step {b c m n : Nat} (hb : b < 2) (hc : c < 2) : (b + 2 * m) &&& (c + 2 * n) = min b c + 2 * (m &&& n) := by
  have h1 : ((b + 2 * m) &&& (c + 2 * n)) / 2 = m &&& n := by
    rw [Nat.and_div_two, show (b + 2 * m) / 2 = m by omega, show (c + 2 * n) / 2 = n by omega]
  have h2 : ((b + 2 * m) &&& (c + 2 * n)) % 2 = min b c := by
    rw [Nat.and_mod_two_pow (n := 1), show (b + 2 * m) % 2 ^ 1 = b by omega, show (c + 2 * n) % 2 ^ 1 = c by omega]
    rcases (by omega : b = 0 ∨ b = 1) with rfl | rfl <;> rcases (by omega : c = 0 ∨ c = 1) with rfl | rfl <;> rfl
  have := bit_split ((b + 2 * m) &&& (c + 2 * n))
  omega
/-- a join and a meet together are the sum -/
theorem B_or_and : ∀ a b : Nat, B (a ||| b) + B (a &&& b) = B a + B b := by
  refine bin_ind (fun b => by rw [Nat.zero_or, Nat.zero_and, B_zero]; omega) fun b m hb hp ih k => ?_
  rw [bit_split k]
  have hc : k % 2 < 2 := by omega
  rw [or_step hb hc, and_step hb hc, B_step (by omega), B_step (by omega), B_step hb, B_step hc]
  have := ih (k / 2)
  omega
theorem B_or_le (a b : Nat) : B (a ||| b) ≤ B a + B b := by
  have := B_or_and a b
  omega
theorem B_and_le (a b : Nat) : B (a &&& b) ≤ B a := B_mono Nat.and_le_left
/-! ### no three members are evenly spaced -/
theorem no_triple : ∀ b a c : Nat, B a + B c = 2 * B b → a = b ∧ c = b := by
  refine bin_ind (fun a c h => ?_) fun d m hd hp ih a c h => ?_
  · rw [B_zero] at h
    have h1 := le_B a
    have h2 := le_B c
    omega
  · have ea : B a = a % 2 + 3 * B (a / 2) := by
      have := B_step (b := a % 2) (n := a / 2) (by omega)
      rw [show a % 2 + 2 * (a / 2) = a by omega] at this
      exact this
    have ec : B c = c % 2 + 3 * B (c / 2) := by
      have := B_step (b := c % 2) (n := c / 2) (by omega)
      rw [show c % 2 + 2 * (c / 2) = c by omega] at this
      exact this
    rw [B_step hd, ea, ec] at h
    have ha : a % 2 < 2 := by omega
    have hc : c % 2 < 2 := by omega
    obtain ⟨y1, y2⟩ := ih (a / 2) (c / 2) (by omega)
    rw [y1, y2] at h
    omega
/-! ### the plain pair -/
def py (n : Nat) : Nat := rd 3 ((digs 3 n).map fun d => d % 2)
def pz (n : Nat) : Nat := rd 3 ((digs 3 n).map fun d => min d 1)
theorem py_step {b n : Nat} (hb : b < 3) : py (b + 3 * n) = b % 2 + 3 * py n := by
  unfold py
  by_cases h : 0 < b + 3 * n
  · rw [digs_cons (by omega) hb h]
    rfl
  · have h1 : b = 0 := by omega
    have h2 : n = 0 := by omega
    subst h1 h2
    rfl
theorem pz_step {b n : Nat} (hb : b < 3) : pz (b + 3 * n) = min b 1 + 3 * pz n := by
  unfold pz
  by_cases h : 0 < b + 3 * n
  · rw [digs_cons (by omega) hb h]
    rfl
  · have h1 : b = 0 := by omega
    have h2 : n = 0 := by omega
    subst h1 h2
    rfl
theorem pair_eq : ∀ n, 2 * pz n = n + py n := by
  refine ter_ind rfl fun b n hb hp ih => ?_
  rw [py_step hb, pz_step hb]
  rcases (by omega : b = 0 ∨ b = 1 ∨ b = 2) with rfl | rfl | rfl <;> simp <;> omega
theorem pair_plain : ∀ n, plain (py n) ∧ plain (pz n) := by
  refine ter_ind ⟨plain_zero, plain_zero⟩ fun b n hb hp ih => ?_
  rw [py_step hb, pz_step hb]
  exact ⟨(plain_step (by omega)).mpr ih.1, (plain_step (by omega)).mpr ih.2⟩
theorem pair_lt : ∀ n, py n ≤ pz n ∧ (py n = pz n ↔ plain n) := by
  refine ter_ind ⟨Nat.le_refl _, ⟨fun _ => plain_zero, fun _ => rfl⟩⟩ fun b n hb hp ih => ?_
  rw [py_step hb, pz_step hb]
  rcases (by omega : b = 0 ∨ b = 1 ∨ b = 2) with rfl | rfl | rfl
  · refine ⟨by omega, ?_⟩
    rw [plain_step (by omega), ← ih.2]
    omega
  · refine ⟨by omega, ?_⟩
    rw [plain_step (by omega), ← ih.2]
    omega
  · refine ⟨by omega, ⟨fun z => ?_, fun z => absurd z not_plain_two⟩⟩
    have := ih.1
    omega
end TM

namespace TM
/-! the exponent of 2, and the gaps in front of members -/
def ev (n : Nat) : Nat := if h : n = 0 then 0 else if n % 2 = 1 then 0 else ev (n / 2) + 1
termination_by n
decreasing_by omega
theorem ev_odd (m : Nat) : ev (1 + 2 * m) = 0 := by
  unfold ev
  rw [dif_neg (by omega), if_pos (by omega)]
theorem ev_even {m : Nat} (h : 0 < m) : ev (2 * m) = ev m + 1 := by
  rw [ev, dif_neg (by omega), if_neg (by omega)]
  rw [show 2 * m / 2 = m by omega]
/-- the gap with this exponent -/
def ge : Nat → Nat
  | 0 => 1
  | e + 1 => 3 * ge e - 1
theorem ge_pos : ∀ e, 0 < ge e
  | 0 => by decide
  | e + 1 => by have := ge_pos e; unfold ge; omega
theorem ge_eq (e : Nat) : 2 * ge e = 3 ^ e + 1 := by
  induction e with
  | zero => rfl
  | succ e ih =>
    have := ge_pos e
    rw [Nat.pow_succ]
    show 2 * (3 * ge e - 1) = _
    omega
theorem even_ind {P : Nat → Prop} (ho : ∀ m, P (1 + 2 * m)) (he : ∀ m, 0 < m → P m → P (2 * m)) : ∀ n, 0 < n → P n := by
  intro n
  induction n using Nat.strongRecOn with
  | ind n ih =>
    intro h
    by_cases z : n % 2 = 1
    · rw [show n = 1 + 2 * (n / 2) by omega]; exact ho _
    · rw [show n = 2 * (n / 2) by omega]
      exact he _ (by omega) (ih _ (by omega) (by omega))
theorem G_ev : ∀ n, 0 < n → G n = 3 ^ ev n := by
  refine even_ind (fun m => ?_) (fun m hm ih => ?_)
  · rw [ev_odd, G_odd (by omega)]
  · rw [ev_even hm, G_even (by omega) (by omega), show 2 * m / 2 = m by omega, ih, Nat.pow_succ, Nat.mul_comm]
theorem B_next (n : Nat) : B (n + 1) = B n + ge (ev (n + 1)) := by
  have h := G_gap (n + 1) (by omega)
  rw [G_ev (n + 1) (by omega)] at h
  have := ge_eq (ev (n + 1))
  rw [show n + 1 - 1 = n by omega] at h
  omega
/-- the lowest digit 1 -/
theorem low_bit : ∀ n, 0 < n → (n &&& (n - 1)) + 2 ^ ev n = n := by
  refine even_ind (fun m => ?_) (fun m hm ih => ?_)
  · have h := and_step (b := 1) (c := 0) (m := m) (n := m) (by decide) (by decide)
    rw [ev_odd, show 1 + 2 * m - 1 = 0 + 2 * m by omega, h, Nat.and_self]
    show min 1 0 + 2 * m + 1 = 1 + 2 * m
    omega
  · have h := and_step (b := 0) (c := 1) (m := m) (n := m - 1) (by decide) (by decide)
    rw [ev_even hm, show 2 * m - 1 = 1 + 2 * (m - 1) by omega, show 2 * m = 0 + 2 * m by omega, h, Nat.pow_succ]
    show min 0 1 + 2 * (m &&& (m - 1)) + 2 ^ ev m * 2 = 0 + 2 * m
    omega
theorem ev_lt : ∀ n, 0 < n → 2 ^ ev n ≤ n := fun n h => by have := low_bit n h; omega
theorem ge_lt (e : Nat) : ge e ≤ 3 ^ e := by
  have h := ge_eq e
  have : 0 < 3 ^ e := Nat.pow_pos (by decide)
  omega
/-- the list of the first gaps -/
def gl (L : Nat) : List Nat := (List.range L).map ge
theorem gl_len (L : Nat) : (gl L).length = L := by unfold gl; rw [List.length_map, List.length_range]
theorem gl_succ (L : Nat) : gl (L + 1) = gl L ++ [ge L] := by unfold gl; rw [List.range_succ, List.map_append]; rfl
theorem gl_get {L e : Nat} (h : e < L) : (gl L)[e]? = some (ge e) := by
  unfold gl
  rw [List.getElem?_map, List.getElem?_range h]; rfl
end TM

namespace TF
open PySem PySem.Spec PyProof.Rows L2
/-! ### a def that is only called where no repr is running -/
structure GOk (P : Program) (w : World) (K : PySem.W.Frag) (mg : Str → Option Value) (base : Heap) (k : Nat) (f : Addr)
    (fd : FuncData) (ps : List Str) (sp : Sp) : Prop where
  size : ∀ vs H Q E, sp vs H Q E → vs.length = ps.length
  runs : ∀ (A : Around) (outer : List Env) (s : Shared) (H : Hp) (args : Args) (us : List Value) (vs : List V) (Q : VK) (E : XK),
    Room k A → A.guards = some [] → Env0 P w K mg base A outer s H → BindsTo s fd args (ps.zip us) → Vals vs us → sp vs H Q E →
      codeAny (model P w) A (.call (.ref f) args) (CR CX0 outer P w H s Q E) s
section
variable {X : Cx} {pins : List (Addr × Obj)} {σ : L2.St} {H : Hp} {s : Shared}
/-- repr of data -/
def rRep (K : PySem.W.Frag) : List V → Hp → VK → Prop := fun xs H Q => ∃ (a : Addr) (d : PyData), xs = [.ref a] ∧ Dp K H (.ref a) d ∧
  d.showable = true ∧ d.hasDict = false ∧ d.depth ≤ 60 ∧ d.shown.length ≤ sizeLine ∧ Q (.str d.shown) H
theorem call_rep (hg : X.A.guards = some []) (hu : X.A.units + 64 < cLine) : CallR X (.builtin "repr") (rRep X.K) := by
  intro pins s σ H xs us Q I r h
  obtain ⟨a, d, rfl, hd, hs, hnd, hdp, hz, q⟩ := h
  obtain ⟨u, rfl, ru⟩ := vals1 r
  cases ru
  obtain ⟨as, rd⟩ := Dp.reads I d _ _ hd rfl
  refine repr_of_reads' rd hs (PyData.noDict_hsm hnd) hg (by omega) (fun _ _ e => e) (fun h' u tk hk => ?_) hz
  exact ⟨.str d.shown, H, I.kept hk, ⟨u, rfl⟩, q⟩
end
end TF

namespace TFZ
open PySem PySem.Calls PyProof.Rows PyProof.V PySem.Spec
/-- a zip whose last pair still lives at a -/
abbrev ZipB (h : Heap) (z TI TO a : Addr) (f : Bool) : Prop :=
  h.get? z = some { cls := .type "zip", dict := none, data := .fields #[rawInt a, .bool f, .bool false, .ref TI, .ref TO], slots := #[] }
section
variable {prog : Program} {w : World} {A : Around} {E : Value → Shared → Prop} {s : Shared}
theorem zip_more {z TI TO i1 i2 l1 l2 a : Addr} {f : Bool} {oa : Obj} {k1 k2 : Nat} {xs ys : Array Value} {x y : Value} {Q : Value → Shared → Prop}
    (D : ZipApart z TI TO i1 i2 l1 l2) (hz : ZipB s.heap z TI TO a f) (ha : s.heap.get? a = some oa) (haz : a ≠ z)
    (hTI : IsPair s.heap TI (.ref i1) (.ref i2)) (h1 : s.heap.IsListIter i1 l1 k1) (h2 : s.heap.IsListIter i2 l2 k2)
    (hl1 : s.heap.IsList l1 xs) (hl2 : s.heap.IsList l2 ys) (hx : xs[k1]? = some x) (hy : ys[k2]? = some y)
    (hQ : ∀ h', ZipB h' z TI TO a true → h'.IsListIter i1 l1 (k1 + 1) → h'.IsListIter i2 l2 (k2 + 1) →
      IsPair h' s.heap.objs.size x y → h'.objs.size = s.heap.objs.size + 1 →
      (∀ c o, c ≠ z → c ≠ i1 → c ≠ i2 → s.heap.get? c = some o → h'.get? c = some o) → Q (.ref s.heap.objs.size) { s with heap := h' }) :
    wpAny (model prog w) A (Builtin.«zip.__next__» ⟨[.ref z], []⟩) (fun fin s' => ∃ v, fin = .done (.ret v) ∧ Q v s') E s := by
  obtain ⟨hp, g, dr, tk, os⟩ := s
  replace hz : ZipB hp z TI TO a f := hz
  show wpAny _ _ (field (.ref z) 2 >>= _) _ _ _
  refine wpAny_bind (wpAny_field hz rfl (x := .bool false) rfl ?_)
  show wpAny _ _ (field (.ref z) 3 >>= _) _ _ _
  refine wpAny_bind (wpAny_field hz rfl (x := .ref TI) rfl ?_)
  refine wpAny_bind (wpAny_seqItems hTI rfl ?_)
  show wpAny _ _ (Builtin.SmallTypes.ownedTupleIsFree (.ref z) >>= _) _ _ _
  refine wpAny_bind ?_
  unfold Builtin.SmallTypes.ownedTupleIsFree
  refine wpAny_bind (wpAny_field hz rfl (x := rawInt a) rfl ?_)
  show wpAny _ _ (loadIfAlive ((a : Int).toNat) >>= _) _ _ _
  rw [Int.toNat_natCast]
  refine wpAny_bind (PySem.W.kdx_alive ha ?_)
  simp only [Option.isNone_some, Bool.false_eq_true, if_false]
  refine wpAny_bind (wpAny_field hz rfl (x := .bool f) rfl ?_)
  have fin : ∀ h₁ : Heap, ZipB h₁ z TI TO a true → Heap.SameBut z hp h₁ → ∀ h₃, h₃.IsListIter i1 l1 (k1 + 1) → h₃.IsListIter i2 l2 (k2 + 1) →
      h₃.objs.size = hp.objs.size → ZipB h₃ z TI TO a true → (∀ c o, c ≠ z → c ≠ i1 → c ≠ i2 → hp.get? c = some o → h₃.get? c = some o) →
      wpAny (model prog w) A (newTuple [x, y] >>= fun v => ret v) (fun fin s' => ∃ v, fin = .done (.ret v) ∧ Q v s') E ⟨h₃, g, dr, tk, os⟩ := by
    intro h₁ hz₁ hs₁ h₃ e1 e2 e3 e4 e5
    refine wpAny_bind (wpAny_newTuple ?_)
    refine wpAny_pure ⟨_, rfl, ?_⟩
    show Q (.ref h₃.objs.size) _
    rw [e3]
    refine hQ _ (Heap.get?_push_of_some _ e4) (e1.at fun o e => Heap.get?_push_of_some _ e) (e2.at fun o e => Heap.get?_push_of_some _ e) ?_ (by rw [Heap.size_push, e3]) fun c o c1 c2 c3 e => Heap.get?_push_of_some _ (e5 c o c1 c2 c3 e)
    rw [← e3]
    exact Heap.get?_push_size _ rfl
  have n1 : ∀ h₁ : Heap, ZipB h₁ z TI TO a true → Heap.SameBut z hp h₁ → ∀ R : Value → Shared → Prop,
      (∀ h₂, h₂.IsListIter i1 l1 (k1 + 1) → Heap.SameBut i1 h₁ h₂ → R x ⟨h₂, g, dr, tk, os⟩) → wpAny (model prog w) A (Builtin.SmallTypes.nextOf (.ref i1)) R E ⟨h₁, g, dr, tk, os⟩ :=
    fun h₁ _ hs₁ R q => wpAny_nextOf_list_item (h1.extBut hs₁.extBut D.i1z) (hl1.extBut hs₁.extBut D.l1z) hx q
  have n2 : ∀ h₁ h₂ : Heap, Heap.SameBut z hp h₁ → Heap.SameBut i1 h₁ h₂ → ∀ R : Value → Shared → Prop,
      (∀ h₃, h₃.IsListIter i2 l2 (k2 + 1) → Heap.SameBut i2 h₂ h₃ → R y ⟨h₃, g, dr, tk, os⟩) → wpAny (model prog w) A (Builtin.SmallTypes.nextOf (.ref i2)) R E ⟨h₂, g, dr, tk, os⟩ :=
    fun h₁ h₂ hs₁ hs₂ R q => wpAny_nextOf_list_item ((h2.extBut hs₁.extBut D.i2z).extBut hs₂.extBut D.i12.symm) ((hl2.extBut hs₁.extBut D.l2z).extBut hs₂.extBut D.l2i1) hy q
  cases f with
  | true =>
    rw [if_neg (show ¬ ((Value.bool true != Value.bool true) = true) from Bool.false_ne_true)]
    refine wpAny_pure ?_
    simp only [Bool.false_eq_true, if_false]
    simp only [← Array.forIn_toList, List.forIn_cons, List.forIn_nil]
    refine wpAny_bind (wpAny_bind (wpAny_bind (wpAny_holding ?_)))
    show wpAny _ _ (Builtin.SmallTypes.nextOf (.ref i1) >>= _) _ _ _
    refine wpAny_bind (n1 hp hz (Heap.SameBut.refl _ _) _ fun h₂ h1₂ hs₂ => wpAny_pure (wpAny_pure ?_))
    refine wpAny_bind (wpAny_bind (wpAny_holding ?_))
    show wpAny _ _ (Builtin.SmallTypes.nextOf (.ref i2) >>= _) _ _ _
    refine wpAny_bind (n2 hp h₂ (Heap.SameBut.refl _ _) hs₂ _ fun h₃ h2₃ hs₃ => wpAny_pure (wpAny_pure (wpAny_pure ?_)))
    exact fin hp hz (Heap.SameBut.refl _ _) h₃ (h1₂.extBut hs₃.extBut D.i12) h2₃ (by rw [hs₃.1, hs₂.1]) (hs₃.extBut _ _ D.i2z.symm (hs₂.extBut _ _ D.i1z.symm hz))
      fun c o c1 c2 c3 e => hs₃.extBut _ _ c3 (hs₂.extBut _ _ c2 e)
  | false =>
    rw [if_pos (show (Value.bool false != Value.bool true) = true from rfl)]
    refine wpAny_bind (wpAny_setField_rec hz (by simp) fun h₁ hz₁ hs₁ => wpAny_pure ?_)
    replace hz₁ : ZipB h₁ z TI TO a true := hz₁
    simp only [Bool.false_eq_true, if_false]
    simp only [← Array.forIn_toList, List.forIn_cons, List.forIn_nil]
    refine wpAny_bind (wpAny_bind (wpAny_bind (wpAny_holding ?_)))
    show wpAny _ _ (Builtin.SmallTypes.nextOf (.ref i1) >>= _) _ _ _
    refine wpAny_bind (n1 h₁ hz₁ hs₁ _ fun h₂ h1₂ hs₂ => wpAny_pure (wpAny_pure ?_))
    refine wpAny_bind (wpAny_bind (wpAny_holding ?_))
    show wpAny _ _ (Builtin.SmallTypes.nextOf (.ref i2) >>= _) _ _ _
    refine wpAny_bind (n2 h₁ h₂ hs₁ hs₂ _ fun h₃ h2₃ hs₃ => wpAny_pure (wpAny_pure (wpAny_pure ?_)))
    exact fin h₁ hz₁ hs₁ h₃ (h1₂.extBut hs₃.extBut D.i12) h2₃ (by rw [hs₃.1, hs₂.1, hs₁.1]) (hs₃.extBut _ _ D.i2z.symm (hs₂.extBut _ _ D.i1z.symm hz₁))
      fun c o c1 c2 c3 e => hs₃.extBut _ _ c3 (hs₂.extBut _ _ c2 (hs₁.extBut _ _ c1 e))
/-- its end -/
theorem zip_over {z TI TO i1 i2 l1 l2 a : Addr} {f : Bool} {oa : Obj} {k1 k2 : Nat} {xs ys : Array Value} {Q : Fin → Shared → Prop} (hh : A.handled = none)
    (D : ZipApart z TI TO i1 i2 l1 l2) (hz : ZipB s.heap z TI TO a f) (ha : s.heap.get? a = some oa) (haz : a ≠ z)
    (hTI : IsPair s.heap TI (.ref i1) (.ref i2)) (h1 : s.heap.IsListIter i1 l1 k1) (h2 : s.heap.IsListIter i2 l2 k2)
    (hl1 : s.heap.IsList l1 xs) (hl2 : s.heap.IsList l2 ys) (hend : xs[k1]? = none ∨ ys[k2]? = none)
    (hE : ∀ h' e, (∀ c o, c ≠ z → c ≠ i1 → c ≠ i2 → s.heap.get? c = some o → h'.get? c = some o) → (∃ o, h'.get? e = some o ∧ o.cls = .type "StopIteration") → E (.ref e) { s with heap := h' }) :
    wpAny (model prog w) A (Builtin.«zip.__next__» ⟨[.ref z], []⟩) Q E s := by
  obtain ⟨hp, g, dr, tk, os⟩ := s
  replace hz : ZipB hp z TI TO a f := hz
  show wpAny _ _ (field (.ref z) 2 >>= _) _ _ _
  refine wpAny_bind (wpAny_field hz rfl (x := .bool false) rfl ?_)
  show wpAny _ _ (field (.ref z) 3 >>= _) _ _ _
  refine wpAny_bind (wpAny_field hz rfl (x := .ref TI) rfl ?_)
  refine wpAny_bind (wpAny_seqItems hTI rfl ?_)
  show wpAny _ _ (Builtin.SmallTypes.ownedTupleIsFree (.ref z) >>= _) _ _ _
  refine wpAny_bind ?_
  unfold Builtin.SmallTypes.ownedTupleIsFree
  refine wpAny_bind (wpAny_field hz rfl (x := rawInt a) rfl ?_)
  show wpAny _ _ (loadIfAlive ((a : Int).toNat) >>= _) _ _ _
  rw [Int.toNat_natCast]
  refine wpAny_bind (PySem.W.kdx_alive ha ?_)
  simp only [Option.isNone_some, Bool.false_eq_true, if_false]
  refine wpAny_bind (wpAny_field hz rfl (x := .bool f) rfl ?_)
  have go : ∀ h₁ : Heap, Heap.SameBut z hp h₁ → ∀ R : Value → Shared → Prop, (∀ h₂, h₂.IsListIter i1 l1 (k1 + 1) → Heap.SameBut i1 h₁ h₂ → ∀ x, xs[k1]? = some x → R x ⟨h₂, g, dr, tk, os⟩) →
      wpAny (model prog w) A (Builtin.SmallTypes.nextOf (.ref i1)) R E ⟨h₁, g, dr, tk, os⟩ := fun h₁ hs₁ R q => by
    cases hx : xs[k1]? with
    | none => exact wpAny_nextOf_list_end hh (h1.extBut hs₁.extBut D.i1z) (hl1.extBut hs₁.extBut D.l1z) hx fun h₂ e hs₂ he => hE h₂ e (fun c o c1 c2 c3 x => hs₂ _ _ c2 (hs₁.extBut _ _ c1 x)) he
    | some x => exact wpAny_nextOf_list_item (h1.extBut hs₁.extBut D.i1z) (hl1.extBut hs₁.extBut D.l1z) hx fun h₂ a1 a2 => q h₂ a1 a2 x hx
  have go2 : ∀ h₁ h₂ : Heap, Heap.SameBut z hp h₁ → Heap.SameBut i1 h₁ h₂ → (∃ x, xs[k1]? = some x) → ∀ R : Value → Shared → Prop, 
      wpAny (model prog w) A (Builtin.SmallTypes.nextOf (.ref i2)) R E ⟨h₂, g, dr, tk, os⟩ := fun h₁ h₂ hs₁ hs₂ ⟨x, hx⟩ R => by
    have hy : ys[k2]? = none := by
      rcases hend with h | h
      · rw [h] at hx; cases hx
      · exact h
    exact wpAny_nextOf_list_end hh ((h2.extBut hs₁.extBut D.i2z).extBut hs₂.extBut D.i12.symm) ((hl2.extBut hs₁.extBut D.l2z).extBut hs₂.extBut D.l2i1) hy fun h₃ e hs₃ he =>
      hE h₃ e (fun c o c1 c2 c3 x => hs₃ _ _ c3 (hs₂.extBut _ _ c2 (hs₁.extBut _ _ c1 x))) he
  cases f with
  | true =>
    rw [if_neg (show ¬ ((Value.bool true != Value.bool true) = true) from Bool.false_ne_true)]
    refine wpAny_pure ?_
    simp only [Bool.false_eq_true, if_false]
    simp only [← Array.forIn_toList, List.forIn_cons, List.forIn_nil]
    refine wpAny_bind (wpAny_bind (wpAny_bind (wpAny_holding ?_)))
    show wpAny _ _ (Builtin.SmallTypes.nextOf (.ref i1) >>= _) _ _ _
    refine wpAny_bind (go hp (Heap.SameBut.refl _ _) _ fun h₂ h1₂ hs₂ x hx => wpAny_pure (wpAny_pure ?_))
    refine wpAny_bind (wpAny_bind (wpAny_holding ?_))
    show wpAny _ _ (Builtin.SmallTypes.nextOf (.ref i2) >>= _) _ _ _
    exact wpAny_bind (go2 hp h₂ (Heap.SameBut.refl _ _) hs₂ ⟨x, hx⟩ _)
  | false =>
    rw [if_pos (show (Value.bool false != Value.bool true) = true from rfl)]
    refine wpAny_bind (wpAny_setField_rec hz (by simp) fun h₁ hz₁ hs₁ => wpAny_pure ?_)
    simp only [Bool.false_eq_true, if_false]
    simp only [← Array.forIn_toList, List.forIn_cons, List.forIn_nil]
    refine wpAny_bind (wpAny_bind (wpAny_bind (wpAny_holding ?_)))
    show wpAny _ _ (Builtin.SmallTypes.nextOf (.ref i1) >>= _) _ _ _
    refine wpAny_bind (go h₁ hs₁ _ fun h₂ h1₂ hs₂ x hx => wpAny_pure (wpAny_pure ?_))
    refine wpAny_bind (wpAny_bind (wpAny_holding ?_))
    show wpAny _ _ (Builtin.SmallTypes.nextOf (.ref i2) >>= _) _ _ _
    exact wpAny_bind (go2 h₁ h₂ hs₁ hs₂ ⟨x, hx⟩ _)
theorem pyNext_more {z TI TO i1 i2 l1 l2 a : Addr} {f : Bool} {oa : Obj} {k1 k2 : Nat} {xs ys : Array Value} {x y : Value} {Q : Option Value → Shared → Prop}
    (D : ZipApart z TI TO i1 i2 l1 l2) (hz : ZipB s.heap z TI TO a f) (ha : s.heap.get? a = some oa) (haz : a ≠ z)
    (hTI : IsPair s.heap TI (.ref i1) (.ref i2)) (h1 : s.heap.IsListIter i1 l1 k1) (h2 : s.heap.IsListIter i2 l2 k2)
    (hl1 : s.heap.IsList l1 xs) (hl2 : s.heap.IsList l2 ys) (hx : xs[k1]? = some x) (hy : ys[k2]? = some y)
    (hQ : ∀ h', ZipB h' z TI TO a true → h'.IsListIter i1 l1 (k1 + 1) → h'.IsListIter i2 l2 (k2 + 1) →
      IsPair h' s.heap.objs.size x y → h'.objs.size = s.heap.objs.size + 1 →
      (∀ c o, c ≠ z → c ≠ i1 → c ≠ i2 → s.heap.get? c = some o → h'.get? c = some o) → Q (some (.ref s.heap.objs.size)) { s with heap := h' }) :
    wpAny (model prog w) A (pyNext (.ref z)) Q E s := by
  have hT : s.TypeIs (.ref z) "zip" := ⟨_, hz, rfl⟩
  unfold pyNext
  exact wpAny_bind (wpAny_attempt (wpAny_callSpecial?_slot (name := Str.ofString "__next__") hT PySem.F.slot_zip_next
    (wpAny_call_entry PySem.F.slot_zip_next hT PySem.F.entry_zip_next
      (zip_more D hz ha haz hTI h1 h2 hl1 hl2 hx hy fun h' a1 a2 a3 a4 a5 a6 => wpAny_pure (hQ h' a1 a2 a3 a4 a5 a6)) (PySem.F.args_zip_next_1 _))))
theorem pyNext_over {z TI TO i1 i2 l1 l2 a : Addr} {f : Bool} {oa : Obj} {k1 k2 : Nat} {xs ys : Array Value} {Q : Option Value → Shared → Prop} (hh : A.handled = none)
    (D : ZipApart z TI TO i1 i2 l1 l2) (hz : ZipB s.heap z TI TO a f) (ha : s.heap.get? a = some oa) (haz : a ≠ z)
    (hTI : IsPair s.heap TI (.ref i1) (.ref i2)) (h1 : s.heap.IsListIter i1 l1 k1) (h2 : s.heap.IsListIter i2 l2 k2)
    (hl1 : s.heap.IsList l1 xs) (hl2 : s.heap.IsList l2 ys) (hend : xs[k1]? = none ∨ ys[k2]? = none)
    (hQ : ∀ h', (∀ c o, c ≠ z → c ≠ i1 → c ≠ i2 → s.heap.get? c = some o → h'.get? c = some o) → Q none { s with heap := h' }) :
    wpAny (model prog w) A (pyNext (.ref z)) Q E s := by
  have hT : s.TypeIs (.ref z) "zip" := ⟨_, hz, rfl⟩
  unfold pyNext
  refine wpAny_bind (wpAny_attempt (wpAny_callSpecial?_slot (name := Str.ofString "__next__") hT PySem.F.slot_zip_next
    (wpAny_call_entry PySem.F.slot_zip_next hT PySem.F.entry_zip_next (zip_over hh D hz ha haz hTI h1 h2 hl1 hl2 hend fun h' e hk he => ?_) (PySem.F.args_zip_next_1 _))))
  obtain ⟨o, ho, hc⟩ := he
  refine wpAny_bind (wpAny_isInstance (T := "StopIteration") (b := true) ⟨o, ho, hc⟩ isSubtype_stop ?_)
  exact wpAny_pure (hQ _ hk)
end
end TFZ

namespace TFZ
open PySem PySem.Calls PyProof.Rows PyProof.V PySem.Spec
structure ZSt (h : Heap) (z TI TO i1 i2 l1 l2 S : Addr) (xs ys : Array Value) (i : Nat) : Prop where
  zip : (IsZip h z TI TO .none ∧ ∃ a b, IsPair h TO a b) ∨ ∃ a f oa, ZipB h z TI TO a f ∧ h.get? a = some oa ∧ a ≠ z ∧ a ≠ S ∧ a ≠ i1 ∧ a ≠ i2
  pair : IsPair h TI (.ref i1) (.ref i2)
  one : h.IsListIter i1 l1 i
  two : h.IsListIter i2 l2 i
  left : h.IsList l1 xs
  right : h.IsList l2 ys
/-- where all that belongs to the zip lies: above the two lists, below the new list S -/
structure ZAt (z TI TO i1 i2 l1 l2 S lo : Addr) : Prop where
  ap : ZipApart z TI TO i1 i2 l1 l2
  zS : z < S
  TIS : TI < S
  TOS : TO < S
  i1S : i1 < S
  i2S : i2 < S
  loz : lo ≤ z
  loTI : lo ≤ TI
  loTO : lo ≤ TO
  lo1 : lo ≤ i1
  lo2 : lo ≤ i2
  l1lo : l1 < lo
  l2lo : l2 < lo
theorem ZSt.keep {h h' : Heap} {z TI TO i1 i2 l1 l2 S lo : Addr} {xs ys : Array Value} {i : Nat} (x : ZSt h z TI TO i1 i2 l1 l2 S xs ys i) (P : ZAt z TI TO i1 i2 l1 l2 S lo)
    (hk : ∀ b o, b ≠ S → h.get? b = some o → h'.get? b = some o) : ZSt h' z TI TO i1 i2 l1 l2 S xs ys i := by
  have q : ∀ {b : Addr}, b < S → ∀ o, h.get? b = some o → h'.get? b = some o := fun l o e => hk _ o (Nat.ne_of_lt l) e
  have lo' : lo ≤ S := Nat.le_trans P.loz (Nat.le_of_lt P.zS)
  refine ⟨?_, q P.TIS _ x.pair, x.one.at fun o e => q P.i1S o e, x.two.at fun o e => q P.i2S o e, x.left.at fun o e => q (Nat.lt_of_lt_of_le P.l1lo lo') o e, x.right.at fun o e => q (Nat.lt_of_lt_of_le P.l2lo lo') o e⟩
  rcases x.zip with ⟨e, a, b, e2⟩ | ⟨a, f, oa, e, ha, h1, h2, h3, h4⟩
  · exact .inl ⟨q P.zS _ e, a, b, q P.TOS _ e2⟩
  · exact .inr ⟨a, f, oa, q P.zS _ e, hk a oa h2 ha, h1, h2, h3, h4⟩
section
variable {prog : Program} {w : World} {A : Around} {E : Value → Shared → Prop} {s : Shared} {z TI TO i1 i2 l1 l2 S lo : Addr} {xs ys : Array Value} {i : Nat}
theorem z_item (P : ZAt z TI TO i1 i2 l1 l2 S lo) {x y : Value} {Q : Option Value → Shared → Prop} (st : ZSt s.heap z TI TO i1 i2 l1 l2 S xs ys i) (hS : S < s.heap.objs.size) (hx : xs[i]? = some x) (hy : ys[i]? = some y)
    (hQ : ∀ h', ZSt h' z TI TO i1 i2 l1 l2 S xs ys (i + 1) → IsPair h' s.heap.objs.size x y → h'.objs.size = s.heap.objs.size + 1 →
      (∀ c o, c ≠ z → c ≠ TO → c ≠ i1 → c ≠ i2 → s.heap.get? c = some o → h'.get? c = some o) → Q (some (.ref s.heap.objs.size)) { s with heap := h' }) : wpAny (model prog w) A (pyNext (.ref z)) Q E s := by
  have D := P.ap
  have new : ∀ {b : Addr}, b < S → s.heap.objs.size ≠ b := fun l => Nat.ne_of_gt (Nat.lt_trans l hS)
  rcases st.zip with ⟨e, a, b, e2⟩ | ⟨a, f, oa, e, ha, g1, g2, g3, g4⟩
  · refine wpAny_pyNext_zip_item D e st.pair e2 st.one st.two st.left st.right hx hy fun h' a1 a2 a3 a4 a5 a6 hk => ?_
    refine hQ h' ⟨.inr ⟨_, false, _, a1, a5, new P.zS, Nat.ne_of_gt hS, new P.i1S, new P.i2S⟩, hk _ _ D.TIz D.TITO D.TIi1 D.TIi2 st.pair, a3, a4, st.left.at fun o q => hk _ o D.l1z D.l1TO D.l1i1 D.l1i2 q,
      st.right.at fun o q => hk _ o D.l2z D.l2TO D.l2i1 D.l2i2 q⟩ a5 a6 hk
  · refine pyNext_more D e ha g1 st.pair st.one st.two st.left st.right hx hy fun h' a1 a3 a4 a5 a6 hk => ?_
    refine hQ h' ⟨.inr ⟨a, true, oa, a1, hk a oa g1 g3 g4 ha, g1, g2, g3, g4⟩, hk _ _ D.TIz D.TIi1 D.TIi2 st.pair, a3, a4, st.left.at fun o q => hk _ o D.l1z D.l1i1 D.l1i2 q,
      st.right.at fun o q => hk _ o D.l2z D.l2i1 D.l2i2 q⟩ a5 a6 fun c o c1 _ c3 c4 => hk c o c1 c3 c4
theorem z_done (hh : A.handled = none) (P : ZAt z TI TO i1 i2 l1 l2 S lo) {Q : Option Value → Shared → Prop} (st : ZSt s.heap z TI TO i1 i2 l1 l2 S xs ys i) (hend : xs[i]? = none ∨ ys[i]? = none)
    (hQ : ∀ h', (∀ c o, c ≠ z → c ≠ TO → c ≠ i1 → c ≠ i2 → s.heap.get? c = some o → h'.get? c = some o) → Q none { s with heap := h' }) : wpAny (model prog w) A (pyNext (.ref z)) Q E s := by
  have D := P.ap
  rcases st.zip with ⟨e, a, b, e2⟩ | ⟨a, f, oa, e, ha, g1, g2, g3, g4⟩
  · exact wpAny_pyNext_zip_end hh D e st.pair e2 st.one st.two st.left st.right hend hQ
  · exact pyNext_over hh D e ha g1 st.pair st.one st.two st.left st.right hend fun h' hk => hQ h' fun c o c1 _ c3 c4 => hk c o c1 c3 c4
end
structure ZG (xs ys : Array Value) (lo : Addr) (h : Heap) (as : List Addr) : Prop where
  rise : as.Pairwise (· < ·)
  above : ∀ a ∈ as, lo < a
  pairs : ∀ (j : Nat) (a : Addr), as[j]? = some a → ∃ x y, xs[j]? = some x ∧ ys[j]? = some y ∧ IsPair h a x y
theorem ZG.there {xs ys : Array Value} {lo : Addr} {h : Heap} {as : List Addr} (g : ZG xs ys lo h as) {a : Addr} (ha : a ∈ as) : a < h.objs.size := by
  obtain ⟨j, hj⟩ := List.mem_iff_getElem?.mp ha
  obtain ⟨_, _, _, _, e⟩ := g.pairs j a hj
  exact Heap.lt_size e
abbrev lstAt (h : Heap) (S : Addr) (acc : Array Value) (c : Nat) : Prop := h.get? S = some { cls := .type "list", dict := none, data := .seq acc c, slots := #[] }
section
variable {prog : Program} {w : World} {A : Around} {s : Shared} {R : Result → Shared → Prop} {z TI TO i1 i2 l1 l2 S lo : Addr} {xs ys : Array Value}
theorem z_loop (hh : A.handled = none) (P : ZAt z TI TO i1 i2 l1 l2 S lo) (n : Nat) (hnn : n = min xs.size ys.size) (hn : n ≤ sizeLine) (res : Value) {h₁ : Heap} (hlo : h₁.objs.size ≤ lo)
    (hR : ∀ h' tk acc c as, (∀ b o, h₁.get? b = some o → h'.get? b = some o) → lstAt h' S acc c → as.length = n → ZG xs ys S h' as → acc.toList = as.map Value.ref →
      R (.ok (.ret res)) { s with heap := h', toks := tk }) :
    ∀ (k i : Nat) (h : Heap) (tk c : Nat) (acc : Array Value) (as : List Addr), n - i = k → i ≤ n → ZSt h z TI TO i1 i2 l1 l2 S xs ys i → (∀ b o, h₁.get? b = some o → h.get? b = some o) →
      lstAt h S acc c → acc.toList = as.map Value.ref → as.length = i → ZG xs ys S h as →
      codeAny (model prog w) A (.builtin "list.extend.loop" ⟨[.ref S, .ref z, res], []⟩) R { s with heap := h, toks := tk } := by
  have old : ∀ {b : Addr} {o : Obj}, h₁.get? b = some o → b < lo := fun e => Nat.lt_of_lt_of_le (Heap.lt_size e) hlo
  have loS : lo < S := Nat.lt_of_le_of_lt P.loz P.zS
  intro k
  induction k with
  | zero =>
    intro i h tk c acc as hk hi st hkeep hS hacc hal hG
    have hend : xs[i]? = none ∨ ys[i]? = none := by
      rcases Nat.le_total xs.size ys.size with q | q
      · exact .inl (Array.getElem?_eq_none (by omega))
      · exact .inr (Array.getElem?_eq_none (by omega))
    refine codeAny_builtin PySem.F.entry_extend_loop ?_
    rw [Around.under_plainId PySem.F.plain_extend_loop _]
    show wpAny _ A.in1 (pyNext (.ref z) >>= _) _ _ _
    refine wpAny_bind (z_done (s := { s with heap := h, toks := tk }) (A := A.in1) hh P st hend fun h' he => ?_)
    have up : ∀ b o, S ≤ b → h.get? b = some o → h'.get? b = some o := fun b o l e => he b o (Nat.ne_of_gt (Nat.lt_of_lt_of_le P.zS l)) (Nat.ne_of_gt (Nat.lt_of_lt_of_le P.TOS l)) (Nat.ne_of_gt (Nat.lt_of_lt_of_le P.i1S l)) (Nat.ne_of_gt (Nat.lt_of_lt_of_le P.i2S l)) e
    have dn : ∀ b o, b < lo → h.get? b = some o → h'.get? b = some o := fun b o l e => he b o (Nat.ne_of_lt (Nat.lt_of_lt_of_le l P.loz)) (Nat.ne_of_lt (Nat.lt_of_lt_of_le l P.loTO)) (Nat.ne_of_lt (Nat.lt_of_lt_of_le l P.lo1)) (Nat.ne_of_lt (Nat.lt_of_lt_of_le l P.lo2)) e
    refine wpAny_pure (hR h' tk acc c as (fun b o e => dn b o (old e) (hkeep b o e)) (up S _ (Nat.le_refl _) hS) (by omega) ⟨hG.rise, hG.above, fun j a hj => ?_⟩ hacc)
    obtain ⟨x, y, e1, e2, e3⟩ := hG.pairs j a hj
    exact ⟨x, y, e1, e2, up a _ (Nat.le_of_lt (hG.above a (List.mem_of_getElem? hj))) e3⟩
  | succ k ih =>
    intro i h tk c acc as hk hi st hkeep hS hacc hal hG
    have hx : i < xs.size := by omega
    have hy : i < ys.size := by omega
    have hsz : acc.size = i := by rw [← Array.length_toList, hacc, List.length_map, hal]
    have hSl : S < h.objs.size := Heap.lt_size hS
    refine codeAny_builtin PySem.F.entry_extend_loop ?_
    rw [Around.under_plainId PySem.F.plain_extend_loop _]
    show wpAny _ A.in1 (pyNext (.ref z) >>= _) _ _ _
    refine wpAny_bind (z_item (s := { s with heap := h, toks := tk }) P st hSl (Array.getElem?_eq_getElem hx) (Array.getElem?_eq_getElem hy) fun h' st' ht hz hkp => ?_)
    dsimp only at ht hz hkp ⊢
    have upS : ∀ b o, S ≤ b → h.get? b = some o → h'.get? b = some o := fun b o l e => hkp b o (Nat.ne_of_gt (Nat.lt_of_lt_of_le P.zS l)) (Nat.ne_of_gt (Nat.lt_of_lt_of_le P.TOS l)) (Nat.ne_of_gt (Nat.lt_of_lt_of_le P.i1S l)) (Nat.ne_of_gt (Nat.lt_of_lt_of_le P.i2S l)) e
    have dn : ∀ b o, b < lo → h.get? b = some o → h'.get? b = some o := fun b o l e => hkp b o (Nat.ne_of_lt (Nat.lt_of_lt_of_le l P.loz)) (Nat.ne_of_lt (Nat.lt_of_lt_of_le l P.loTO)) (Nat.ne_of_lt (Nat.lt_of_lt_of_le l P.lo1)) (Nat.ne_of_lt (Nat.lt_of_lt_of_le l P.lo2)) e
    have hS' := upS S _ (Nat.le_refl _) hS
    have up : ∀ b o, b ≠ S → h'.get? b = some o → (h'.update S (Obj.mapSeq (·.push (Value.ref h.objs.size)))).get? b = some o := fun b o hb e => (Heap.get?_update_other _ _ (Ne.symm hb)).trans e
    show wpAny _ A.in1 (updateSeq S (·.push (Value.ref h.objs.size)) >>= _) _ _ _
    refine wpAny_bind ?_
    refine wpAny_updateSeq hS' rfl (wpAny_pure ⟨plainId_quiet PySem.F.plain_extend_loop _, ih (i + 1) _ tk _ (acc.push (Value.ref h.objs.size)) (as ++ [h.objs.size]) (by omega) (by omega) (st'.keep P up)
      (fun b o e => up b o (Nat.ne_of_lt (Nat.lt_trans (old e) loS)) (dn b o (old e) (hkeep b o e))) (Heap.get?_update_self _ hS' rfl) (by rw [Array.toList_push, hacc, List.map_append]; rfl) (by rw [List.length_append, hal]; rfl) ⟨?_, ?_, ?_⟩⟩)
      (by rw [hsz]; omega) (by show (acc.push (Value.ref h.objs.size)).size ≤ sizeLine + 1; rw [Array.size_push, hsz]; omega)
    · refine List.pairwise_append.mpr ⟨hG.rise, List.pairwise_singleton _ _, fun a ha b hb => ?_⟩
      rw [List.mem_singleton.mp hb]
      exact hG.there ha
    · intro a ha
      rcases List.mem_append.mp ha with ha | ha
      · exact hG.above a ha
      · rw [List.mem_singleton.mp ha]; exact hSl
    · intro j b hj
      rcases Nat.lt_trichotomy j as.length with q | q | q
      · rw [List.getElem?_append_left q] at hj
        obtain ⟨x', y', e1, e2, e3⟩ := hG.pairs j b hj
        have hb := hG.above b (List.mem_of_getElem? hj)
        exact ⟨x', y', e1, e2, up b _ (Nat.ne_of_gt hb) (upS b _ (Nat.le_of_lt hb) e3)⟩
      · subst q
        have hb : h.objs.size = b := by simpa using hj
        subst hb
        exact ⟨_, _, by rw [hal]; exact Array.getElem?_eq_getElem hx, by rw [hal]; exact Array.getElem?_eq_getElem hy, up _ _ (Nat.ne_of_gt hSl) ht⟩
      · have hnone : (as ++ [h.objs.size])[j]? = none := List.getElem?_eq_none (by rw [List.length_append, List.length_singleton]; omega)
        rw [hnone] at hj; cases hj
end
theorem zip_no_len : typeLookup (.type "zip") "__len__" = pure none := by rw [typeLookup_type, builtinLookup_eq_fast]; kernel_rfl
theorem zip_no_hint : typeLookup (.type "zip") "__length_hint__" = pure none := by rw [typeLookup_type, builtinLookup_eq_fast]; kernel_rfl
end TFZ

namespace TFZ
open PySem PySem.Calls PyProof.Rows PyProof.V PySem.Spec
theorem ZSt.type {h : Heap} {z TI TO i1 i2 l1 l2 S : Addr} {xs ys : Array Value} {i : Nat} (x : ZSt h z TI TO i1 i2 l1 l2 S xs ys i) {s : Shared} (e : s.heap = h) : s.TypeIs (.ref z) "zip" := by
  rcases x.zip with ⟨q, _⟩ | ⟨_, _, _, q, _⟩
  · exact ⟨_, by rw [e]; exact q, rfl⟩
  · exact ⟨_, by rw [e]; exact q, rfl⟩
section
variable {prog : Program} {w : World} {A : Around} {E : Value → Shared → Prop} {s : Shared} {z TI TO i1 i2 l1 l2 S lo : Addr} {xs ys : Array Value}
theorem z_extend {R : Result → Shared → Prop} (hh : A.handled = none) (P : ZAt z TI TO i1 i2 l1 l2 S lo) (n : Nat) (hnn : n = min xs.size ys.size) (hn : n ≤ sizeLine) (res : Value) {h₁ : Heap} (hlo : h₁.objs.size ≤ lo) (c₀ : Nat)
    (hz0 : IsZip s.heap z TI TO .none) (st : ZSt s.heap z TI TO i1 i2 l1 l2 S xs ys 0) (hkeep : ∀ b o, h₁.get? b = some o → s.heap.get? b = some o) (hS : lstAt s.heap S #[] c₀)
    (hR : ∀ h' tk acc c as, (∀ b o, h₁.get? b = some o → h'.get? b = some o) → lstAt h' S acc c → as.length = n → ZG xs ys S h' as → acc.toList = as.map Value.ref →
      R (.ok (.ret res)) { s with heap := h', toks := tk }) :
    wpAny (model prog w) A.in1 (Builtin.List.listExtendWith (.ref S) (.ref z) res)
      (fun fin s' => match fin with | .done f => R (.ok f) s' | .again c' => c'.quiet = true ∧ codeAny (model prog w) A c' R s') (fun e s' => R (.error e) s') s := by
  have hSz : S ≠ z := Nat.ne_of_gt P.zS
  have loS : lo < S := Nat.lt_of_le_of_lt P.loz P.zS
  have key : ∀ (h : Heap) (c₁ tk : Nat), (∀ b o, b ≠ S → s.heap.get? b = some o → h.get? b = some o) → lstAt h S #[] c₁ →
      codeAny (model prog w) A (.builtin "list.extend.loop" ⟨[.ref S, .ref z, res], []⟩) R { s with heap := h, toks := tk } := fun h c₁ tk hk hS₁ =>
    z_loop (s := s) hh P n hnn hn res hlo hR n 0 h tk c₁ #[] [] (Nat.sub_zero _) (Nat.zero_le _) (st.keep P hk)
      (fun b o e => hk b o (Nat.ne_of_lt (Nat.lt_trans (Nat.lt_of_lt_of_le (Heap.lt_size e) hlo) loS)) (hkeep b o e)) hS₁ rfl rfl ⟨List.Pairwise.nil, (fun _ ha => nomatch ha), (fun j a hj => by simp at hj)⟩
  unfold Builtin.List.listExtendWith
  refine wpAny_bind (wpAny_typeOf (st.type rfl) ?_)
  have e1 : Builtin.List.listSameRef (.ref S) (.ref z) = false := by simp [Builtin.List.listSameRef, hSz]
  have e2 : (Value.type "zip" == Value.type "list") = false := by decide
  have e3 : (Value.type "zip" == Value.type "tuple") = false := by decide
  simp only [e1, e2, e3, Bool.or_false, Bool.false_eq_true, if_false]
  refine wpAny_bind (wpAny_pyIter_zip hz0 ?_)
  refine wpAny_bind (wpAny_holding ?_)
  unfold Builtin.List.listLengthHint
  refine wpAny_bind (wpAny_specialOf (st.type rfl) zip_no_len ?_)
  show wpAny _ A.in1 (specialOf (Value.ref z) (Str.ofString "__length_hint__") >>= _) _ _ _
  refine wpAny_bind (wpAny_specialOf (st.type rfl) zip_no_hint ?_)
  refine wpAny_pure ?_
  show wpAny _ A.in1 (rule "list.extend.makes-room" >>= fun _ => Builtin.List.listTouch (.ref S) >>= fun _ => again (.builtin "list.extend.loop" ⟨[.ref S, .ref z, res], []⟩)) _ _ _
  refine wpAny_bind (wpAny_rule ?_)
  refine wpAny_bind ?_
  show wpAny _ _ (updateSeq S (·.push .none) >>= fun _ => updateSeq S (·.pop)) _ _ _
  refine wpAny_bind (wpAny_updateSeq hS rfl ?_)
  have hS₂ := Heap.get?_update_self (Obj.mapSeq (·.push Value.none)) hS rfl
  refine wpAny_updateSeq (hz := by seq_fits) hS₂ rfl ?_
  have hS₃ := Heap.get?_update_self (Obj.mapSeq (·.pop)) hS₂ rfl
  refine wpAny_pure ⟨plainId_quiet PySem.F.plain_extend_loop _, key _ _ _ (fun b o hb e => ?_) hS₃⟩
  exact (Heap.get?_update_other _ _ (Ne.symm hb)).trans ((Heap.get?_update_other _ _ (Ne.symm hb)).trans e)
theorem z_init {R : Result → Shared → Prop} (hh : A.handled = none) (P : ZAt z TI TO i1 i2 l1 l2 S lo) (n : Nat) (hnn : n = min xs.size ys.size) (hn : n ≤ sizeLine) {h₁ : Heap} (hlo : h₁.objs.size ≤ lo)
    (hz0 : IsZip s.heap z TI TO .none) (st : ZSt s.heap z TI TO i1 i2 l1 l2 S xs ys 0) (hkeep : ∀ b o, h₁.get? b = some o → s.heap.get? b = some o) (hS : s.heap.get? S = some { cls := .type "list", data := .seq #[] })
    (hR : ∀ h' tk acc c as, (∀ b o, h₁.get? b = some o → h'.get? b = some o) → lstAt h' S acc c → as.length = n → ZG xs ys S h' as → acc.toList = as.map Value.ref →
      R (.ok (.ret .none)) { s with heap := h', toks := tk }) :
    wpAny (model prog w) A.in1 (Builtin.«list.__init__» ⟨[.ref S, .ref z], []⟩)
      (fun fin s' => match fin with | .done f => R (.ok f) s' | .again c' => c'.quiet = true ∧ codeAny (model prog w) A c' R s') (fun e s' => R (.error e) s') s := by
  have loS : lo < S := Nat.lt_of_le_of_lt P.loz P.zS
  show wpAny _ _ (do let old ← Builtin.List.listItems (.ref S); Builtin.List.listUpdate (.ref S) (fun _ => #[]); letGo old.toList.reverse; Builtin.List.listExtendWith (.ref S) (.ref z) .none) _ _ s
  refine wpAny_bind ?_
  unfold Builtin.List.listItems
  refine wpAny_bind (wpAny_seqItems hS rfl (wpAny_pure ?_))
  show wpAny _ _ (updateSeq S (fun _ => #[]) >>= fun _ => letGo (#[] : Array Value).toList.reverse >>= fun _ => Builtin.List.listExtendWith (.ref S) (.ref z) .none) _ _ s
  refine wpAny_bind (wpAny_updateSeq hS rfl ?_)
  have hS₂ := Heap.get?_update_self (Obj.mapSeq (fun _ => (#[] : Array Value))) hS rfl
  have oth : ∀ b o, b ≠ S → s.heap.get? b = some o → (s.heap.update S (Obj.mapSeq (fun _ => (#[] : Array Value)))).get? b = some o :=
    fun b o hb e => (Heap.get?_update_other _ _ (Ne.symm hb)).trans e
  refine wpAny_bind (wpAny_letGo ?_)
  exact z_extend hh P n hnn hn .none hlo _ (oth _ _ (Nat.ne_of_lt P.zS) hz0) (st.keep P oth)
    (fun b o e => oth b o (Nat.ne_of_lt (Nat.lt_trans (Nat.lt_of_lt_of_le (Heap.lt_size e) hlo) loS)) (hkeep b o e)) hS₂ hR
/-- list(zip) right behind the zip's making -/
theorem z_call {Q : Value → Shared → Prop} (hh : A.handled = none) (hl1 : s.heap.IsList l1 xs) (hl2 : s.heap.IsList l2 ys) {h₀ : Heap} (hlo : h₀.objs.size + 5 = s.heap.objs.size) (ha : l1 < h₀.objs.size) (hb : l2 < h₀.objs.size)
    (hz : IsZip s.heap (h₀.objs.size + 4) (h₀.objs.size + 2) (h₀.objs.size + 3) .none) (hTI : IsPair s.heap (h₀.objs.size + 2) (.ref h₀.objs.size) (.ref (h₀.objs.size + 1)))
    (hTO : IsPair s.heap (h₀.objs.size + 3) .none .none) (h1 : s.heap.IsListIter h₀.objs.size l1 0) (h2 : s.heap.IsListIter (h₀.objs.size + 1) l2 0) (hk : ∀ b o, h₀.get? b = some o → s.heap.get? b = some o)
    (n : Nat) (hnn : n = min xs.size ys.size) (hn : n ≤ sizeLine)
    (hQ : ∀ h' tk acc c as, (∀ b o, h₀.get? b = some o → h'.get? b = some o) → lstAt h' (h₀.objs.size + 5) acc c → as.length = n → ZG xs ys (h₀.objs.size + 5) h' as → acc.toList = as.map Value.ref →
      Q (.ref (h₀.objs.size + 5)) { s with heap := h', toks := tk }) :
    wpAny (model prog w) A (call (.type "list") [.ref (h₀.objs.size + 4)]) Q E s := by
  refine callType_codes (Q₁ := fun obj s₁ => obj = .ref s.heap.objs.size ∧ s₁ = { s with heap := s.heap.push { cls := .type "list", data := .seq #[] } }) PySem.F.called_list (PySem.F.typeCall_list_1 _) PySem.F.entry_list_init
    (code_list_new _ ⟨rfl, rfl⟩) fun obj s₁ h₁ => ?_
  obtain ⟨rfl, rfl⟩ := h₁
  have hS : (s.heap.push { cls := .type "list", data := .seq #[] }).get? s.heap.objs.size = some { cls := .type "list", data := .seq #[] } := Heap.get?_push_size _ rfl
  have lt5 : ∀ k : Nat, k < 5 → h₀.objs.size + k < s.heap.objs.size := fun k hk => by rw [← hlo]; exact Nat.add_lt_add_left hk _
  have P : ZAt (h₀.objs.size + 4) (h₀.objs.size + 2) (h₀.objs.size + 3) h₀.objs.size (h₀.objs.size + 1) l1 l2 s.heap.objs.size h₀.objs.size :=
    ⟨PySem.W.ktu_apart h₀.objs.size l1 l2 ha hb, lt5 4 (by decide), lt5 2 (by decide), lt5 3 (by decide), lt5 0 (by decide), lt5 1 (by decide), Nat.le_add_right _ _, Nat.le_add_right _ _, Nat.le_add_right _ _, Nat.le_refl _, Nat.le_add_right _ _, ha, hb⟩
  have up : ∀ b o, s.heap.get? b = some o → (s.heap.push { cls := .type "list", data := .seq #[] }).get? b = some o := fun b o e => Heap.get?_push_of_some _ e
  have st : ZSt (s.heap.push { cls := .type "list", data := .seq #[] }) (h₀.objs.size + 4) (h₀.objs.size + 2) (h₀.objs.size + 3) h₀.objs.size (h₀.objs.size + 1) l1 l2 s.heap.objs.size xs ys 0 :=
    ⟨.inl ⟨up _ _ hz, _, _, up _ _ hTO⟩, up _ _ hTI, h1.at fun o e => up _ o e, h2.at fun o e => up _ o e, hl1.at fun o e => up _ o e, hl2.at fun o e => up _ o e⟩
  refine ⟨⟨_, hS, rfl⟩, PySem.F.args_list_init_2 _ _, z_init (A := A.in1) hh P n hnn hn (Nat.le_refl _) (up _ _ hz) st (fun b o e => up b o (hk b o e)) hS (fun h' tk acc c as g1 g2 g3 g4 g5 => ?_)⟩
  rw [← hlo] at g2 g4
  rw [← hlo]
  exact ⟨rfl, hQ h' tk acc c as g1 g2 g3 g4 g5⟩
end
end TFZ

namespace TF
open PySem PySem.Spec PyProof.Rows L2 TFZ
/-- the pairs at their places -/
def putP : Hp → List Addr → List (V × V) → Hp
  | H, a :: as, p :: ps => putP (upd H a (.tup [p.1, p.2])) as ps
  | H, _, _ => H
theorem putP_off {b : Addr} : ∀ (as : List Addr) (ps : List (V × V)) (H : Hp), b ∉ as → putP H as ps b = H b
  | [], _, _, _ => rfl
  | _ :: _, [], _, _ => rfl
  | a :: as, p :: ps, H, h => by
    have h2 : b ≠ a ∧ b ∉ as := ⟨fun z => h (by rw [z]; exact List.mem_cons_self), fun z => h (List.mem_cons_of_mem _ z)⟩
    show putP (upd H a (.tup [p.1, p.2])) as ps b = H b
    rw [putP_off as ps _ h2.2, upd_ne h2.1]
theorem putP_at : ∀ (as : List Addr) (ps : List (V × V)) (H : Hp), as.Nodup → ∀ (j : Nat) (a : Addr) (p : V × V), as[j]? = some a → ps[j]? = some p → putP H as ps a = some (.tup [p.1, p.2])
  | [], _, _, _, j, a, p, h, _ => by simp at h
  | _ :: _, [], _, _, j, a, p, _, h => by simp at h
  | b :: as, q :: ps, H, hn, 0, a, p, h, h' => by
    have e1 : b = a := Option.some.inj h
    have e2 : q = p := Option.some.inj h'
    subst e1 e2
    show putP (upd H b (.tup [q.1, q.2])) as ps b = _
    rw [putP_off as ps _ (List.nodup_cons.mp hn).1, upd_same]
  | b :: as, q :: ps, H, hn, j + 1, a, p, h, h' => putP_at as ps _ (List.nodup_cons.mp hn).2 j a p h h'
section
variable {X : Cx} {pins : List (Addr × Obj)} {σ : L2.St} {H : Hp} {s : Shared}
theorem refs_vals : ∀ as : List Addr, Vals (as.map V.ref) (as.map Value.ref)
  | [] => .nil
  | _ :: as => .cons rfl (refs_vals as)
theorem pairs_laid {h' : Heap} {tk : Nat} {S : Addr} {xs ys : List V} {us ws : List Value} {acc : Array Value} {c : Nat} {as : List Addr} (I : Inv X pins σ H s) (hSz : s.heap.objs.size ≤ S)
    (rx : Vals xs us) (ry : Vals ys ws) (hz : as.length ≤ sizeLine) (hal : as.length = min xs.length ys.length) (hk : ∀ b o, s.heap.get? b = some o → h'.get? b = some o) (hS : lstAt h' S acc c)
    (hG : ZG us.toArray ws.toArray S h' as) (hacc : acc.toList = as.map Value.ref) :
    ∃ H' : Hp, (∀ b o, H b = some o → H' b = some o) ∧ H S = none ∧ H' S = some (.lst (as.map V.ref)) ∧
      (∀ (j : Nat) (a : Addr) (x y : V), as[j]? = some a → xs[j]? = some x → ys[j]? = some y → H' a = some (.tup [x, y])) ∧ Inv X pins σ H' { s with heap := h', toks := tk } := by
  have hSn : S ∉ as := fun z => Nat.lt_irrefl _ (hG.above _ z)
  have nd : as.Nodup := List.Pairwise.imp (fun {a b} (h : a < b) => Nat.ne_of_lt h) hG.rise
  have big : ∀ t ∈ as, s.heap.objs.size ≤ t := fun t ht => Nat.le_of_lt (Nat.lt_of_le_of_lt hSz (hG.above t ht))
  have new : ∀ t ∈ as, H t = none := fun t ht => I.hok.fresh (big t ht)
  have newS : H S = none := I.hok.fresh hSz
  have lz : (xs.zip ys).length = as.length := by rw [List.length_zip, hal]
  have zat : ∀ (j : Nat) (x y : V), xs[j]? = some x → ys[j]? = some y → (xs.zip ys)[j]? = some (x, y) := fun j x y e1 e2 => by
    rw [List.getElem?_zip_eq_some]; exact ⟨e1, e2⟩
  have atP : ∀ (j : Nat) (a : Addr) (x y : V), as[j]? = some a → xs[j]? = some x → ys[j]? = some y → putP (upd H S (.lst (as.map V.ref))) as (xs.zip ys) a = some (.tup [x, y]) :=
    fun j a x y e0 e1 e2 => putP_at as (xs.zip ys) _ nd j a (x, y) e0 (zat j x y e1 e2)
  have off : ∀ b, b ∉ as → b ≠ S → putP (upd H S (.lst (as.map V.ref))) as (xs.zip ys) b = H b := fun b h1 h2 => by rw [putP_off as _ _ h1, upd_ne h2]
  have low : ∀ b o, s.heap.get? b = some o → b ∉ as ∧ b ≠ S := fun b o e => ⟨fun z => absurd (Heap.lt_size e) (Nat.not_lt.mpr (big b z)), Nat.ne_of_lt (Nat.lt_of_lt_of_le (Heap.lt_size e) hSz)⟩
  have kp : ∀ b u, H b = some u → (putP (upd H S (.lst (as.map V.ref))) as (xs.zip ys)) b = some u := fun b u e => by
    rw [off b (fun z => by rw [new b z] at e; cases e) (fun z => by rw [z, newS] at e; cases e)]
    exact e
  have eS : putP (upd H S (.lst (as.map V.ref))) as (xs.zip ys) S = some (.lst (as.map V.ref)) := by rw [putP_off as _ _ hSn, upd_same]
  refine ⟨putP (upd H S (.lst (as.map V.ref))) as (xs.zip ys), kp, newS, eS, atP, ?_⟩
  refine I.call' (ch := []) rfl ⟨fun b o q _ _ _ => hk b o q, fun b o q _ _ _ => ⟨o.slots, hk b o q⟩, fun b o q n _ => ?_, fun b o q _ => ⟨o, hk b o q⟩, fun b xs q => kp b _ q, fun b o u q => kp b _ q, fun b ps q => ⟨#[], by rw [kp b _ q]; simp⟩⟩ (fun b u q => ?_) I.bare fun b z => by simp at z
  · obtain ⟨z1, z2⟩ := low b o q
    rw [off b z1 z2]
    exact n
  · by_cases hb : b ∈ as
    · obtain ⟨j, hj⟩ := List.mem_iff_getElem?.mp hb
      have hjl : j < as.length := (List.getElem?_eq_some_iff.mp hj).1
      have hjx : j < xs.length := by omega
      have hjy : j < ys.length := by omega
      obtain ⟨u1, f1, r1⟩ := rx.get (List.getElem?_eq_getElem hjx)
      obtain ⟨u2, f2, r2⟩ := ry.get (List.getElem?_eq_getElem hjy)
      obtain ⟨a1, a2, g1, g2, g3⟩ := hG.pairs j b hj
      have g1' : us[j]? = some a1 := by simpa using g1
      have g2' : ws[j]? = some a2 := by simpa using g2
      have d1 : u1 = a1 := Option.some.inj (f1.symm.trans g1')
      have d2 : u2 = a2 := Option.some.inj (f2.symm.trans g2')
      subst d1 d2
      rw [atP j b _ _ hj (List.getElem?_eq_getElem hjx) (List.getElem?_eq_getElem hjy)] at q
      cases q
      exact ⟨by show 2 ≤ sizeLine; decide, [u1, u2], .cons r1 (.cons r2 .nil), ⟨_, g3, rfl, _, rfl⟩⟩
    · by_cases hb2 : b = S
      · rw [hb2] at q ⊢
        rw [eS] at q
        cases q
        refine ⟨by rw [List.length_map]; exact hz, acc.toList, c, by rw [hacc]; exact refs_vals as, ?_⟩
        rw [Array.toArray_toList]
        exact hS
      · rw [off b hb hb2] at q
        exact (I.hok b u q).stay (fun d v _ y => hk d v y) (fun d y => kp d _ y) fun d xs y => kp d _ y
/-- list(zip(e, e2)) of two lists -/
def tListZip (K : PySem.W.Frag) (ta : TA) : TE := fun σ H Q => ta σ H fun vs H1 => ∃ (a b : Addr) (xs ys : List V), vs = [.ref a, .ref b] ∧ SqL K H1 a xs ∧ SqL K H1 b ys ∧
  ∀ (H' : Hp) (p : Addr) (ts : List Addr), (∀ b o, H1 b = some o → H' b = some o) → H1 p = none → H' p = some (.lst (ts.map V.ref)) → ts.length = min xs.length ys.length →
    (∀ (j : Nat) (t : Addr) (x y : V), ts[j]? = some t → xs[j]? = some x → ys[j]? = some y → H' t = some (.tup [x, y])) → Q (.ref p) H'
theorem pe_listZip {e e2 : Expr} {ta : TA} {p p2 cpos pos : Pos} (hc : X.calm = true) (hg : Gl X "list") (hm : X.mg "list" = none) (hg2 : Gl X "zip") (hm2 : X.mg "zip" = none) (ha : PA X [e, e2] ta)
    (hv : bootBuiltins "list" = some (.type "list")) (hs2 : starEach [e, e2] X.env = (false, eval e X.env) :: starEach [e2] X.env := by rfl) (hpl : (backTo cpos (starEach [e2] X.env)).any (·.1) = false := by rfl)
    (hs : starEach [.Call (.Name "zip" p2) [e, e2] [] cpos] X.env = (false, eval (.Call (.Name "zip" p2) [e, e2] [] cpos) X.env) :: starEach [] X.env := by rfl) :
    PE X (.Call (.Name "list" p) [.Call (.Name "zip" p2) [e, e2] [] cpos] [] pos) (tListZip X.K ta) := by
  refine ⟨fun pins s σ H Q I hq => ?_⟩
  refine wpAny_Call_Name_kw (ld_blt I hg hm hv ?_)
  refine PyProof.Rows.callWith_type1 ?_ hs rfl
  rw [hs]
  show wpAny _ _ (spliced ((false, eval (.Call (.Name "zip" p2) [e, e2] [] cpos) X.env) :: backTo pos (starEach [] X.env))) _ _ s
  refine Calls.spliced_cons ?_
  refine Call_ (ld_blt I hg2 hm2 PyProof.Rows.boot_zip (PyProof.Rows.callWith_type1 (thn (ha.run cpos pins s σ H _ I hq) fun us s1 ⟨vs, H1, I1, r1, q1⟩ => ?_) hs2 hpl))
  obtain ⟨a, b, xs, ys, ex, hqx, hqy, q⟩ := q1
  subst ex
  cases r1 with
  | cons r rr =>
    cases rr with
    | cons r' rr =>
      cases rr
      cases r
      cases r'
      obtain ⟨its, rv, p1, z1⟩ := I1.list hqx
      obtain ⟨its2, rv2, p2', z2⟩ := I1.list hqy
      have la : a < s1.heap.objs.size := p1.lt
      have lb : b < s1.heap.objs.size := p2'.lt
      refine call_zip_2 p1.isList p2'.isList fun h' hz hTI hTO h1 h2 hsz hk => ?_
      refine Calls.spliced_nil ?_
      have I2 : Inv X pins σ H1 { s1 with heap := h' } := I1.kept (t' := s1.toks) hk
      have lx := rv.length
      have ly := rv2.length
      refine z_call (s := { s1 with heap := h' }) (h₀ := s1.heap) (I1.ok.hd hc) (p1.isList.at fun o e => hk _ o e) (p2'.isList.at fun o e => hk _ o e) (by show _ = h'.objs.size; rw [hsz]) la lb hz hTI hTO h1 h2 hk (min xs.length ys.length) (by rw [List.size_toArray, List.size_toArray, lx, ly]) (Nat.le_trans (Nat.min_le_left _ _) z1)
        fun h3 tk acc c as g1 g2 g3 g4 g5 => ?_
      obtain ⟨H', k1, k2, k3, k4, J⟩ := pairs_laid (tk := tk) I1 (Nat.le_add_right _ 5) rv rv2 (by rw [g3]; exact Nat.le_trans (Nat.min_le_left _ _) z1) g3 g1 g2 g4 g5
      exact ⟨.ref _, H', J, rfl, q H' _ as k1 k2 k3 g3 k4⟩
end
end TF

namespace TF
open PySem PySem.Spec PyProof.Rows L2
section
variable {P : Program} {w : World} {K : PySem.W.Frag} {mg : Str → Option Value} {base : Heap}
theorem GOk.of {k : Nat} {f : Addr} {fd : FuncData} {ps : List Str} {sp : Sp} (F : FnOk P w K mg base CX0 k f fd ps sp) : GOk P w K mg base k f fd ps sp :=
  ⟨F.len, fun A outer s H args us vs Q E hr _ e0 hb r h => F.run A outer s H args us vs Q E hr e0 hb r h⟩
/-- THE RULE for such a def: its body, where no repr is running -/
theorem gok {x qual : Str} {st : Stmt} {f : Addr} {fd : FuncData} {N ps : List Str} {k : Nat} {sp : Sp} (F : Fun K x qual st f fd) (S : FnScope N ps (defScope st))
    (len : ∀ vs H Q E, sp vs H Q E → vs.length = ps.length)
    (hbody : ∀ (cdv : Value) (A : Around) (outer : List Env) (s : Shared) (H : Hp) (vs : List V) (Q : VK) (E : XK),
      Room k (A.deeper (envOfC qual (defScope st) s.heap.objs.size f cdv)) → A.guards = some [] → sp vs H Q E →
      ∃ t, PSs (cxOf CX0 P w K mg base N qual (defScope st) f cdv A outer s H E).nox (defBody st) t ∧ t { nx := fun _ H' => Q .non H', rt := Q } (start N vs) H) :
    GOk P w K mg base (k + 1) f fd ps sp := by
  obtain ⟨oc, od, kV, doc, pm, an, cdv, ct, osl, rfl, lk, hcd⟩ := F.ex
  refine ⟨len, fun A outer s H args us vs Q E hr hg e0 hb r hsp => ?_⟩
  have hl := len _ _ _ _ hsp
  have KX : K.In s.heap := e0.mod.kin.keeps fun b o e => (e0.bs b o e).1
  have lim : s.heap.NoLimit := e0.mod.nolimit.keeps fun b o e => (e0.bs b o e).1
  have kinds : ∀ y ∈ ps.zip us, (defScope st).names.lookup y.1 = some .local ∨
      ((defScope st).names.lookup y.1 = some .cell ∧ ((cellsFrom (s.heap.objs.size + 1) (defScope st).names []).lookup y.1).isSome = true) := by
    rintro ⟨n, v⟩ hy
    rcases S.par n (List.of_mem_zip hy).1 with q | q
    · exact .inl q
    · exact .inr ⟨q, PySem.W.cellsFrom_some _ _ _ (.inl q)⟩
  refine codeAny_call_function hr.depth (KX _ _ lk) rfl S.co S.gen rfl
    (PySem.W.codeRec_of KX hcd) (hb _ _ _ _ ?_)
  refine wpAny_newFunctionEnv_cells S.kind kinds fun env he s1 x => ?_
  subst he
  refine ⟨lim.keeps x.toInCall.keep, codeAny_func ?_⟩
  obtain ⟨t, ht, hq⟩ := hbody cdv A outer s H vs Q E (hr.deeper _) hg hsp
  have I := inv_start (CX := CX0) (E := E) S hr.hd e0 hl r x
  refine wpAny_mono (ht.nox.run [] s1 (start N vs) H _ I hq) (fun fl s' hs => ?_)
    fun e s' hs => hs
  have done : ∀ {σ' : L2.St} {H' : Hp} {v : V} {u : Value}, Inv (cxOf CX0 P w K mg base N qual (defScope st) f cdv A outer s H E) [] σ' H' s' →
      RelV v u → Q v H' → CE outer P w H s Q u s' := by
    intro σ' H' v u J rv q
    exact ⟨v, H', J.os, J.bare, J.base, J.hok, rv, q⟩
  cases fl with
  | ret u => obtain ⟨v, σ', H', J, rv, q⟩ := hs; exact done J rv q
  | next => obtain ⟨σ', H', J, q⟩ := hs; exact done (v := V.non) (u := Value.none) J rfl q
  | brk => obtain ⟨_, _, _, q⟩ := hs; exact q.elim
  | cont => obtain ⟨_, _, _, q⟩ := hs; exact q.elim
end
section
variable {X : Cx} {pins : List (Addr × Obj)} {σ : L2.St} {H : Hp} {s : Shared} {k : Nat} {f : Addr} {fd : FuncData} {ps : List Str} {sp : Sp} {ds : List Value} {dvs : List V} {x : Str} {p pos : Pos} {e : Expr} {es : List Expr} {t : TA} {E : XK}
/-- f(e, ..), f such a def -/
theorem pe_callG (F : GOk X.prog X.w X.K X.mg X.base k f fd ps sp) (hG : X.A.guards = some []) (hr : Room k X.A) (hg : Gl X x) (hm : X.mg x = some (.ref f))
    (hk : PySem.W.keepIn X.K (.ref f) = true) (hb : Binds X.K fd ps ds) (hd : Vals dvs ds) (hx : Passes CX0 X E) (ha : PA X (e :: es) t)
    (hdb : (x == ("__debug__" : Str)) = false := by decide) (he : starEach (e :: es) X.env = (false, eval e X.env) :: starEach es X.env := by rfl)
    (hpl : (backTo pos (starEach es X.env)).any (·.1) = false := by rfl) : PE X (.Call (.Name x p) (e :: es) [] pos) (tCall sp dvs E t) := by
  constructor
  intro pins s σ H Q I h
  refine wpAny_Call_Name_kw (ld_glob I hg hm ?_ hdb)
  refine PySem.W.callWith_K (h₀ := X.base) I.ok.mod.kin hk (thn (ha.run pos pins s σ H _ I h) fun us s1 hh => ?_) he hpl
  obtain ⟨vs, H1, I1, r, q⟩ := hh
  refine ⟨I1.kIn, ?_⟩
  have r2 : Vals (vs ++ dvs) (us ++ ds) := r.append hd
  have hl : (us ++ ds).length = ps.length := by
    rw [← r2.length]
    exact F.size _ _ _ _ q
  refine wpAny_call (codeAny_mono (F.runs X.A X.stack s1 H1 ⟨us, []⟩ (us ++ ds) (vs ++ dvs) Q E hr hG I1.env0 (hb s1 us I1.kIn hl) r2 q) fun r s' hq => ?_)
  cases r with
  | error e => exact hx pins σ H1 s1 e s' I1 hq
  | ok fl =>
    cases fl with
    | ret u => exact I1.after hq
    | next => exact hq.elim
    | brk => exact hq.elim
    | cont => exact hq.elim
/-- xs + ys, either a list to be read -/
def rCatS (K : PySem.W.Frag) : R2 := fun x y H Q => ∃ (l b : Addr) (xs zs : List V), x = .ref l ∧ y = .ref b ∧ SqL K H l xs ∧ SqL K H b zs ∧ xs.length + zs.length ≤ sizeLine ∧ ∀ p, H p = none → Q (.ref p) (upd H p (.lst (xs ++ zs)))
theorem op_catS : OpR X (binaryOp .Add) (rCatS X.K) := by
  intro pins s σ H x y v u Q I rx ry h
  obtain ⟨l, b, xs, zs, rfl, rfl, hH, hB, hz, q⟩ := h
  cases rx
  cases ry
  obtain ⟨its, r, p1, _⟩ := I.list hH
  obtain ⟨its2, r2, p2, _⟩ := I.list hB
  have n1 := r.length
  have n2 := r2.length
  obtain ⟨⟨c1, g1, w1, k1⟩, e1, z1, m1, y1⟩ := p1.isList
  obtain ⟨⟨c2, g2, w2, k2⟩, e2, z2, m2, y2⟩ := p2.isList
  simp only at z1 y1 z2 y2
  subst z1 y1 z2 y2
  have za : its.toArray.size + its2.toArray.size ≤ sizeLine := by
    rw [List.size_toArray, List.size_toArray]
    omega
  refine concat_meets ⟨_, e1, rfl⟩ ⟨_, e2, rfl⟩ noFill_list_add seq_list_add PySem.F.slot_list_add PySem.F.entry_list_add (PySem.F.args_list_add_2 _ _)
    (list_addW l b its.toArray its2.toArray m1 m2 g1 g2 k1 k2 za) ⟨e1, e2, ?_⟩
  rw [show its.toArray ++ its2.toArray = (its ++ its2).toArray by simp]
  exact ⟨.ref _, _, I.lnew (t' := s.toks) (r.append r2) (by rw [List.length_append]; omega), rfl, q _ I.fresh⟩
/-! ### the end of a law whose def is such a one -/
theorem law_callG {P : Program} {w : World} {K : PySem.W.Frag} {mg mb : Str → Option Value} {k : Nat} {fa a : Addr} {fd : FuncData} {x : Str} {sp : Sp} {s₁ : Shared} {vs : List Value} {ns : List Int}
    (KX : K.In s₁.heap) (hns : s₁.heap.Ns mainGlobals mg) (hb : s₁.heap.Ns builtinsNs mb) (hbb : ∀ x : Str, x ≠ "__name__" → mb x = bootBuiltins x)
    (hlim : s₁.heap.NoLimit) (hg : s₁.gens = #[]) (ha : s₁.heap.get? a = some { cls := .type "list", data := .seq vs.toArray })
    (hi : IntsAre vs ns) (hl : ns.length ≤ sizeLine) (hr : Room k callerA)
    (F : ∀ base : Heap, K.In base → base.Ns mainGlobals mg → GOk P w K mg base k fa fd [x] sp)
    (hbind : ∀ (s : Shared) (u : Value), BindsTo s fd ⟨[u], []⟩ [(x, u)])
    (hsp : ∀ H : Hp, Only H → SqL K H a (ns.map V.int) → sp [.ref a] H (fun v _ => v = .bl true) fun _ _ _ => False) :
    codeAny (model P w) callerA (.call (.ref fa) ⟨[.ref a], []⟩)
      (fun r s' => r = .ok (.ret (.bool true)) ∧ OldK s₁.heap s'.heap ∧ s'.os = s₁.os ∧ AllBare s'.gens) s₁ := by
  have big : ∀ H : Hp, Only H → SqL K H a (ns.map V.int) → HOk P w H s₁.heap → (∀ b, H b ≠ none → b = a) → (H a ≠ none → K.lookup a = none) →
      codeAny (model P w) callerA (.call (.ref fa) ⟨[.ref a], []⟩)
        (fun r s' => r = .ok (.ret (.bool true)) ∧ OldK s₁.heap s'.heap ∧ s'.os = s₁.os ∧ AllBare s'.gens) s₁ := by
    intro H hO hS hok hA hK
    have low : ∀ {b : Addr} {o : Obj}, s₁.heap.get? b = some o → H b = none → (hidT s₁.heap H).get? b = some o := hidT_get
    have noD : ∀ {b : Addr} {o : Obj} {es : Array DictEntry} {ep : Nat}, s₁.heap.get? b = some o → o.data = .dict es ep → H b = none := by
      intro b o es ep e d
      cases q : H b with
      | none => rfl
      | some u =>
        have eb : b = a := hA b (by rw [q]; simp)
        rw [eb, ha] at e
        cases e
        exact absurd (show Data.seq vs.toArray _ = Data.dict es ep from d) (by simp)
    have nsK : ∀ {b : Addr} {m : Str → Option Value}, s₁.heap.Ns b m → (hidT s₁.heap H).Ns b m := by
      rintro b m ⟨o, es, ep, e, d, r⟩
      exact ⟨o, es, ep, low e (noD e d), d, r⟩
    have hKb : K.In (hidT s₁.heap H) := by
      intro b o e
      refine low (KX b o e) ?_
      cases q : H b with
      | none => rfl
      | some u =>
        have eb : b = a := hA b (by rw [q]; simp)
        rw [eb, hK (by rw [← eb, q]; simp)] at e
        cases e
    have hM : Mod K mg (hidT s₁.heap H) := ⟨hKb, nsK hns, ⟨mb, nsK hb, hbb⟩, hlim.elim fun mc h => ⟨mc, nsK h.1, h.2⟩⟩
    have e0 : Env0 P w K mg (hidT s₁.heap H) callerA [] s₁ H := by
      refine ⟨rfl, hM, fun b o e => of_hidT e, Nat.le_of_eq (hidT_size _ _), trivial, fun b hb => ?_, hok, .of_eq hg⟩
      exact absurd (show b ∈ ([] : List Addr) from hb) (by simp)
    refine codeAny_mono ((F _ hKb (nsK hns)).runs callerA [] s₁ H ⟨[.ref a], []⟩ [.ref a] [.ref a] _ _ hr rfl e0 (hbind s₁ (.ref a)) (.cons rfl .nil) (hsp H hO hS)) fun r s' h => ?_
    cases r with
    | error e => exact (show False from h).elim
    | ok fl =>
      cases fl with
      | next => exact h.elim
      | brk => exact h.elim
      | cont => exact h.elim
      | ret u =>
        obtain ⟨v, H', os, bare, un, hok', r', q⟩ := h
        have ev : v = .bl true := q
        subst ev
        obtain rfl : u = Value.bool true := r'
        refine ⟨rfl, OldK.of_keep fun b o e => ?_, os, bare⟩
        cases qb : H b with
        | none => exact un.keep b o e qb (fun z => absurd (show b ∈ ([] : List Addr) from z) (by simp)) (by simp)
        | some u =>
          rcases hO b with z | ⟨ob, xs, z⟩
          · rw [qb] at z
            cases z
          · obtain ⟨e1, _⟩ := hok b _ z
            obtain ⟨e2, _⟩ := hok' b _ (un.frzs b ob _ z)
            rw [e] at e1
            cases e1
            exact e2
  have rv := vals_ints hi
  have lenV := hi.length
  cases hk : K.lookup a with
  | some o =>
    have e := KX a o hk
    rw [ha] at e
    cases e
    refine big (fun _ => none) (fun _ => .inl rfl) (.inr ⟨_, vs.toArray, _, hk, rfl, rfl, rfl, by rw [List.size_toArray, lenV]; exact hl, by simpa using rv⟩) ?_ (fun b z => absurd rfl z) fun z => absurd rfl z
    intro b u z
    exact absurd (show (none : Option HO) = some u from z) (by simp)
  | none =>
    refine big (fun b => if b = a then some (.frz { cls := .type "list", data := .seq vs.toArray } (.lst (ns.map V.int))) else none) (fun b => ?_)
      (.inl (.inr ⟨{ cls := .type "list", data := .seq vs.toArray }, if_pos rfl⟩)) (fun b u z => ?_) (fun b z => ?_) fun _ => hk
    · by_cases hb : b = a
      · exact .inr ⟨_, _, if_pos hb⟩
      · exact .inl (if_neg hb)
    · by_cases hb : b = a
      · have z' := (if_pos hb).symm.trans z
        cases z'
        subst hb
        exact ⟨ha, by rw [List.length_map]; exact hl, vs, _, rv, ha⟩
      · have z' := (if_neg hb).symm.trans z
        cases z'
    · by_cases hb : b = a
      · exact hb
      · exact absurd (if_neg hb) z
theorem walk_ofG {l : PySem.W.OpenLaw} {n k : Nat} {q : Program} {loose : List Str} {XP : (Str → Option Value) → Heap → Prop} {YP : World → Heap → Prop} {d : DefRec} {K : Params → PySem.W.Frag} {sp : World → Sp} {x : Str}
    (hn : l.most = some n) (hn2 : n ≤ sizeLine) (hdf : d.params.defaults = []) (hr : Room k callerA)
    (hY : ∀ (w : World) (h : Heap), YP w h → (K w.params).In h)
    (F : ∀ (w : World) (mg : Str → Option Value) (fa : Addr) (h : Heap), (K w.params).In h → h.Ns mainGlobals mg → mg d.name = some (.ref fa) →
      ∃ fd : FuncData, (∀ (s : Shared) (u : Value), BindsTo s fd ⟨[u], []⟩ [(x, u)]) ∧
        ∀ base : Heap, (K w.params).In base → base.Ns mainGlobals mg → GOk l.prog w (K w.params) mg base k fa fd [x] (sp w))
    (hsp : ∀ (w : World) (H : Hp) (a : Addr) (ns : List Int), ns.length ≤ n → Only H → SqL (K w.params) H a (ns.map V.int) → sp w [.ref a] H (fun v _ => v = .bl true) fun _ _ _ => False) :
    PySem.W.WalkO q loose XP YP l.row.toRowW d [] (fun f vs => PySem.call f vs) := by
  refine Att.attach_call hn hdf fun w s₀ s₁ mg mb fa o pm cd doc a vs ns G Y ho hd hcd hmg hobj hints hlen hg => ?_
  have KX := hY w _ Y
  obtain ⟨fd, hb, hF⟩ := F w mg fa _ KX G.T.g hmg
  exact law_callG KX G.T.g G.T.b G.T.builtins G.T.nolimit hg hobj hints (Nat.le_trans hlen hn2) hr hF hb fun H hO hS => hsp w H a ns hlen hO hS
end
end TF

namespace TF
open PySem PySem.Spec PyProof.Rows L2 TM
section
variable {X : Cx} {pins : List (Addr × Obj)} {σ : L2.St} {H : Hp} {s : Shared} {k : Nat} {f : Addr} {fd : FuncData} {ps ks : List Str} {sp : Sp} {x : Str} {p pos : Pos} {E : XK}
theorem ip_of {op : Operator} {r : R2} (h : OpR X (inplaceOp op) r) : PIp X op r := fun pins s σ H x y v u Q I r1 r2 q => h pins s σ H x y v u Q I r1 r2 q
theorem iop_mulW : OpR X (inplaceOp .Mult) (rI CMulW fun i j => .int (i * j)) := opI fun _ _ _ _ _ _ _ hc q => imul_int q hc.ok
/-- how keywords alone bind -/
structure KB0 (K : PySem.W.Frag) (fd : FuncData) (ps ks : List Str) (g : {α : Type} → List α → List α) : Prop where
  to : ∀ (s : Shared) (ws : List Value), K.In s.heap → ws.length = ks.length → BindsTo s fd ⟨[], ks.zip ws⟩ (ps.zip (g ws))
  rel : ∀ {zs : List V} {ws : List Value}, Vals zs ws → Vals (g zs) (g ws)
def tCallW (sp : Sp) (n : Nat) (g : {α : Type} → List α → List α) (E : XK) (tk : TA) : TE := fun σ H Q => tk σ H fun zs H2 => zs.length = n ∧ sp (g zs) H2 Q E
/-- f(k = v, ..) by keywords alone -/
theorem pe_callK0 {g : {α : Type} → List α → List α} {kws : List Keyword} {tk : TA} (F : FnOk X.prog X.w X.K X.mg X.base CX0 k f fd ps sp) (hr : Room k X.A) (hg : Gl X x)
    (hm : X.mg x = some (.ref f)) (hk : PySem.W.keepIn X.K (.ref f) = true) (hb : KB0 X.K fd ps ks g) (hx : Passes CX0 X E) (hkw : PK X kws tk)
    (hall : (backToKw pos (keywordEach kws X.env)).all (·.1.isSome) = true := by rfl) (hks : (backToKw pos (keywordEach kws X.env)).filterMap (·.1) = ks := by rfl)
    (hdb : (x == ("__debug__" : Str)) = false := by decide)
    (hpl : ((backTo pos (starEach [] X.env)).any (·.1) || (backToKw pos (keywordEach kws X.env)).any (·.1.isNone)) = false := by rfl) :
    PE X (.Call (.Name x p) [] kws pos) (tCallW sp ks.length g E tk) := by
  constructor
  intro pins s σ H Q I h
  refine wpAny_Call_Name_kw (ld_glob I hg hm ?_ hdb)
  refine PySem.W.callWith_KW0 (h₀ := X.base) I.ok.mod.kin hk hall ?_ hpl
  refine thn (hkw.run pos pins s σ H _ I h) fun ws s2 hh => ?_
  obtain ⟨zs, H2, I2, rz, l0, q2⟩ := hh
  refine ⟨I2.kIn, ?_⟩
  rw [hks]
  have r2 := hb.rel rz
  have hl : ws.length = ks.length := by rw [← rz.length, l0]
  refine wpAny_call (codeAny_mono (F.run X.A X.stack s2 H2 ⟨[], ks.zip ws⟩ (g ws) (g zs) Q E hr I2.env0 (hb.to s2 ws I2.kIn hl) r2 q2) fun r s' hq => ?_)
  cases r with
  | error e => exact hx pins σ H2 s2 e s' I2 hq
  | ok fl =>
    cases fl with
    | ret u => exact I2.after hq
    | next => exact hq.elim
    | brk => exact hq.elim
    | cont => exact hq.elim
theorem kb_mk {K : PySem.W.Frag} {x qual : Str} {st : Stmt} {f : Addr} {fd : FuncData} {ps : List Str} (F : Fun K x qual st f fd)
    (h : ∀ (kV doc pm : Value) (an : Option Addr) (cdv ct : Value) (us : List Value), us.length = ps.length → bindArgs (PySem.W.fnOf x qual (defArgs st) (defBody st) (defScope st) .none kV doc pm an cdv ct) ⟨[], ps.zip us⟩ = pure (ps.zip us)) :
    KB0 K fd ps ps (fun l => l) := by
  obtain ⟨oc, od, kV, doc, pm, an, cdv, ct, osl, rfl, lk, hcd⟩ := F.ex
  exact ⟨fun s ws _ hl => .of_eq (h kV doc pm an cdv ct ws hl), fun r => r⟩
end
/-! ### values and short facts -/
def vn (n : Nat) : V := .int (n : Int)
theorem fmod_nat (n r : Nat) : (n : Int).fmod (r : Int) = ((n % r : Nat) : Int) := by
  rw [Int.fmod_eq_emod_of_nonneg _ (by omega)]; rfl
theorem div_nat (n r : Nat) : (n : Int) / (r : Int) = ((n / r : Nat) : Int) := rfl
theorem inV_two (l : List Nat) : inV (.int 2) (l.map vn) = decide (2 ∈ l) := by
  induction l with
  | nil => rfl
  | cons a l ih =>
    show (eqV (vn a) (.int 2) || inV (.int 2) (l.map vn)) = _
    rw [ih]
    show ((a : Int) == 2 || _) = _
    by_cases h : a = 2
    · subst h; simp
    · have h1 : ((a : Int) == 2) = false := by
        simp only [beq_eq_false_iff_ne]; omega
      have h2 : ¬ 2 = a := fun e => h e.symm
      simp [h1, h2]
theorem flat_vn (l : List Nat) : (l.map vn).all flatV = true := by
  rw [List.all_eq_true]
  intro x hx
  obtain ⟨a, _, rfl⟩ := List.mem_map.mp hx
  rfl
theorem small_ok {n b : Nat} (h : n ≤ b) (hb : b ≤ 1000000 := by decide) : n ≤ sizeLine := Nat.le_trans (Nat.le_trans h hb) (by decide)
theorem small_lt {n b : Nat} (h : n ≤ b) (hb : b ≤ 1000000 := by decide) : n < sizeLine := Nat.lt_of_le_of_lt (Nat.le_trans h hb) (by decide)
theorem same_new {H : Hp} {p : Addr} {o : HO} (h : H p = none) : Same H (upd H p o) := fun b x e => by
  rw [upd_ne (ne_of_none e h)]
  exact e
theorem Same.mut {H H' : Hp} {p : Addr} {o : HO} (e : Same H H') (h : H p = none) : Same H (upd H' p o) := fun a u ha => by
  rw [upd_ne (ne_of_none ha h)]
  exact e a u ha
end TF

namespace TF
open PySem PySem.Spec PyProof.Rows L2 TM
theorem Vals.rev : ∀ {zs : List V} {ws : List Value}, Vals zs ws → Vals zs.reverse ws.reverse
  | _, _, .nil => .nil
  | _, _, .cons a r => by
    rw [List.reverse_cons, List.reverse_cons]
    exact (Vals.rev r).append (.cons a .nil)
theorem room65 {k : Nat} {A : Around} (hr : Room k A) : A.units + 65 < cLine := by
  have := hr.un
  omega
theorem ne_no {a b : V} (h : a = b) : (!decide (a = b)) = true → False := by simp [h]
theorem two_no {n : Nat} (h : TM.plain n) : inV (.int 2) ((digs 3 n).map vn) = true → False := by
  rw [inV_two]
  exact fun c => h (of_decide_eq_true c)
theorem op_inK {X : Cx} (K : PySem.W.Frag) (h : X.K = K := by rfl) : OpR X (compareOp .In) (rIn K false) := by
  subst h
  exact op_in_seq
theorem op_notInK {X : Cx} (K : PySem.W.Frag) (h : X.K = K := by rfl) : OpR X (compareOp .NotIn) (rIn K true) := by
  subst h
  exact op_notIn_seq
/-- two parameters, given by name the other way round -/
theorem kb_mk2 {K : PySem.W.Frag} {x qual : Str} {st : Stmt} {f : Addr} {fd : FuncData} {p q : Str} (F : Fun K x qual st f fd)
    (h : ∀ (kV doc pm : Value) (an : Option Addr) (cdv ct : Value) (u v : Value), bindArgs (PySem.W.fnOf x qual (defArgs st) (defBody st) (defScope st) .none kV doc pm an cdv ct) ⟨[], [(q, v), (p, u)]⟩ = pure [(p, u), (q, v)]) :
    KB0 K fd [p, q] [q, p] (fun l => l.reverse) := by
  obtain ⟨oc, od, kV, doc, pm, an, cdv, ct, osl, rfl, lk, hcd⟩ := F.ex
  refine ⟨fun s ws _ hl => ?_, fun {zs ws} r => ?_⟩
  · match ws, hl with
    | [v, u], _ => exact .of_eq (h kV doc pm an cdv ct u v)
  · exact Vals.rev r
/-! ### data: ints, pairs of ints, lists of these -/
def prI (a b : Int) : PyData := .tuple [.int a, .int b]
section
variable {K : PySem.W.Frag} {H : Hp}
theorem dpAll_of : ∀ (vs : List V) (ds : List PyData), vs.length = ds.length → (∀ (j : Nat) (v : V) (d : PyData), vs[j]? = some v → ds[j]? = some d → Dp K H v d) → DpAll K H vs ds
  | [], [], _, _ => .nil
  | [], _ :: _, h, _ => by cases h
  | _ :: _, [], h, _ => by cases h
  | v :: vs, d :: ds, hl, h => .cons (h 0 v d rfl rfl) (dpAll_of vs ds (Nat.succ.inj hl) fun j v' d' e1 e2 => h (j + 1) v' d' e1 e2)
theorem dp_pair {t : Addr} {a b : Int} (h : SqT K H t [.int a, .int b]) : Dp K H (.ref t) (prI a b) := .tup h (.cons (.int a) (.cons (.int b) .nil))
theorem dp_ints {p : Addr} {l : List Int} (h : SqL K H p (l.map V.int)) : Dp K H (.ref p) (.list (l.map PyData.int)) := by
  refine .lst h (dpAll_of _ _ (by simp) fun j v d e1 e2 => ?_)
  rw [List.getElem?_map] at e1 e2
  cases hx : l[j]? with
  | none => rw [hx] at e1; cases e1
  | some x =>
    rw [hx] at e1 e2
    cases e1
    cases e2
    exact .int x
end
theorem prI_lay (a b : Int) : (prI a b).canLay0 = true := by simp [prI, PyData.canLay0, PyData.canLayAll0]
theorem prI_depth (a b : Int) : (prI a b).depth = 1 := by simp [prI, PyData.depth, PyData.depthAll]
theorem prI_nodict (a b : Int) : (prI a b).hasDict = false := by simp [prI, PyData.hasDict, PyData.hasDictAll]
theorem shaped_of {d : PyData} (h1 : d.canLay0 = true) (h2 : d.depth ≤ 64) : SeqAt.shaped d = true := by
  show (d.canLay0 && decide (d.depth ≤ 64)) = true
  rw [h1, decide_eq_true h2]
  rfl
theorem prI_shaped (a b : Int) : SeqAt.shaped (prI a b) = true := shaped_of (prI_lay a b) (by rw [prI_depth]; decide)
theorem prs_lay : ∀ l : List (Int × Int), PyData.canLayAll0 (l.map fun p => prI p.1 p.2) = true
  | [] => by simp [PyData.canLayAll0]
  | z :: l => by simp [PyData.canLayAll0, prI_lay z.1 z.2, prs_lay l]
theorem prs_depth : ∀ l : List (Int × Int), PyData.depthAll (l.map fun p => prI p.1 p.2) ≤ 1
  | [] => by simp [PyData.depthAll]
  | z :: l => by
    have h1 := prs_depth l
    have h2 := prI_depth z.1 z.2
    simp only [List.map_cons, PyData.depthAll]
    omega
theorem prs_shaped (l : List (Int × Int)) : SeqAt.shaped (.list (l.map fun p => prI p.1 p.2)) = true := by
  have h := prs_depth l
  refine shaped_of (by simp only [PyData.canLay0]; exact prs_lay l) ?_
  simp only [PyData.depth]
  omega
theorem prI_eqv (a b c d : Int) : PyData.eqv (prI a b) (prI c d) = decide (a = c ∧ b = d) := by
  have e : PyData.eqv (prI a b) (prI c d) = ((a == c) && ((b == d) && true)) := by simp only [prI, PyData.eqv, PyData.eqvAll]
  rw [e]
  by_cases h1 : a = c <;> by_cases h2 : b = d <;> simp [h1, h2]
theorem ints_lay : ∀ l : List Int, PyData.canLayAll0 (l.map PyData.int) = true
  | [] => by simp [PyData.canLayAll0]
  | z :: l => by simp [PyData.canLayAll0, PyData.canLay0, ints_lay l]
theorem ints_depth : ∀ l : List Int, PyData.depthAll (l.map PyData.int) = 0
  | [] => by simp [PyData.depthAll]
  | z :: l => by simp [PyData.depthAll, PyData.depth, ints_depth l]
theorem ints_shaped (l : List Int) : SeqAt.shaped (.list (l.map PyData.int)) = true :=
  shaped_of (by simp only [PyData.canLay0]; exact ints_lay l) (by simp only [PyData.depth, ints_depth]; omega)
/-! ### how long what repr shows is -/
theorem textFrom_le (B : Nat) : ∀ (ts : List Str) (k : Nat) (acc : Str), (∀ t ∈ ts, t.length ≤ B) → (textFrom k acc ts).length ≤ acc.length + ts.length * (B + 2)
  | [], k, acc, _ => by
    show acc.length ≤ _
    omega
  | t :: r, k, acc, h => by
    have ih := textFrom_le B r (k + 1) (acc ++ (if k > 0 then ", " else "" : String) ++ t) fun t' ht => h t' (List.mem_cons_of_mem _ ht)
    have e : (acc ++ (if k > 0 then ", " else "" : String) ++ t).length = acc.length + (if k > 0 then 2 else 0) + t.length := by
      rw [strLen_append, strLen_append]
      split <;> rfl
    have ht := h t List.mem_cons_self
    show (textFrom (k + 1) (acc ++ (if k > 0 then ", " else "" : String) ++ t) r).length ≤ _
    have h2 : (if k > 0 then 2 else 0 : Nat) ≤ 2 := by split <;> omega
    rw [List.length_cons, Nat.succ_mul]
    omega
theorem listText_le {B : Nat} {ts : List Str} (h : ∀ t ∈ ts, t.length ≤ B) : (listText ts).length ≤ 2 + ts.length * (B + 2) := by
  have e := textFrom_le B ts 0 "[" h
  unfold listText
  rw [strLen_append]
  have e1 : ((("[" : String) : Str)).length = 1 := rfl
  have e2 : ((("]" : String) : Str)).length = 1 := rfl
  omega
theorem piled_le {B : Nat} : ∀ {ts : List Str}, (∀ t ∈ ts, t.length ≤ B) → piled ts ≤ ts.length * (B + 2)
  | [], _ => by simp [piled]
  | t :: r, h => by
    have ih := piled_le (B := B) (ts := r) fun t' ht => h t' (List.mem_cons_of_mem _ ht)
    have ht := h t List.mem_cons_self
    simp only [piled] at ih ⊢
    rw [List.map_cons, List.sum_cons, List.length_cons, Nat.succ_mul]
    omega
theorem tupleText_le {B : Nat} {ts : List Str} (h0 : ts ≠ []) (h : ∀ t ∈ ts, t.length ≤ B) : (tupleText ts).length ≤ 4 + ts.length * (B + 2) := by
  have e := piled_le h
  have j := join_length_add ts h0
  unfold tupleText
  rw [strLen_append, strLen_append]
  have e1 : ((("(" : String) : Str)).length = 1 := rfl
  have e2 : (((if ts.length == 1 then ",)" else ")" : String) : Str)).length ≤ 2 := by split <;> decide
  omega
theorem shownAll_map : ∀ l : List PyData, PyData.shownAll l = l.map PyData.shown
  | [] => by simp [PyData.shownAll]
  | x :: l => by simp [PyData.shownAll, shownAll_map l]
theorem shown_int {i : Int} (h : i.natAbs.log2 < 1920) : (PyData.int i).shown.length ≤ 1921 := by
  simp only [PyData.shown]
  exact int_text_len_1921 h
theorem shown_list {B : Nat} {l : List PyData} (h : ∀ d ∈ l, d.shown.length ≤ B) : (PyData.list l).shown.length ≤ 2 + l.length * (B + 2) := by
  simp only [PyData.shown]
  rw [shownAll_map]
  have := listText_le (B := B) (ts := l.map PyData.shown) fun t ht => by
    obtain ⟨d, hd, rfl⟩ := List.mem_map.mp ht
    exact h d hd
  rw [List.length_map] at this
  exact this
theorem shown_prI {a b : Int} (ha : a.natAbs.log2 < 1920) (hb : b.natAbs.log2 < 1920) : (prI a b).shown.length ≤ 4000 := by
  show (tupleText (PyData.shownAll [.int a, .int b])).length ≤ 4000
  rw [shownAll_map]
  have := tupleText_le (B := 1921) (ts := [PyData.int a, PyData.int b].map PyData.shown) (by simp) fun t ht => by
    obtain ⟨d, hd, rfl⟩ := List.mem_map.mp ht
    simp only [List.mem_cons, List.not_mem_nil, or_false] at hd
    rcases hd with rfl | rfl
    · exact shown_int ha
    · exact shown_int hb
  exact Nat.le_trans this (by show 4 + 2 * (1921 + 2) ≤ 4000; decide)
theorem prI_show {a b : Int} (ha : a.natAbs.log2 < 1920) (hb : b.natAbs.log2 < 1920) : (prI a b).showable = true := by
  simp [prI, PyData.showable, PyData.showableAll, ha, hb]
theorem prs_show : ∀ {l : List (Int × Int)}, (∀ p ∈ l, p.1.natAbs.log2 < 1920 ∧ p.2.natAbs.log2 < 1920) → PyData.showableAll (l.map fun p => prI p.1 p.2) = true
  | [], _ => by simp [PyData.showableAll]
  | z :: l, h => by
    have h1 := h z List.mem_cons_self
    simp only [List.map_cons, PyData.showableAll, prI_show h1.1 h1.2, prs_show fun p hp => h p (List.mem_cons_of_mem _ hp), Bool.and_self]
theorem prs_nodict : ∀ l : List (Int × Int), PyData.hasDictAll (l.map fun p => prI p.1 p.2) = false
  | [] => by simp [PyData.hasDictAll]
  | z :: l => by simp [PyData.hasDictAll, prI_nodict z.1 z.2, prs_nodict l]
/-- what repr asks of a list of pairs -/
theorem prs_repr {l : List (Int × Int)} (h : ∀ p ∈ l, p.1.natAbs.log2 < 1920 ∧ p.2.natAbs.log2 < 1920) (hl : l.length ≤ 200) :
    (PyData.list (l.map fun p => prI p.1 p.2)).showable = true ∧ (PyData.list (l.map fun p => prI p.1 p.2)).hasDict = false ∧ (PyData.list (l.map fun p => prI p.1 p.2)).depth ≤ 60 ∧
      (PyData.list (l.map fun p => prI p.1 p.2)).shown.length ≤ sizeLine := by
  refine ⟨by simp only [PyData.showable]; exact prs_show h, by simp only [PyData.hasDict]; exact prs_nodict l, by simp only [PyData.depth]; have := prs_depth l; omega, ?_⟩
  refine Nat.le_trans (shown_list (B := 4000) fun d hd => ?_) ?_
  · obtain ⟨p, hp, rfl⟩ := List.mem_map.mp hd
    exact shown_prI (h p hp).1 (h p hp).2
  · rw [List.length_map]
    refine Nat.le_trans (Nat.add_le_add_left (Nat.mul_le_mul_right _ hl) 2) (by decide)
theorem ints_show : ∀ {l : List Int}, (∀ i ∈ l, i.natAbs.log2 < 1920) → PyData.showableAll (l.map PyData.int) = true
  | [], _ => by simp [PyData.showableAll]
  | z :: l, h => by
    have h1 := h z List.mem_cons_self
    simp [PyData.showableAll, PyData.showable, h1, ints_show fun p hp => h p (List.mem_cons_of_mem _ hp)]
theorem ints_nodict : ∀ l : List Int, PyData.hasDictAll (l.map PyData.int) = false
  | [] => by simp [PyData.hasDictAll]
  | z :: l => by simp [PyData.hasDictAll, PyData.hasDict, ints_nodict l]
theorem ints_repr {l : List Int} (h : ∀ i ∈ l, i.natAbs.log2 < 1920) (hl : l.length ≤ 200) :
    (PyData.list (l.map PyData.int)).showable = true ∧ (PyData.list (l.map PyData.int)).hasDict = false ∧ (PyData.list (l.map PyData.int)).depth ≤ 60 ∧ (PyData.list (l.map PyData.int)).shown.length ≤ sizeLine := by
  refine ⟨by simp only [PyData.showable]; exact ints_show h, by simp only [PyData.hasDict]; exact ints_nodict l, by simp only [PyData.depth, ints_depth]; omega, ?_⟩
  refine Nat.le_trans (shown_list (B := 1921) fun d hd => ?_) ?_
  · obtain ⟨p, hp, rfl⟩ := List.mem_map.mp hd
    exact shown_int (h p hp)
  · rw [List.length_map]
    refine Nat.le_trans (Nat.add_le_add_left (Nat.mul_le_mul_right _ hl) 2) (by decide)
theorem log_of {n b : Nat} (h : n < 2 ^ b) (hb : 0 < b) (h2 : b ≤ 1920) : ((n : Int)).natAbs.log2 < 1920 := by
  rw [Int.natAbs_natCast]
  exact Nat.lt_of_lt_of_le (PySem.Flt.log2_lt_of hb h) h2
end TF

namespace TF
open PySem PySem.Spec PyProof.Rows L2 TM
section
variable {X : Cx}
theorem op_eqK (K : PySem.W.Frag) (hu : X.A.units + 64 < cLine) (h : X.K = K := by rfl) : OpR X (compareOp .Eq) (rEqD K) := by
  subst h
  exact op_eqD hu
theorem op_neK (K : PySem.W.Frag) (hu : X.A.units + 64 < cLine) (h : X.K = K := by rfl) : OpR X (compareOp .NotEq) (rNeD K) := by
  subst h
  exact op_neD hu
theorem sl_listK (K : PySem.W.Frag) (h : X.K = K := by rfl) : SlR X (rSlL K) := by
  subst h
  exact sl_list
theorem ix_listK (K : PySem.W.Frag) (h : X.K = K := by rfl) : IxR X (rIxL K) := by
  subst h
  exact ix_list
theorem cr_sumK (K : PySem.W.Frag) (hc : X.calm = true) (h : X.K = K := by rfl) : CallR X (.builtin "sum") (rSum K) := by
  subst h
  exact cr_sum hc
theorem cr_maxK (K : PySem.W.Frag) (hc : X.calm = true) (h : X.K = K := by rfl) : CallR X (.builtin "max") (rMax K) := by
  subst h
  exact cr_max hc
end
/-- all but what stands at p -/
def But (p : Addr) (H H' : Hp) : Prop := ∀ q o, q ≠ p → H q = some o → H' q = some o
theorem But.refl (p : Addr) (H : Hp) : But p H H := fun _ _ _ e => e
theorem But.same {p : Addr} {H H1 H2 : Hp} (a : But p H H1) (b : Same H1 H2) : But p H H2 := fun q o n e => b q o (a q o n e)
theorem Same.but {p : Addr} {H H1 : Hp} (a : Same H H1) : But p H H1 := fun q o _ e => a q o e
theorem But.upd {p : Addr} {H H1 : Hp} {o : HO} (a : But p H H1) : But p H (upd H1 p o) := fun q u n e => by
  rw [upd_ne n]
  exact a q u n e
theorem But.trans {p : Addr} {H H1 H2 : Hp} (a : But p H H1) (b : But p H1 H2) : But p H H2 := fun q o n e => b q o n (a q o n e)
theorem dp_vns {K : PySem.W.Frag} {H : Hp} {p : Addr} {l : List Nat} (h : SqL K H p (l.map vn)) : Dp K H (.ref p) (.list (l.map fun n : Nat => PyData.int (n : Int))) := by
  have := dp_ints (K := K) (H := H) (p := p) (l := l.map fun n : Nat => (n : Int)) (by rw [List.map_map]; exact h)
  rw [List.map_map] at this
  exact this
theorem ints_eqv : ∀ l : List Int, PyData.eqv (.list (l.map PyData.int)) (.list (l.map PyData.int)) = true := by
  intro l
  simp only [PyData.eqv]
  induction l with
  | nil => simp [PyData.eqvAll]
  | cons x l ih => simp [PyData.eqvAll, PyData.eqv, ih]
end TF

namespace TFZ
open PySem PySem.Spec PyProof.Rows L2
open Sem (wp)
/-- what enumerate(v) lays: the iterator of v, itself -/
def enObj (p : Addr) : Obj := { cls := .type "enumerate", data := .fields #[.none, .bool false, .ref p, rawInt 0, .none, .none] }
theorem enum_new1 {v : Value} {o : Obj} {HH : Heap → Prop} (B : Begins v o HH) :
    Meets (Builtin.«enumerate.__new__» ⟨[.type "enumerate", v], []⟩) (fun _ R s => HH s.heap ∧ R (.ok (.ret (.ref (s.heap.push o).objs.size))) { s with heap := (s.heap.push o).push (enObj s.heap.objs.size) }) := by
  refine Meets.of_wp fun prog w A R s h => ?_
  obtain ⟨hp, g, d, tk, os⟩ := s
  obtain ⟨h1, h2⟩ := h
  have hsub := sub_enumerate
  have first : ∀ {A' : Around} {E' : Value → Shared → Prop} {Q' : Value → Shared → Prop}, Q' (.ref hp.objs.size) ⟨hp.push o, g, d, tk, os⟩ → wpAny (model prog w) A' (pyIter v) Q' E' ⟨hp, g, d, tk, os⟩ := by
    intro A' E' Q' q
    exact B.iter prog w _ _ ⟨hp, g, d, tk, os⟩ _ h1 q
  wp_walk using first
  refine wpAny_stack_any fun z => wpAny_pure ?_
  split
  · rename_i cc _ _ _ _ _
    cases (cc == Value.type "enumerate") <;> (wp_walk using first) <;> exact ⟨_, rfl, h2⟩
  · wp_walk using first
    exact ⟨_, rfl, h2⟩
theorem call_enum1 {prog : Program} {w : World} {A : Around} {E : Value → Shared → Prop} {s : Shared} {v : Value} {o : Obj} {HH : Heap → Prop} {Q : Value → Shared → Prop} (B : Begins v o HH) (h1 : HH s.heap)
    (h : ∀ h', IsEnum h' (s.heap.objs.size + 1) s.heap.objs.size 0 .none → h'.get? s.heap.objs.size = some o → (∀ b u, s.heap.get? b = some u → h'.get? b = some u) → Q (.ref (s.heap.objs.size + 1)) { s with heap := h' }) :
    wpAny (model prog w) A (call (.type "enumerate") [v]) Q E s := by
  refine callType_new F.called_enumerate (by decide) (F.typeCall_enumerate_1 _) (F.newCall_enumerate_1 _) (fun x => F.args_object_init_2 x _) F.entry_enumerate_new (enum_new1 B) ⟨h1, ?_⟩
  have z : (s.heap.push o).objs.size = s.heap.objs.size + 1 := Heap.size_push ..
  have e : IsEnum ((s.heap.push o).push (enObj s.heap.objs.size)) (s.heap.objs.size + 1) s.heap.objs.size 0 .none := by
    have y := Heap.get?_push_size (s.heap.push o) (o := enObj s.heap.objs.size) rfl
    rw [z] at y
    exact y
  rw [z]
  exact ⟨⟨_, e, rfl⟩, h _ e (Heap.get?_push_of_some _ (Heap.get?_push_size _ B.free)) fun b u x => Heap.get?_push_of_some _ (Heap.get?_push_of_some _ x)⟩
end TFZ
namespace TF
open PySem PySem.Spec PyProof.Rows L2
/-! ### for i, x in enumerate(a tuple) -/
def Iet (K : PySem.W.Frag) (a : Addr) : It where
  go := fun i H => ∃ (xs : List V) (x : V), SqT K H a xs ∧ xs[i]? = some x
  yld := fun i H v H' => ∃ T x, v = .ref T ∧ H T = none ∧ H' = upd H T (.tup [.int (i : Nat), x]) ∧ ∀ xs, SqT K H a xs → xs[i]? = some x
  stop := fun i H => ∃ xs : List V, SqT K H a xs ∧ xs.length = i
/-- where it stands -/
def EnT (a e it : Addr) (i : Nat) (h : Heap) : Prop := (∃ old, IsEnum h e it ((i : Nat) : Int) old) ∧ h.IsTupleIter it a i ∧ e ≠ it ∧ a ≠ it ∧ a ≠ e
theorem two_of {b e it : Addr} (h : b ∈ [e, it]) : b = e ∨ b = it := by simpa using h
theorem turn_enumT {P : Program} {w : World} {K : PySem.W.Frag} {elts : List Expr} {kk : Nat} {tpos : Pos} (a e it : Addr) : Turn P w K (.Tuple elts kk tpos) (Iet K a) [e, it] e (EnT a e it) := by
  constructor
  case mem => simp
  case obj =>
    rintro i h ⟨⟨old, he⟩, ⟨o, ho, _, hd⟩, _⟩ b hb
    rcases two_of hb with rfl | rfl
    · exact ⟨_, he, fun v q => nomatch q⟩
    · exact ⟨o, ho, fun v q => by rw [hd] at q; cases q⟩
  case keep =>
    rintro i h h' ⟨⟨old, he⟩, hi, hn⟩ k
    exact ⟨⟨old, k e List.mem_cons_self _ he⟩, hi.at fun o q => k it (by simp) o q, hn⟩
  case item =>
    intro X hP hw hK hc i pins s σ H E I hf st hg
    subst hP hw hK
    obtain ⟨⟨old, he⟩, hit, n1, n2, n3⟩ := st
    obtain ⟨xs, x, hq, hx⟩ := hg
    obtain ⟨its, rv, p, hz⟩ := I.tuple hq
    obtain ⟨u, hu, ru⟩ := rv.get hx
    have be : e < s.heap.objs.size := Heap.lt_size he
    have bi : it < s.heap.objs.size := by
      obtain ⟨_, q, _⟩ := hit
      exact Heap.lt_size q
    have hlt : i < its.toArray.size := by
      rw [List.size_toArray]
      obtain ⟨y, _⟩ := List.getElem?_eq_some_iff.mp hu
      exact y
    have D := Draws.tuple (prog := X.prog) (w := X.w) (A := X.A.in1) (I.ok.hd hc) it a n2 its.toArray
    refine wpAny_pyNext_enum_itemD D he ⟨hit, p⟩ hlt n1 (by simp [n1, Ne.symm n3]) fun v h' tk hv ho hs hT hsz hk => ?_
    have ev : v = u := by
      rw [List.getElem?_toArray, hu] at hv
      exact (Option.some.inj hv).symm
    subst ev
    refine ⟨_, rfl, wpAny_letOwnedTupleGo_enum (s := { s with heap := h', toks := tk + 1 }) ho fun h2 he2 sb => ?_⟩
    have hT2 := (sb.2 _ (Nat.ne_of_gt be)).trans hT
    have new : ObjOk X.prog X.w (upd H s.heap.objs.size (.tup [.int (i : Nat), x])) h2 s.heap.objs.size (.tup [.int (i : Nat), x]) :=
      ⟨by show 2 ≤ sizeLine; decide, [.int i tk, v], .cons ⟨_, rfl⟩ (.cons ru .nil), ⟨_, hT2, rfl, _, rfl⟩⟩
    have kept : ∀ b ob, b ∉ [e, it] → s.heap.get? b = some ob → h2.get? b = some ob := fun b ob hb q => by
      have b1 : b ≠ e := fun z => hb (by simp [z])
      have b2 : b ≠ it := fun z => hb (by simp [z])
      exact (sb.2 b b1).trans (hk b ob b1 b2 q)
    have I1 : Inv X pins σ (upd H s.heap.objs.size (.tup [.int (i : Nat), x])) { s with heap := h2, toks := tk + 1 } := I.turnedNew (ch := [e, it]) kept hf (Nat.le_refl _) new
    have yl : (Iet X.K a).yld i H (.ref s.heap.objs.size) (upd H s.heap.objs.size (.tup [.int (i : Nat), x])) :=
      ⟨_, x, rfl, I.hok.fresh (Nat.le_refl _), rfl, fun ys hy => by rw [I.tuple_inj hy hq]; exact hx⟩
    refine ⟨.ref s.heap.objs.size, _, I1, rfl, yl, ⟨⟨v, ?_⟩, hs.1.at fun o q => (sb.2 it (Ne.symm n1)).trans q, n1, n2, n3⟩, fun b hb => ?_⟩
    · rw [show ((i + 1 : Nat) : Int) = (i : Int) + 1 by omega]
      exact he2
    · have hb' : b < s.heap.objs.size := by rcases two_of hb with rfl | rfl <;> assumption
      rw [upd_ne (Nat.ne_of_lt hb')]
      exact (hf b hb).1
  case done =>
    intro X hP hw hK hc i pins s σ H E I hf st hg
    subst hP hw hK
    obtain ⟨⟨old, he⟩, hit, n1, n2, n3⟩ := st
    obtain ⟨xs, hq, hx⟩ := hg
    obtain ⟨its, rv, p, hz⟩ := I.tuple hq
    obtain ⟨f0, f1, f2, f3, f4, f5⟩ := hf it (by simp)
    have hl : i = its.toArray.size := by
      have := rv.length
      rw [List.size_toArray]
      omega
    have D := Draws.tuple (prog := X.prog) (w := X.w) (A := X.A.in1) (I.ok.hd hc) it a n2 its.toArray
    refine wpAny_pyNext_enum_endD D he (by rw [← hl]; exact ⟨hit, p⟩) fun h' eb => ⟨rfl, ?_⟩
    exact I.turned (t' := s.toks) (fun b o hb q => eb b o hb q) f0 f1 f3 f4 f5
  case self =>
    rintro A i s Q E ⟨⟨_, he⟩, _⟩ h
    exact wpAny_pyIter_enum he h
def iEnumT (K : PySem.W.Frag) (ta : TA) : TI := fun σ H R => ta σ H fun vs H1 => ∃ a xs, vs = [.ref a] ∧ SqT K H1 a xs ∧ R (Iet K a) H1
theorem pi_enumT {X : Cx} {e : Expr} {ta : TA} {p pos tpos : Pos} {elts : List Expr} {kk : Nat} (hg : Gl X "enumerate") (hm : X.mg "enumerate" = none) (ha : PA X [e] ta) (hs : starEach [e] X.env = [(false, eval e X.env)] := by rfl) :
    PI X (.Tuple elts kk tpos) (.Call (.Name "enumerate" p) [e] [] pos) (iEnumT X.K ta) := by
  constructor
  intro pins s σ H R I h
  refine Call_ (ld_blt I hg hm boot_enumerate ?_)
  refine PyProof.Rows.callWith_type1 (thn (ha.run pos pins s σ H _ I h) fun us s1 ⟨vs, H1, I1, r1, a, xs, ex, hq, q⟩ => ?_) hs rfl
  subst ex
  obtain ⟨u, rfl, ru⟩ : ∃ u, us = [u] ∧ RelV (.ref a) u := by
    cases r1 with
    | cons r rr => cases rr; exact ⟨_, rfl, r⟩
  obtain rfl : u = Value.ref a := ru
  obtain ⟨its, rv, p', hz⟩ := I1.tuple hq
  have la : a < s1.heap.objs.size := IsTup.lt p'
  refine TFZ.call_enum1 (begins_tuple a its.toArray) p' fun h' he hit hk => wpAny_pyIter_enum he ?_
  refine ⟨s1.heap.objs.size + 1, [s1.heap.objs.size + 1, s1.heap.objs.size], EnT a (s1.heap.objs.size + 1) s1.heap.objs.size, Iet X.K a, H1, rfl, I1.kept (t' := s1.toks) hk, turn_enumT a _ _, ?_, ?_, q⟩
  · exact ⟨⟨_, he⟩, ⟨_, hit, rfl, rfl⟩, Nat.succ_ne_self _, Nat.ne_of_lt la, Nat.ne_of_lt (Nat.lt_succ_of_lt la)⟩
  · intro b hb
    have hle : s1.heap.objs.size ≤ b := by
      rcases two_of hb with rfl | rfl
      · exact Nat.le_succ _
      · exact Nat.le_refl _
    exact I1.fpOk hle (I1.hok.fresh hle)
theorem walk_enumT {K : PySem.W.Frag} {a : Addr} {xs : List V} : Walk (Iet K a) xs.length (fun H => SqT K H a xs) (YPair (fun i => some (.int (i : Nat))) (fun i => xs[i]?)) := by
  refine ⟨fun i _ hi q => ⟨xs, xs[i], q, by simp [hi]⟩, fun _ q => ⟨xs, q, rfl⟩, ?_⟩
  rintro i H v H' _ q ⟨T, x, h1, h2, h3, h4⟩
  exact ⟨T, .int (i : Nat), x, h1, h2, h3, rfl, h4 xs q⟩
end TF

namespace L2
open PySem PySem.Spec PyProof.Rows
/-! ### def f( *members), called by position -/
def StarB (fd : FuncData) (pv : Str) : Prop := ∀ rest : List Value, bindArgs fd ⟨rest, []⟩ = (newTuple rest >>= fun t => pure [(pv, t)])
/-- what it promises: of the tuple of the arguments -/
def starSp (sp : Sp) : Sp := fun vs H Q E => vs.length ≤ sizeLine ∧ ∀ p, H p = none → sp [.ref p] (upd H p (.tup vs)) Q E
theorem Fun.starB {K : PySem.W.Frag} {x qual : Str} {st : Stmt} {f : Addr} {fd : FuncData} {pv : Str} (F : Fun K x qual st f fd)
    (h0 : ∀ (kV doc pm : Value) (an : Option Addr) (cdv ct : Value), bindArgs (PySem.W.fnOf x qual (defArgs st) (defBody st) (defScope st) .none kV doc pm an cdv ct) ⟨[], []⟩ = (newTuple [] >>= fun t => pure [(pv, t)]))
    (h1 : ∀ (kV doc pm : Value) (an : Option Addr) (cdv ct r : Value) (rs : List Value), bindArgs (PySem.W.fnOf x qual (defArgs st) (defBody st) (defScope st) .none kV doc pm an cdv ct) ⟨r :: rs, []⟩ = (newTuple (r :: rs) >>= fun t => pure [(pv, t)])) : StarB fd pv := by
  obtain ⟨oc, od, kV, doc, pm, an, cdv, ct, osl, rfl, lk, hcd⟩ := F.ex
  intro rest
  cases rest with
  | nil => exact h0 kV doc pm an cdv ct
  | cons r rs => exact h1 kV doc pm an cdv ct r rs
theorem Fun.sok {P : Program} {w : World} {K : PySem.W.Frag} {mg : Str → Option Value} {base : Heap} {x qual : Str} {st : Stmt} {f : Addr} {fd : FuncData} {N : List Str} {pv : Str} {k : Nat} {sp : Sp} (F : Fun K x qual st f fd) (S : FnScope N [pv] (defScope st)) (b : StarB fd pv)
    (hbody : ∀ (cdv : Value) (A : Around) (outer : List Env) (s : Shared) (H : Hp) (vs : List V) (Q : VK) (E : XK), Room k (A.deeper (envOfC qual (defScope st) s.heap.objs.size f cdv)) → sp vs H Q E →
      ∃ t, PSs (cxOf CX0 P w K mg base N qual (defScope st) f cdv A outer s H E).nox (defBody st) t ∧ t { nx := fun _ H' => Q .non H', rt := Q } (start N vs) H) : FnR P w K mg base CX0 (k + 1) f (starSp sp) := by
  obtain ⟨oc, od, kV, doc, pm, an, cdv, ct, osl, rfl, lk, hcd⟩ := F.ex
  have hb : ∀ us rest : List Value, us.length = ([] : List Str).length → bindArgs (PySem.W.fnOf x qual (defArgs st) (defBody st) (defScope st) .none kV doc pm an cdv ct) ⟨us ++ rest, []⟩ = (newTuple rest >>= fun t => pure (([] : List Str).zip us ++ [(pv, t)])) := by
    intro us rest hl
    have : us = [] := List.length_eq_zero_iff.mp hl
    subst this
    exact b rest
  refine (StX.fn_star (ps := []) (pv := pv) (sp := sp) lk hcd S StX.cxUp_none hb fun A outer s H vs Q E hr hsp => ?_).imp fun vs H Q E h => ⟨[], vs, rfl, rfl, h.1, h.2⟩
  obtain ⟨t, h, q⟩ := hbody cdv A outer s H vs Q E hr hsp
  exact ⟨t, h.nox, q⟩
section
variable {X : Cx} {k : Nat} {f : Addr} {sp : Sp} {E : XK} {x : Str} {e : Expr} {es : List Expr} {t : TA} {p pos : Pos}
/-- f(e, ..) by a positional promise -/
theorem pe_callR (F : FnR X.prog X.w X.K X.mg X.base CX0 k f sp) (hr : Room k X.A) (hk : PySem.W.keepIn X.K (.ref f) = true) (hg : Gl X x) (hm : X.mg x = some (.ref f)) (hx : Passes CX0 X E) (ha : PA X (e :: es) t)
    (hd : (x == ("__debug__" : Str)) = false := by decide) (he : starEach (e :: es) X.env = (false, eval e X.env) :: starEach es X.env := by rfl) (hpl : (backTo pos (starEach es X.env)).any (·.1) = false := by rfl) :
    PE X (.Call (.Name x p) (e :: es) [] pos) (fun σ H Q => t σ H fun vs H1 => sp vs H1 Q E) := by
  constructor
  intro pins s σ H Q I h
  refine wpAny_Call_Name_kw (ld_glob I hg hm ?_ hd)
  refine PySem.W.callWith_K (h₀ := X.base) I.ok.mod.kin hk ?_ he hpl
  exact thn (ha.run pos pins s σ H _ I h) fun us s1 ⟨vs, H1, I1, r, q⟩ => ⟨I1.kIn, wpAny_call (run_fnR F hr hx I1 r q)⟩
end
end L2

namespace TF
open PySem PySem.Spec PyProof.Rows L2
/-- yes, at once -/
theorem yesC {σ : L2.St} {H : Hp} {E F : Hp → Prop} {inst : ∀ b : Bool, Decidable (b = true)} (h : E H) : tYes σ H (fun (b : Bool) H' => @ite Prop (b = true) (inst b) (E H') (F H')) := by
  show @ite Prop (true = true) (inst true) (E H) (F H)
  rw [if_pos rfl]
  exact h
/-- [e for x in a list of numbers], the value a function of the number -/
theorem lc_map {K : PySem.W.Frag} {p D : Addr} {l : List Nat} {f : Nat → V} {k : Nat} {te : TE} {vs : List Nat} {σ : L2.St} {H1 : Hp} {Qd : Hp → Prop}
    (hp : H1 p = some (.lst (l.map vn))) (hD : H1 D = none) (hl : l.length ≤ 4000) (hw : ∀ x, wipe ((wipe σ vs).set k (some x)) vs = wipe σ vs)
    (hs : ∀ d ∈ l, ∀ (H' : Hp) (E : V → Hp → Prop), Same H1 H' → E (f d) H' → te ((wipe σ vs).set k (some (vn d))) H' E) (hd : ∀ H', Same H1 H' → H' D = some (.lst (l.map f)) → Qd H') :
    ∃ W : Nat → Nat → Hp → Prop, (∃ m, W 0 m (upd H1 D (.lst []))) ∧ ∀ i m H, W i m H →
      ((Itl K p).stop i H ∧ Qd H) ∨ ((Itl K p).go i H ∧ ∃ Nx : Hp → Prop, (∀ H', Nx H' → ∃ m', m' < m ∧ W (i + 1) m' H') ∧ ∀ x H', (Itl K p).yld i H x H' → gName k x (wipe σ vs) H' fun σ2 H2 => wipe σ2 vs = wipe σ vs ∧ tYes σ2 H2 fun b H3 =>
        if b = true then te σ2 H3 fun y H4 => ∃ acc, H4 D = some (.lst acc) ∧ acc.length < sizeLine ∧ Nx (upd H4 D (.lst (acc ++ [y]))) else Nx H3) := by
  refine lc_it (walk_list (xs := l.map vn)) (fun i H' => H' D = some (.lst ((l.take i).map f)) ∧ Same H1 H') ⟨upd_same, same_new hD⟩ (fun i H' _ h => SqL.of (h.2 _ _ hp)) ?_ ?_
  · rintro i x H2 H3 hi ⟨e1, s1⟩ ⟨rfl, hx⟩
    rw [List.length_map] at hi
    have g := List.getElem?_eq_getElem hi
    have ex : x = vn l[i] := by
      rw [List.getElem?_map, g] at hx
      exact (Option.some.inj hx).symm
    subst ex
    refine ⟨hw _, yesC (hs _ (List.getElem_mem hi) _ _ s1 ⟨_, e1, ?_, ?_, Same.mut s1 hD⟩)⟩
    · rw [List.length_map, List.length_take]
      exact small_lt (b := 4000) (by omega)
    · rw [upd_same, List.take_succ, g, List.map_append]
      rfl
  · rintro H2 ⟨e1, s1⟩
    rw [List.length_map, List.take_length] at e1
    exact hd _ s1 e1
end TF

namespace L2
open PySem PySem.Spec PyProof.Rows
/-! ### for i in range(a, b), a and b of any size -/
theorem turn_long {P : Program} {w : World} {K : PySem.W.Frag} {tg : Expr} (it : Addr) (lo : Int) (n : Nat) : Turn P w K tg (Itr lo n) [it] it (fun i h => IsLongIter h it (lo + (i : Nat) * 1) ((n : Int) - (i : Nat)) 1) := by
  constructor
  case mem => simp
  case obj =>
    intro i h st b hb
    obtain rfl : b = it := by simpa using hb
    refine ⟨_, st, fun v z => ?_⟩
    have z2 : Data.fields _ = Data.cell v := z
    cases z2
  case keep => exact fun i h h' st k => k it (by simp) _ st
  case item =>
    intro X hP hw hK hc i pins s σ H E I hf st hg
    subst hP hw hK
    obtain ⟨f0, f1, f2, f3, f4, f5⟩ := hf it (by simp)
    have W := Walks.longrange (prog := X.prog) (w := X.w) (I.ok.hd hc) it lo 1 n
    refine W.item i s _ _ hg st fun v h' tk hv st' kk => ?_
    obtain ⟨t, rfl⟩ := hv
    have J : Inv X pins σ H { s with heap := h', toks := tk } := I.turned (fun b o hb e => kk b o (by simpa using hb) e) f0 f1 f3 f4 f5
    refine ⟨_, rfl, go_of (s := { s with heap := h', toks := tk }) (n := "longrange_iterator") st' rfl rfl (by decide) ⟨.int (lo + i), H, J, ⟨t, ?_⟩, ⟨rfl, rfl⟩, st', fun b hb => (hf b hb).1⟩⟩
    rw [Int.mul_one]
  case done =>
    intro X hP hw hK hc i pins s σ H E I hf st hg
    subst hP hw hK
    obtain ⟨f0, f1, f2, f3, f4, f5⟩ := hf it (by simp)
    have hn : n ≤ i := hg
    exact wpAny_pyNext_long_end (I.ok.hd hc) st (by omega) fun h' eb => ⟨rfl, I.turned (t' := s.toks) (fun b o hb e => eb b o hb e) f0 f1 f3 f4 f5⟩
  case self => exact fun _ _ _ _ _ st h => wpAny_pyIter_longiter st h
section
variable {X : Cx} {tg : Expr}
theorem range_any {pins : List (Addr × Obj)} {σ : St} {H : Hp} {s : Shared} {R : It → Hp → Prop} {E : Value → Shared → Prop} {lo hi : Int} {t u v : Tok} {tk : Nat} (I : Inv X pins σ H s) (q : R (Itr lo (hi - lo).toNat) H) :
    wpAny (model X.prog X.w) X.A (pyIter (.ref s.heap.objs.size)) (PIE X pins σ tg R) E { s with heap := s.heap.push { cls := .type "range", data := .fields #[.int lo t, .int hi u, .int 1 v] }, toks := tk } := by
  have J : Inv X pins σ H { s with heap := s.heap.push { cls := .type "range", data := .fields #[.int lo t, .int hi u, .int 1 v] }, toks := tk } := I.kept fun b o e => Heap.get?_push_of_some _ e
  have size : (((hi - lo).toNat : Nat) : Int) - ((0 : Nat) : Int) = Builtin.Range.rangeSize lo hi 1 := by
    rw [rangeSize_one]
    split <;> omega
  have start : lo + ((0 : Nat) : Int) * 1 = lo := by omega
  by_cases hs : Builtin.Range.small lo hi 1 = true
  · refine wpAny_pyIter_range (IsRange.new ..) hs ?_
    refine ⟨_, [_], _, _, H, rfl, J.kept (t' := tk) fun b o e => Heap.get?_push_of_some _ e, turn_range _ lo (hi - lo).toNat, ?_, fun b hb => ?_, q⟩
    · show IsRangeIter _ _ (lo + ((0 : Nat) : Int) * 1) ((((hi - lo).toNat : Nat) : Int) - ((0 : Nat) : Int)) 1
      rw [start, size]
      exact Heap.get?_push_size _ rfl
    · obtain rfl := List.mem_singleton.mp hb
      exact J.fpOk (Nat.le_refl _) (J.hok.fresh (Nat.le_refl _))
  · have hs' : Builtin.Range.small lo hi 1 = false := by simpa using hs
    refine wpAny_pyIter_longrange (IsRange.new ..) hs' ?_
    refine ⟨_, [_], _, _, H, rfl, J.kept (t' := tk) fun b o e => Heap.get?_push_of_some _ e, turn_long _ lo (hi - lo).toNat, ?_, fun b hb => ?_, q⟩
    · show IsLongIter _ _ (lo + ((0 : Nat) : Int) * 1) ((((hi - lo).toNat : Nat) : Int) - ((0 : Nat) : Int)) 1
      rw [start, size]
      exact Heap.get?_push_size _ rfl
    · obtain rfl := List.mem_singleton.mp hb
      exact J.fpOk (Nat.le_refl _) (J.hok.fresh (Nat.le_refl _))
def iRng2W (ta : TA) : TI := fun σ H R => ta σ H fun vs H1 => ∃ i j : Int, vs = [.int i, .int j] ∧ R (Itr i (j - i).toNat) H1
theorem pi_range2W {a b : Expr} {ta : TA} {p pos : Pos} (hg : Gl X "range") (hm : X.mg "range" = none) (ha : PA X [a, b] ta) (hs : starEach [a, b] X.env = [(false, eval a X.env), (false, eval b X.env)] := by rfl) (hs2 : starEach [b] X.env = [(false, eval b X.env)] := by rfl) :
    PI X tg (.Call (.Name "range" p) [a, b] [] pos) (iRng2W ta) := by
  constructor
  intro pins s σ H R I h
  refine Call_ (ld_blt I hg hm boot_range ?_)
  refine PyProof.Rows.callWith_type1 (thn (ha.run pos pins s σ H _ I h) fun us s1 ⟨vs, H1, I1, r1, i, j, e, q⟩ => ?_) (by rw [hs, hs2]) (by rw [hs2]; rfl)
  subst e
  obtain ⟨t, t', rfl⟩ : ∃ t t', us = [.int i t, .int j t'] := by
    cases r1 with
    | cons r rr =>
      cases rr with
      | cons r' rr =>
        cases rr
        obtain ⟨t, rfl⟩ := r
        obtain ⟨t', rfl⟩ := r'
        exact ⟨t, t', rfl⟩
  exact call_range_2 (range_any I1 q)
end
end L2

/-! texts of digits: core Lean alone -/
namespace TM
theorem rd_append {r : Nat} : ∀ a b : List Nat, rd r (a ++ b) = rd r a + r ^ a.length * rd r b
  | [], b => by simp [rd]
  | d :: a, b => by
    show d + r * rd r (a ++ b) = d + r * rd r a + r ^ (a.length + 1) * rd r b
    rw [rd_append a b, Nat.mul_add, Nat.pow_succ, Nat.mul_comm (r ^ a.length) r, Nat.mul_assoc, Nat.add_assoc]
/-- the k last digits, the least one first -/
def pad : Nat → Nat → List Nat
  | 0, _ => []
  | k + 1, n => n % 3 :: pad k (n / 3)
theorem pad_len : ∀ k n, (pad k n).length = k
  | 0, _ => rfl
  | k + 1, n => by show (pad k (n / 3)).length + 1 = k + 1; rw [pad_len k]
theorem pad_lt : ∀ k n, ∀ d ∈ pad k n, d < 3
  | 0, _, d, h => by cases h
  | k + 1, n, d, h => by
    rcases List.mem_cons.mp h with e | e
    · omega
    · exact pad_lt k _ d e
theorem rd_pad : ∀ k n, rd 3 (pad k n) = n % 3 ^ k
  | 0, n => by rw [Nat.pow_zero, Nat.mod_one]; rfl
  | k + 1, n => by
    show n % 3 + 3 * rd 3 (pad k (n / 3)) = _
    rw [rd_pad k, Nat.pow_succ, Nat.mul_comm (3 ^ k) 3, Nat.mod_mul]
theorem digs_lt {r : Nat} (hr : 2 ≤ r) : ∀ f n, n ≤ f → ∀ d ∈ digs r n, d < r
  | f, n, hf, d, h => by
    by_cases h0 : n = 0
    · subst h0
      cases h
    · rw [digs_pos hr (by omega)] at h
      rcases List.mem_cons.mp h with e | e
      · rw [e]; exact Nat.mod_lt _ (by omega)
      · have lt : n / r < n := Nat.div_lt_self (by omega) (by omega)
        match f with
        | 0 => omega
        | f + 1 => exact digs_lt hr f (n / r) (by omega) d e
theorem digs_lt3 (n : Nat) : ∀ d ∈ digs 3 n, d < 3 := digs_lt (by omega) n n (Nat.le_refl _)
/-- digits as they may be, with zeros in front -/
theorem digs_rd {r : Nat} (hr : 2 ≤ r) : ∀ ds : List Nat, (∀ d ∈ ds, d < r) → ∃ k, ds = digs r (rd r ds) ++ List.replicate k 0
  | [], _ => ⟨0, rfl⟩
  | d :: ds, h => by
    have hd := h d List.mem_cons_self
    obtain ⟨k, e⟩ := digs_rd hr ds fun x hx => h x (List.mem_cons_of_mem _ hx)
    show ∃ k, d :: ds = digs r (d + r * rd r ds) ++ _
    by_cases h0 : 0 < d + r * rd r ds
    · rw [digs_cons hr hd h0]
      exact ⟨k, congrArg (d :: ·) e⟩
    · have hz : rd r ds = 0 := by
        rcases Nat.eq_zero_or_pos (rd r ds) with z | z
        · exact z
        · have : 0 < r * rd r ds := Nat.mul_pos (by omega) z
          omega
      rw [hz] at e
      have e0 : d = 0 := by omega
      refine ⟨k + 1, ?_⟩
      rw [hz, e0, Nat.mul_zero, Nat.add_zero, digs_zero, List.nil_append, List.replicate_succ]
      rw [digs_zero, List.nil_append] at e
      exact congrArg (0 :: ·) e
/-- the signs of digits, the greatest one first -/
def cs (ds : List Nat) : List Nat := ds.reverse.map (· + 48)
theorem cs_nil : cs [] = [] := rfl
theorem cs_append (a b : List Nat) : cs (a ++ b) = cs b ++ cs a := by unfold cs; rw [List.reverse_append, List.map_append]
theorem cs_len (a : List Nat) : (cs a).length = a.length := by unfold cs; rw [List.length_map, List.length_reverse]
theorem cs_cons (d : Nat) (a : List Nat) : cs (d :: a) = cs a ++ [d + 48] := by unfold cs; rw [List.reverse_cons, List.map_append]; rfl
theorem cs_mem {ds : List Nat} {c : Nat} : c + 48 ∈ cs ds ↔ c ∈ ds := by
  unfold cs
  rw [List.mem_map]
  constructor
  · rintro ⟨x, hx, e⟩
    have : x = c := by omega
    rw [← this]; exact List.mem_reverse.mp hx
  · intro h
    exact ⟨c, List.mem_reverse.mpr h, rfl⟩
theorem cs_two (n : Nat) : 50 ∈ cs (digs 3 n) ↔ ¬ plain n := by
  show 2 + 48 ∈ cs (digs 3 n) ↔ _
  rw [cs_mem]
  unfold plain
  exact Iff.symm Decidable.not_not
theorem cs_range {r : Nat} {ds : List Nat} (h : ∀ d ∈ ds, d < r) : ∀ c ∈ cs ds, 48 ≤ c ∧ c < 48 + r := by
  intro c hc
  unfold cs at hc
  obtain ⟨x, hx, e⟩ := List.mem_map.mp hc
  have := h x (List.mem_reverse.mp hx)
  omega
theorem cs_zeros : ∀ (k : Nat) (ds : List Nat), (cs (ds ++ List.replicate k 0)).dropWhile (· == 48) = (cs ds).dropWhile (· == 48) := by
  intro k ds
  rw [cs_append]
  have : cs (List.replicate k 0) = List.replicate k 48 := by
    unfold cs
    rw [List.reverse_replicate, List.map_replicate]
  rw [this]
  induction k with
  | zero => rfl
  | succ k ih =>
    rw [List.replicate_succ, List.cons_append, List.dropWhile_cons_of_pos rfl]
    exact ih (by unfold cs; rw [List.reverse_replicate, List.map_replicate])
theorem digs_last {r : Nat} (hr : 2 ≤ r) : ∀ f n, n ≤ f → 0 < n → ∃ a d, digs r n = a ++ [d] ∧ 0 < d
  | f, n, hf, h => by
    rw [digs_pos hr h]
    by_cases h0 : n / r = 0
    · rw [h0, digs_zero]
      refine ⟨[], n % r, rfl, ?_⟩
      have : n < r := by
        rcases Nat.lt_or_ge n r with z | z
        · exact z
        · have : 0 < n / r := Nat.div_pos z (by omega)
          omega
      rw [Nat.mod_eq_of_lt this]
      exact h
    · have lt : n / r < n := Nat.div_lt_self h (by omega)
      match f with
      | 0 => omega
      | f + 1 =>
        obtain ⟨a, d, e, hd⟩ := digs_last hr f (n / r) (by omega) (Nat.pos_of_ne_zero h0)
        exact ⟨n % r :: a, d, by rw [e]; rfl, hd⟩
theorem cs_strip {ds : List Nat} (h : ∀ d ∈ ds, d < 3) : (cs ds).dropWhile (· == 48) = cs (digs 3 (rd 3 ds)) := by
  obtain ⟨k, e⟩ := digs_rd (r := 3) (by omega) ds h
  generalize rd 3 ds = n at e
  rw [e, cs_zeros]
  rcases Nat.eq_zero_or_pos n with z | z
  · rw [z]; rfl
  · obtain ⟨a, d, e2, hd⟩ := digs_last (r := 3) (by omega) n n (Nat.le_refl _) z
    rw [e2, cs_append]
    have : cs [d] = [d + 48] := rfl
    rw [this, List.singleton_append, List.dropWhile_cons_of_neg]
    intro hh
    have : d + 48 = 48 := by simpa using hh
    omega
/-- what signs are worth in base b -/
def bnum (b : Nat) (l : List Nat) : Nat := l.foldl (fun a c => a * b + (c - 48)) 0
theorem bnum_cs (b : Nat) : ∀ ds, bnum b (cs ds) = rd b ds
  | [] => rfl
  | d :: ds => by
    rw [cs_cons]
    unfold bnum
    rw [List.foldl_append]
    have ih := bnum_cs b ds
    unfold bnum at ih
    rw [ih]
    show rd b ds * b + (d + 48 - 48) = d + b * rd b ds
    rw [Nat.mul_comm, Nat.add_sub_cancel]
    omega
theorem bnum_zero (b : Nat) (ds : List Nat) : bnum b (48 :: cs ds) = rd b ds := by
  rw [← bnum_cs b ds]
  show (cs ds).foldl _ (0 * b + (48 - 48)) = (cs ds).foldl _ 0
  rw [Nat.zero_mul]
/-- the binary text -/
def bt (n : Nat) : List Nat := if n = 0 then [48] else cs (digs 2 n)
theorem bt_rd (b n : Nat) : bnum b (48 :: bt n) = rd b (digs 2 n) := by
  unfold bt
  split
  · rename_i h
    subst h
    show bnum b (48 :: cs [0]) = _
    rw [bnum_zero]
    show 0 + b * 0 = 0
    omega
  · exact bnum_zero b _
theorem toDig : ∀ (f n : Nat) (acc : List Char), n < f → 0 < n → (Nat.toDigitsCore 2 f n acc).map Char.toNat = cs (digs 2 n) ++ acc.map Char.toNat
  | 0, n, acc, h, _ => by omega
  | f + 1, n, acc, h, h0 => by
    unfold Nat.toDigitsCore
    have hc : (Nat.digitChar (n % 2)).toNat = n % 2 + 48 := by
      rcases (show n % 2 = 0 ∨ n % 2 = 1 by omega) with e | e <;> rw [e] <;> rfl
    rw [digs_pos (by omega) h0, cs_cons]
    by_cases h1 : n / 2 = 0
    · simp only [h1, if_true]
      rw [List.map_cons, hc, digs_zero]
      rfl
    · simp only [h1, if_false]
      rw [toDig f (n / 2) _ (by omega) (by omega), List.map_cons, hc, List.append_assoc]
      rfl
theorem bt_eq (n : Nat) : (Nat.toDigits 2 n).map Char.toNat = bt n := by
  unfold bt
  split
  · rename_i h
    subst h
    rfl
  · unfold Nat.toDigits
    rw [toDig _ _ _ (by omega) (by omega)]
    simp
theorem bt_range (n : Nat) : ∀ c ∈ bt n, 48 ≤ c ∧ c < 50 := by
  unfold bt
  split
  · intro c hc
    rw [List.mem_singleton.mp hc]
    omega
  · exact cs_range (r := 2) (bits_lt n)
theorem bt_len {n k : Nat} (h : n < 2 ^ k) (hk : 0 < k) : (bt n).length ≤ k := by
  unfold bt
  split
  · exact hk
  · rw [cs_len]; exact digs_len (by omega) k n h
theorem rd_bits (n : Nat) : plain n → rd 2 (digs 3 n) = R n := by
  intro h
  obtain ⟨r, rfl⟩ := plain_B n h
  rw [B_digs, R_B, rd_digs (by omega) r r (Nat.le_refl _)]
end TM

/-! int(t, 2), int(t, 3) of texts of digits -/
namespace L2
open PySem PySem.Spec PyProof.Rows
namespace Dg
open PySem.NumText PySem.Calls L2.Hx
def IsB (b c : Nat) : Prop := 48 ≤ c ∧ c < 48 + b
section
variable {b : Nat}
theorem digit_b {c : Nat} (hb : b ≤ 3) (h : IsB b c) : digit? c = some (c - 48) := by
  unfold IsB at h
  unfold digit?
  rw [if_pos (bb h.1 (show c ≤ 57 by omega))]
theorem step_b {ds : Array Nat} {z : Bool} {c : Nat} (hb : b ≤ 3) (h : IsB b c) : PySem.NumText.step b (ds, z) c = some (ds.push (c - 48), true) := by
  have hr := h
  unfold IsB at hr
  unfold PySem.NumText.step
  rw [if_neg (by rw [beq_iff_eq]; omega), digit_b hb h]
  exact if_pos (by omega)
theorem foldl_b (hb : b ≤ 3) : ∀ (cs : List Nat) (ds : Array Nat), (∀ c ∈ cs, IsB b c) → cs.foldlM (PySem.NumText.step b) (ds, true) = some (cs.foldl (fun acc c => acc.push (c - 48)) ds, true)
  | [], _, _ => rfl
  | c :: cs, ds, h => by
    rw [List.foldlM_cons, step_b hb (h c (List.mem_cons_self ..))]
    show cs.foldlM (PySem.NumText.step b) (ds.push (c - 48), true) = _
    exact foldl_b hb cs (ds.push (c - 48)) fun d hd => h d (List.mem_cons_of_mem _ hd)
theorem digits_b (hb : b ≤ 3) {cs : List Nat} (h : ∀ c ∈ cs, IsB b c) (hne : cs ≠ []) : digits? b cs = some (cs.foldl (fun acc c => acc.push (c - 48)) #[]) := by
  cases cs with
  | nil => exact absurd rfl hne
  | cons c cs =>
    unfold digits?
    rw [List.foldlM_cons, step_b hb (h c (List.mem_cons_self ..))]
    show (cs.foldlM (PySem.NumText.step b) ((#[] : Array Nat).push (c - 48), true)).bind _ = _
    rw [foldl_b hb cs _ fun d hd => h d (List.mem_cons_of_mem _ hd)]
    rfl
theorem push_b : ∀ (cs : List Nat) (ds : Array Nat), (cs.foldl (fun acc c => acc.push (c - 48)) ds).foldl (fun acc d => acc * b + d) 0 = cs.foldl (fun a c => a * b + (c - 48)) (ds.foldl (fun acc d => acc * b + d) 0)
  | [], _ => rfl
  | c :: cs, ds => by
    rw [List.foldl_cons, push_b cs (ds.push (c - 48)), List.foldl_cons]
    congr 1
    simp
theorem dropB' (hb : b ≤ 3) {cs : List Nat} (h : ∀ c ∈ cs, IsB b c) : cs.dropWhile blank = cs := by
  cases cs with
  | nil => rfl
  | cons c cs => exact dropWhile_of (by have := h c (List.mem_cons_self ..); unfold IsB at this; omega)
theorem signB (hb : b ≤ 3) {cs : List Nat} (h : ∀ c ∈ cs, IsB b c) : sign cs = (false, cs) := by
  cases cs with
  | nil => rfl
  | cons c cs =>
    have := h c (List.mem_cons_self ..)
    unfold IsB at this
    exact sign_of (by omega) (by omega)
theorem basedB (hb : b ≤ 3) (h0 : 0 < b) {cs : List Nat} (h : ∀ c ∈ cs, IsB b c) : based b (48 :: cs) = (b, false, 48 :: cs) := by
  have hz : ¬ (b == 0) = true := by rw [beq_iff_eq]; omega
  cases cs with
  | nil =>
    show (if (b == 0) = true then _ else _) = _
    rw [if_neg hz]
  | cons c r =>
    have hc := h c List.mem_cons_self
    unfold IsB at hc
    have hx : (if (c == 120 || c == 88) = true then some 16 else if (c == 111 || c == 79) = true then some 8 else if (c == 98 || c == 66) = true then some 2 else (none : Option Nat)) = none := by
      rw [if_neg (by rw [Bool.or_eq_true, beq_iff_eq, beq_iff_eq]; omega), if_neg (by rw [Bool.or_eq_true, beq_iff_eq, beq_iff_eq]; omega), if_neg (by rw [Bool.or_eq_true, beq_iff_eq, beq_iff_eq]; omega)]
    show (match (if (c == 120 || c == 88) = true then some 16 else if (c == 111 || c == 79) = true then some 8 else if (c == 98 || c == 66) = true then some 2 else (none : Option Nat)) with
      | some p => if (b == 0 || b == p) = true then (p, false, _) else (b, false, 48 :: c :: r)
      | none => if (b == 0) = true then _ else (b, false, 48 :: c :: r)) = _
    rw [hx]
    show (if (b == 0) = true then _ else (b, false, 48 :: c :: r)) = _
    rw [if_neg hz]
theorem read_b (hb : b ≤ 3) (h0 : 2 ≤ b) {cs : List Nat} (h : ∀ c ∈ cs, IsB b c) (hne : cs.head? = some 48) : (int_private% "readNumeral") 0 b cs = (int_private% "Numeral.value") ((TM.bnum b cs : Nat) : Int) := by
  have hr : ∀ c ∈ cs.reverse, IsB b c := fun c hc => h c (List.mem_reverse.mp hc)
  have hbase : based b cs = (b, false, cs) := by
    cases cs with
    | nil => cases hne
    | cons a r =>
      obtain rfl : a = 48 := Option.some.inj hne
      exact basedB hb (by omega) fun c hc => h c (List.mem_cons_of_mem _ hc)
  have hne2 : cs ≠ [] := fun z => by rw [z] at hne; cases hne
  refine (readNumeral_eq 0 b cs).trans ?_
  rw [dropB' hb h, signB hb h]
  show judge 0 false (based b cs).1 (based b cs).2.1 (digits? (based b cs).1 (((based b cs).2.2.reverse.dropWhile blank).reverse)) = _
  rw [hbase]
  show judge 0 false b false (digits? b ((cs.reverse.dropWhile blank).reverse)) = _
  rw [dropB' hb hr, List.reverse_reverse, digits_b hb h hne2]
  have z : (#[] : Array Nat).foldl (fun acc d => acc * b + d) 0 = 0 := by first | rfl | simp
  have e := push_b (b := b) cs #[]
  rw [z] at e
  unfold TM.bnum
  rw [← e]
  rcases (show b = 2 ∨ b = 3 by omega) with rfl | rfl
  · rfl
  · rfl
theorem seen_b (hb : b ≤ 3) {x : Str} (h : ∀ c ∈ x.cps.toList, IsB b c) : numTextOf x = x.cps.toList ∧ numSeenOf x = x.cps.toList := by
  have e1 : numTextOf x = x.cps.toList := by
    refine if_pos ?_
    rw [← Array.all_toList, List.all_eq_true]
    intro c hc
    have := h c hc
    unfold IsB at this
    exact decide_eq_true (by omega)
  refine ⟨e1, ?_⟩
  show (numTextOf x).takeWhile _ = _
  rw [e1]
  refine takeWhile_all fun c hc => ?_
  have := h c hc
  unfold IsB at this
  exact bne_iff_ne.mpr (by omega)
end
set_option maxHeartbeats 8000000 in
theorem gives_3 {x : PySem.Str} {u t : Tok} (hl : x.length ≤ 640) (h : ∀ c ∈ x.cps.toList, IsB 3 c) (hne : x.cps.toList.head? = some 48) :
    Gives (Builtin.«int.__new__» ⟨[.type "int", .str x u, .int 3 t], []⟩) (.int ((TM.bnum 3 x.cps.toList : Nat) : Int)) :=
  .of_wp fun M A E s Q hQ => by
    obtain ⟨hp, g, d, tk, os⟩ := s
    have f1 := F.conv_sub_int
    have f2 := F.madeHere_int
    have f6 : typeOf (.str x u) = pure (.type "str") := rfl
    obtain ⟨e1, e2⟩ := seen_b (by omega) h
    have hs : (numSeenOf x).length ≤ 640 := by
      rw [e2, Array.length_toList]
      exact hl
    have hr : (int_private% "readNumeral") 0 3 (numSeenOf x) = (int_private% "Numeral.value") ((TM.bnum 3 x.cps.toList : Nat) : Int) := by
      rw [e2]
      exact read_b (by omega) (by omega) h hne
    have ha : ((numSeenOf x).length == (numTextOf x).length) = true := by
      rw [e1, e2]
      exact beq_self_eq_true _
    have hk := Hid.mk (And.intro hs (And.intro hr ha))
    clear hs hr ha e1 e2 hl hne h
    repeat (any_goals (first
      | assumption
      | ((with_reducible show wpAny _ _ ((int_private% "intFromText") _ _ _) _ _ _); refine wp_textB hk.out.1 hk.out.2.1 hk.out.2.2 ?_)
      | wp_step))
    all_goals first | exact ⟨_, rfl, hQ⟩ | skip
set_option maxHeartbeats 8000000 in
theorem gives_2 {x : PySem.Str} {u t : Tok} (hl : x.length ≤ 640) (h : ∀ c ∈ x.cps.toList, IsB 2 c) (hne : x.cps.toList.head? = some 48) :
    Gives (Builtin.«int.__new__» ⟨[.type "int", .str x u, .int 2 t], []⟩) (.int ((TM.bnum 2 x.cps.toList : Nat) : Int)) :=
  .of_wp fun M A E s Q hQ => by
    obtain ⟨hp, g, d, tk, os⟩ := s
    have f1 := F.conv_sub_int
    have f2 := F.madeHere_int
    have f6 : typeOf (.str x u) = pure (.type "str") := rfl
    obtain ⟨e1, e2⟩ := seen_b (by omega) h
    have hs : (numSeenOf x).length ≤ 640 := by
      rw [e2, Array.length_toList]
      exact hl
    have hr : (int_private% "readNumeral") 0 2 (numSeenOf x) = (int_private% "Numeral.value") ((TM.bnum 2 x.cps.toList : Nat) : Int) := by
      rw [e2]
      exact read_b (by omega) (by omega) h hne
    have ha : ((numSeenOf x).length == (numTextOf x).length) = true := by
      rw [e1, e2]
      exact beq_self_eq_true _
    have hk := Hid.mk (And.intro hs (And.intro hr ha))
    clear hs hr ha e1 e2 hl hne h
    repeat (any_goals (first
      | assumption
      | ((with_reducible show wpAny _ _ ((int_private% "intFromText") _ _ _) _ _ _); refine wp_textB hk.out.1 hk.out.2.1 hk.out.2.2 ?_)
      | wp_step))
    all_goals first | exact ⟨_, rfl, hQ⟩ | skip
end Dg
/-- int(t, b), b 2 or 3, t a text of digits below b -/
def rIntB : List V → Hp → VK → Prop := fun xs H Q => ∃ (l : List Nat) (b : Nat), xs = [.str (SX.S l), .int b] ∧ (b = 2 ∨ b = 3) ∧ l.head? = some 48 ∧ l.length ≤ 640 ∧ (∀ c ∈ l, Dg.IsB b c) ∧ Q (.int ((TM.bnum b l : Nat) : Int)) H
theorem call_int_b {X : Cx} : CallR X (.type "int") rIntB := by
  intro pins s σ H xs us Q I r h
  obtain ⟨l, b, rfl, hb, hne, hl, hx, q⟩ := h
  obtain ⟨u, w', rfl, r1, r2⟩ := vals2 r
  obtain ⟨t1, rfl⟩ := r1
  obtain ⟨t2, rfl⟩ := r2
  have fin : EP X pins σ Q (.int ((TM.bnum b l : Nat) : Int) s.toks) { s with toks := s.toks + 1 } := ⟨.int ((TM.bnum b l : Nat) : Int), H, I.tok _, ⟨_, rfl⟩, q⟩
  rcases hb with rfl | rfl
  · exact callType_new F.called_int F.newNe_int (Hx.typeCall_int_2 _ _) (Hx.newCall_int_2 _ _) (fun obj => F.initArgs_range_2 obj _ _) F.entry_int_new (Dg.gives_2 (x := SX.S l) (by rw [SX.S_len]; exact hl) hx hne).meets (show (Made.int ((TM.bnum 2 l : Nat) : Int)).post _ s from ⟨rfl, fin⟩)
  · exact callType_new F.called_int F.newNe_int (Hx.typeCall_int_2 _ _) (Hx.newCall_int_2 _ _) (fun obj => F.initArgs_range_2 obj _ _) F.entry_int_new (Dg.gives_3 (x := SX.S l) (by rw [SX.S_len]; exact hl) hx hne).meets (show (Made.int ((TM.bnum 3 l : Nat) : Int)).post _ s from ⟨rfl, fin⟩)
end L2

set_option maxHeartbeats 2000000
namespace L2
open PySem PySem.Spec PyProof.Rows PySem.Builtin
theorem bin_spec : ∃ f, Builtin.Float.parseFormatSpec [98] "int" 62 = .ok f ∧ f.type.getD (if (#[98].back? == some 0) = true then 0 else 100) = 98 ∧ f.precision = none ∧ f.noNeg0 = false ∧ f.alt = false ∧ f.width = none ∧ f.grouping = none ∧ f.sign = none ∧ f.fill = 32 ∧ f.align = 62 :=
  ⟨{ align := 62, type := some 98 }, rfl, rfl, rfl, rfl, rfl, rfl, rfl, rfl, rfl, rfl⟩
theorem bt_ne (n : Nat) : (TM.bt n).isEmpty = false := by
  unfold TM.bt
  split
  · rfl
  · rename_i h
    rw [TM.digs_pos (by omega) (by omega), TM.cs_cons]
    cases TM.cs (TM.digs 2 (n / 2)) <;> rfl
theorem bt_map (n : Nat) : ((Nat.toDigits 2 (n : Int).natAbs).map fun c => (if (98 : Nat) == 88 then c.toUpper else c).toNat) = TM.bt n := by
  rw [Int.natAbs_natCast, ← TM.bt_eq]
  rfl
theorem field_b {n k : Nat} {f : Builtin.Float.FormatSpec} (h4 : f.width = none) (h5 : f.grouping = none) (h6 : f.sign = none) (h7 : f.fill = 32) (h8 : f.align = 62) :
    PyProof.Rows.intField' f (decide ((n : Int) < 0)) [] (((Nat.toDigits 2 (n : Int).natAbs).map fun c => (if (98 : Nat) == 88 then c.toUpper else c).toNat)) [] k = ⟨(TM.bt n).toArray⟩ := by
  rw [bt_map, decide_eq_false (show ¬ (n : Int) < 0 by omega)]
  unfold PyProof.Rows.intField'
  simp [h4, h5, h6, h7, h8, bt_ne n]
theorem mk_eq {α : Type} {M : Model} {A : Around} {a b : Str} {k : Value → Sem α} {Q : α → Shared → Prop} {E : Value → Shared → Prop} {s : Shared} (e : a = b) (h : wpAny M A (mkStr b >>= k) Q E s) : wpAny M A (mkStr a >>= k) Q E s := e ▸ h
section
variable {prog : Program} {w : World} {A : Around} {E : Value → Shared → Prop} {s : Shared}
theorem field_bin {n : Nat} {t : Tok} {Q : Value → Shared → Prop} (hl : (TM.bt n).length ≤ sizeLine) (h : ∀ k z, Q (.str (⟨(TM.bt n).toArray⟩ : Str) z) { s with toks := k }) :
    wpAny (model prog w) A (formatField (.int (n : Int) t) (⟨#[98]⟩ : Str)) Q E s := by
  obtain ⟨f, hp, hty, h1, h2, h3, h4, h5, h6, h7, h8⟩ := bin_spec
  have hne : ((⟨#[98]⟩ : Str).length == 0) = false := rfl
  show wpAny _ _ (holding [.int (n : Int) t] (pyFormat (.int (n : Int) t) (⟨#[98]⟩ : Str))) Q E s
  refine wpAny_holding ?_; unfold pyFormat
  refine wpAny_bind (wpAny_mkStr ?_ (by show 1 ≤ sizeLine; decide))
  refine wpAny_bind (m := callSpecial? (.int (n : Int) t) (Str.ofString "__format__") [.str (⟨#[98]⟩ : Str) s.toks]) (wpAny_callSpecial?_slot (name := Str.ofString "__format__") (typeIs_int _ (n : Int) t) slot_int_format ?_)
  refine wpAny_call (codeAny_call_builtin slot_int_format.plain entry_int_format (slot_int_format.check _ _ _ _ _ _ _ _ (typeIs_int _ (n : Int) t) (args_int_format _ _) ?_)); unfold Builtin.«int.__format__»
  simp only [selfAndOne, noKeywords, Int.intOfSelf, asInt?, asStr?, List.isEmpty_nil, if_true, pure_bind, bind_pure, bind_assoc, hne, Bool.false_eq_true, if_false, show (Value.str (⟨#[98]⟩ : Str) s.toks == Value.none) = false from rfl]
  refine wpAny_bind (wpAny_typeNameOf (T := "str") (typeIs_str _ _ _) (by decide) fun _ => ?_)
  refine wpAny_ite_false (by decide) ?_
  first | refine wpAny_bind (wpAny_typeNameOfCut_int ?_) | refine wpAny_bind (wpAny_typeNameOf_int ?_)
  simp only [hp, hty]
  rw [if_pos (by decide)]
  show wpAny _ _ (if _ then _ else _) _ _ _
  rw [if_neg (by simp [h1])]
  show wpAny _ _ (if _ then _ else _) _ _ _
  rw [if_neg (by simp [h2])]
  show wpAny _ _ (if _ then _ else _) _ _ _
  rw [if_neg (by decide)]
  simp only [show ((98 : Nat) == 98) = true from rfl, if_true]
  show wpAny _ _ (if _ then _ else _) _ _ _
  rw [if_neg (by decide)]
  show wpAny _ _ (if _ then _ else _) _ _ _
  rw [if_neg (by simp [h4])]
  show wpAny _ _ (retStr _) _ _ _
  rw [h3, if_neg Bool.false_ne_true]
  unfold retStr
  refine mk_eq (b := ⟨(TM.bt n).toArray⟩) ?_ ?_
  · rw [bt_map, decide_eq_false (show ¬ (n : Int) < 0 by omega)]
    conv => lhs; whnf
    simp [h4, h5, h6, h7, h8, bt_ne n]
    generalize instDecidableEqBool (f.align == 60) true = dd
    cases dd <;> simp
  refine wpAny_bind (wpAny_mkStr (wpAny_pure ?_) (by rw [show (Str.length ⟨(TM.bt n).toArray⟩) = (TM.bt n).length from by simp [Str.length]]; exact hl))
  dsimp only
  refine wpAny_bind (wpAny_isInstance (typeIs_str _ _ _) isSubtype_str_str (wpAny_pure ?_))
  exact h _ _
end
/-- f"{e:b}", e a number -/
def tBin (te : TE) : TE := fun σ H Q => te σ H fun x H1 => ∃ n : Nat, x = .int (n : Int) ∧ (TM.bt n).length ≤ 16777216 ∧ Q (.str (SX.S (TM.bt n))) H1
section
variable {X : Cx}
theorem pe_bin {e : Expr} {te : TE} {p1 p2 p3 pos : Pos} {j : Nat} (he : PE X e te) : PE X (.JoinedStr [.FormattedValue e (-1) (some (.JoinedStr [.Constant (.str "b") j p1] p2)) p3] pos) (tBin te) := by
  refine pe_joined1 ⟨fun pins s σ H Q I h => ?_⟩
  refine wpAny_FormattedValue_spec (thn (he.run pins s σ H _ I h) fun v s1 hv => ?_)
  obtain ⟨x, H1, I1, r1, n, rfl, hl, q⟩ := hv
  obtain ⟨t, rfl⟩ := r1
  refine wpAny_JoinedStr_one ?_
  refine thn ((pe_str (X := X) (x := "b")).run pins s1 σ H1 (fun v H2 => v = .str "b" ∧ H2 = H1) I1 ⟨rfl, rfl⟩) fun v s2 hv => ?_
  obtain ⟨y, H2, I2, r2, ey, eh⟩ := hv
  subst ey
  subst eh
  obtain ⟨t2, rfl⟩ := r2
  exact ⟨_, _, rfl, field_bin hl fun k z => ⟨.str (SX.S (TM.bt n)), H2, I2.tok _, ⟨_, rfl⟩, q⟩⟩
end
end L2

namespace RT
open PySem PySem.Spec PyProof.Rows L2
section
variable {prog : Program} {w : World} {A : Around} {E : Value → Shared → Prop} {s : Shared}
/-- x.join(reversed(l)) -/
theorem join_rev {it l : Addr} {items : Array Value} {x : Str} {t : Tok} {ys : List Str} {Q : Value → Shared → Prop} (hh : A.handled = none) (hit : s.heap.IsRevIter it l ((items.size : Int) - 1)) (hl : s.heap.IsList l items) (hne : l ≠ it) (hn : items.size ≤ sizeLine)
    (hP : ∀ acc : Array Value, ItemsOf (fun i v => items[items.size - 1 - i]? = some v) acc items.size → StrsAre acc.toList ys) (hok : (ys.map (·.length)).sum + ys.length * x.length ≤ 16777216)
    (hq : ∀ (h' : Heap) (k t' : Tok), (∀ b o, b ≠ it → s.heap.get? b = some o → h'.get? b = some o) → Q (.str (Txt.join x ys) t') { s with heap := h', toks := k }) :
    wpAny (model prog w) A (call (.builtin "str.join") [.str x t, .ref it]) Q E s := by
  refine wpAny_call (codeAny_call_builtin F.slot_str_join.plain F.entry_str_join (F.slot_str_join.check _ _ _ _ _ _ _ _ (typeIs_str _ _ _) (F.args_str_join_2 _ _) ?_))
  rw [join_tree_other]
  refine wpAny_bind (wpAny_typeOf hit.typeIs ?_)
  show wpAny _ A.in1 ((pyIter (.ref it)).tryCatch _ >>= fun it' => collect it' >>= fun got => joinTail x got) _ _ s
  refine wpAny_bind (wpAny_tryCatch (wpAny_pyIter_revIter hit ?_))
  refine wpAny_bind (collect_rev (A := A.in1) hh hit hl hne hn fun h' tk acc hk hacc => ?_)
  obtain ⟨vs, hv, ht⟩ := strsAre_values (hP acc hacc)
  subst ht
  rw [hv]
  have hk2 := joinOk_of hok
  unfold JoinOk at hk2
  rw [Bool.not_eq_true'] at hk2
  have g : Gives (joinTail x (strValues vs)) (joinMade x vs) := by
    have g0 := gives_joinTail x vs hk2
    rcases vs with _ | ⟨p, _ | ⟨q, r⟩⟩ <;> exact g0
  exact g prog w A (wants Q E) _ (post_join vs ⟨joinFit_length hk2, fun t' k => hq h' k t' hk⟩)
end
/-- a.join(reversed(x)), x a list of texts -/
def tJoinRev (K : PySem.W.Frag) (to te : TE) : TE := fun σ H Q => to σ H fun v H1 => (∃ a : Str, v = .str a) ∧ te σ H1 fun u H2 => ∃ (a : Str) (q : Addr) (ys : List Str), v = .str a ∧ u = .ref q ∧ SqL K H2 q (ys.map V.str) ∧ (ys.map (·.length)).sum + ys.length * a.length ≤ 16777216 ∧ Q (.str (Txt.join a ys.reverse)) H2
theorem strs_vals : ∀ {ys : List Str} {vs : List Value}, Vals (ys.map V.str) vs → StrsAre vs ys
  | [], _, r => by cases r; exact .nil
  | y :: ys, _, r => by
    cases r with
    | cons r1 r2 =>
      obtain ⟨t, rfl⟩ := r1
      exact .cons y t (strs_vals r2)
section
variable {X : Cx}
theorem pe_joinRev {o e : Expr} {to te : TE} {apos p2 pos pos2 : Pos} (hc : X.calm = true) (ho : PE X o to) (hg2 : Gl X "reversed") (hm2 : X.mg "reversed" = none) (he : PE X e te)
    (hs : starEach [e] X.env = (false, eval e X.env) :: starEach [] X.env := by rfl)
    (hs1 : starEach [.Call (.Name "reversed" p2) [e] [] pos2] X.env = [(false, eval (.Call (.Name "reversed" p2) [e] [] pos2) X.env)] := by rfl)
    (hbase : attributeBase o "join" X.env (eval o X.env) = eval o X.env := by rfl) (hline : (apos.endLine == pos.line) = true := by rfl) :
    PE X (.Call (.Attribute o "join" apos) [.Call (.Name "reversed" p2) [e] [] pos2] [] pos) (tJoinRev X.K to te) := by
  refine ⟨fun pins s σ H Q I h => ?_⟩
  refine PySem.Call_method1 hbase hs1 hline (thn (ho.run pins s σ H _ I h) fun v s1 ⟨x, H1, I1, r1, q1⟩ => ?_)
  obtain ⟨⟨a, rfl⟩, q1⟩ := q1
  obtain ⟨t, rfl⟩ := _root_.id r1
  refine ⟨"str", _, F.plainAttrs_str, F.slot_str_join, F.type_str_join, typeIs_str _ _ _, (fun _ e => nomatch e), Calls.callWith_builtin rfl (Calls.evalArgs_plain (Calls.spliced_cons ?_))⟩
  refine Call_ (ld_blt I1 hg2 hm2 PyProof.Rows.boot_reversed (PyProof.Rows.callWith_type1 (args_cons (thn (he.run pins s1 σ H1 _ I1 q1) fun u s2 ⟨v, H2, I2, r2, q2⟩ => args_nil ?_) hs) hs rfl))
  obtain ⟨a', q, ys, ea, ev, hq, hz, q2⟩ := q2
  cases ea
  subst ev
  obtain rfl : u = Value.ref q := r2
  obtain ⟨its, rv, p', hsz⟩ := I2.list hq
  refine call_reversed_list p'.isList ?_
  have k0 : ∀ b o, s2.heap.get? b = some o → (s2.heap.push (revObj q ((its.toArray.size : Int) - 1))).get? b = some o := fun b o e => Heap.get?_push_of_some _ e
  have I3 : Inv X pins σ H2 { s2 with heap := s2.heap.push (revObj q ((its.toArray.size : Int) - 1)) } := I2.kept (t' := s2.toks) k0
  obtain ⟨f0, f1, f2, f3, f4, f5⟩ := I2.fpOk (H' := H2) (b := s2.heap.objs.size) (Nat.le_refl _) (I2.hok.fresh (Nat.le_refl _))
  have hl := p'.isList
  obtain ⟨ol, hol, _⟩ := id hl
  have hne : q ≠ s2.heap.objs.size := Nat.ne_of_lt (Heap.lt_size hol)
  have hn : its.toArray.size ≤ sizeLine := by rw [List.size_toArray, ← rv.length]; exact hsz
  have hz2 : (ys.reverse.map (·.length)).sum + ys.reverse.length * a.length ≤ 16777216 := by
    rw [List.map_reverse, List.sum_reverse, List.length_reverse]; exact hz
  refine Calls.spliced_nil (join_rev (ys := ys.reverse) (s := { s2 with heap := s2.heap.push (revObj q ((its.toArray.size : Int) - 1)) }) (I2.ok.hd hc) ⟨_, Heap.get?_push_size _ rfl, rfl, rfl⟩ (hl.push _) hne hn (fun acc hi => strs_vals (by rw [List.map_reverse]; exact vals_rev rv hi)) hz2 fun h' k t' hk => ?_)
  exact ⟨.str (Txt.join a ys.reverse), H2, I3.turned (t' := k) (fun b o hb e => hk b o hb e) f0 f1 f3 f4 f5, ⟨_, rfl⟩, q2⟩
end
end RT

/-! texts: lstrip, partition, join without a separator, a written tuple of texts -/
namespace SX
open PySem PySem.Builtin PySem.Builtin.Str
theorem drop_tw (g : Nat → Bool) : ∀ l : List Nat, l.drop (l.takeWhile g).length = l.dropWhile g
  | [] => rfl
  | a :: l => by
    by_cases h : g a = true
    · rw [List.takeWhile_cons_of_pos h, List.dropWhile_cons_of_pos h]
      exact drop_tw g l
    · rw [List.takeWhile_cons_of_neg h, List.dropWhile_cons_of_neg h]
      rfl
theorem lstrip_S (l : List Nat) : Txt.lstripChars (S l) "0" = S (l.dropWhile (· == 48)) := by
  have hg : (("0" : Str).cps.contains) = (fun c : Nat => c == 48) := by
    funext c
    show (#[48] : Array Nat).contains c = (c == 48)
    by_cases h : c = 48
    · subst h
      simp
    · rw [beq_eq_false_iff_ne.mpr h]
      simp [h]
  have hs : stripped (fun c : Nat => c == 48) true false (S l) = S (l.dropWhile (· == 48)) := by
    show strSub (S l) (l.takeWhile (fun c : Nat => c == 48)).length (S l).length = _
    refine PySem.Str.ext' ?_
    apply Array.toList_inj.mp
    rw [StrLaws.strSub_toList]
    show (l.drop (l.takeWhile (fun c : Nat => c == 48)).length).take ((S l).length - (l.takeWhile (fun c : Nat => c == 48)).length) = l.dropWhile (· == 48)
    rw [drop_tw, List.take_of_length_le]
    rw [S_len, ← drop_tw, List.length_drop]
    exact Nat.le_refl _
  unfold Txt.lstripChars Txt.stripBy
  rw [hg]
  split
  · rename_i h
    have hl := (Bool.and_eq_true_iff.mp h).1
    have : stripLo (fun c : Nat => c == 48) true (S l) = 0 := eq_of_beq hl
    rw [← hs]
    unfold stripped
    rw [this]
    exact (StrLaws.sub_whole (S l)).symm
  · exact hs
theorem part_none {l : List Nat} {c : Nat} (h : c ∉ l) : Txt.partition (S l) (S [c]) = (S l, Str.empty, Str.empty) := by
  unfold Txt.partition
  have e := StrLaws.found_one (S l) c
  have hn : decide (c ∈ (S l).cps.toList) = false := decide_eq_false h
  rw [hn] at e
  have e2 : (occurrences (S l) (S [c]) 0 (S l).length 1).isEmpty = true := by
    cases z : (occurrences (S l) (S [c]) 0 (S l).length 1).isEmpty with
    | true => rfl
    | false =>
      have e3 : (!(occurrences (S l) (S [c]) 0 (S l).length 1).isEmpty) = false := e
      rw [z] at e3
      cases e3
  rw [List.isEmpty_iff.mp e2]
theorem join_E : ∀ ls : List (List Nat), Txt.join Str.empty (ls.map S) = S ls.flatten := by
  intro ls
  unfold Txt.join
  rw [StrLaws.glued_eq_join]
  have go : ∀ ls : List (List Nat), PySem.Str.join Str.empty (ls.map S) = S ls.flatten := by
    intro ls
    induction ls with
    | nil => rfl
    | cons a r ih =>
      cases r with
      | nil =>
        show S a = S (a ++ [])
        rw [List.append_nil]
      | cons b r =>
        show S a ++ Str.empty ++ PySem.Str.join Str.empty ((b :: r).map S) = _
        rw [ih, PySem.Str.append_empty, S_cat]
        rfl
  exact go ls
end SX
namespace L2
open PySem PySem.Spec PyProof.Rows
/-- a tuple of texts that the program wrote -/
theorem tup_written {K : PySem.W.Frag} {a : Addr} {od : Option Addr} {its : Array Value} {n : Nat} {sl : Array (Option Value)} {ys : List Str} (h : K.lookup a = some ⟨.type "tuple", od, .seq its n, sl⟩) (hy : PyProof.Rows.KTD.strsLook its.toList ys = true) (hn : ys.length ≤ 1000) (H : Hp) :
    SqT K H a (ys.map V.str) := by
  have hs := PyProof.Rows.KTD.strs_of_look hy
  have hl : its.size = ys.length := by
    have := (vals_of_strs hs).length
    rw [List.length_map] at this
    simpa using this.symm
  refine .inr ⟨_, its, n, h, rfl, rfl, Nat.le_trans (Nat.le_trans (Nat.le_of_eq hl) hn) (by decide), vals_of_strs hs⟩
/-- the four digits of each number below 81 -/
def fours : List Str := (List.range 81).map fun i => SX.S (TM.cs (TM.pad 4 i))
theorem fours_get {i : Nat} (h : i < 81) : (fours.map V.str)[i]? = some (V.str (SX.S (TM.cs (TM.pad 4 i)))) := by
  unfold fours
  rw [List.getElem?_map, List.getElem?_map, List.getElem?_range h] <;> rfl
end L2

namespace L2
open PySem PySem.Spec PyProof.Rows
section
variable {X : Cx} {k : Nat} {f : Addr} {sp : Sp} {E : XK} {x : Str} {p pos : Pos}
/-- f() by a positional promise -/
theorem pe_callR0 (F : FnR X.prog X.w X.K X.mg X.base CX0 k f sp) (hr : Room k X.A) (hk : PySem.W.keepIn X.K (.ref f) = true) (hg : Gl X x) (hm : X.mg x = some (.ref f)) (hx : Passes CX0 X E)
    (hd : (x == ("__debug__" : Str)) = false := by decide) : PE X (.Call (.Name x p) [] [] pos) (fun σ H Q => sp [] H Q E) := by
  constructor
  intro pins s σ H Q I h
  refine wpAny_Call_Name_kw (ld_glob I hg hm ?_ hd)
  exact PySem.W.callWith_K0 I.kIn hk (wpAny_call (run_fnR F hr hx I .nil h))
end
/-- chunks of digits, as their texts, one behind the other from the last one on -/
theorem chunks_text : ∀ L : List (List Nat), Txt.join Str.empty ((L.map fun l => SX.S (TM.cs l)).reverse) = SX.S (TM.cs L.flatten) := by
  intro L
  have e : (L.map fun l => SX.S (TM.cs l)).reverse = ((L.map TM.cs).reverse).map SX.S := by
    rw [← List.map_reverse, ← List.map_reverse, List.map_map]
    rfl
  rw [e, SX.join_E]
  congr 1
  clear e
  induction L with
  | nil => rfl
  | cons l L ih =>
    show _ = TM.cs (l ++ L.flatten)
    rw [List.map_cons, List.reverse_cons, List.flatten_append, ih, TM.cs_append]
    simp
theorem chunks_len : ∀ (L : List (List Nat)), ((L.map fun l => SX.S (TM.cs l)).map (·.length)).sum = L.flatten.length
  | [] => rfl
  | l :: L => by
    rw [List.map_cons, List.map_cons, List.sum_cons, chunks_len L, List.flatten_cons, List.length_append, SX.S_len, TM.cs_len]
theorem cat_cs (a b : List Nat) : SX.S (TM.cs b) ++ SX.S (TM.cs a) = SX.S (TM.cs (a ++ b)) := by rw [SX.S_cat, TM.cs_append]
theorem lt_of_pow {len n b : Nat} (h : 3 ^ len ≤ n) (hn : n < 2 ^ b) : len < b := by
  rcases Nat.lt_or_ge len b with z | z
  · exact z
  · have h1 : 2 ^ b ≤ 2 ^ len := Nat.pow_le_pow_right (by decide) z
    have h2 : 2 ^ len ≤ 3 ^ len := Nat.pow_le_pow_left (by decide) len
    omega
end L2
namespace L2
open PySem PySem.Spec PyProof.Rows
theorem cr_minKx {X : Cx} (K : PySem.W.Frag) (hc : X.calm = true) (h : X.K = K := by rfl) : CallR X (.builtin "min") (rMin K) := by
  subst h
  exact cr_min hc
def rLenK (K : PySem.W.Frag) : List V → Hp → VK → Prop := fun xs H Q => ∃ p ys, xs = [V.ref p] ∧ (SqL K H p ys ∨ SqT K H p ys) ∧ Q (.int ys.length) H
theorem call_lenK {X : Cx} (K : PySem.W.Frag) (h : X.K = K := by rfl) : CallR X (.builtin "len") (rLenK K) := by
  subst h
  exact call_len_seq
end L2

namespace L2
open PySem PySem.Spec PyProof.Rows CwR
theorem PSsT.nox {X : Cx} {st : List Stmt} {t : TS} (h : PSsT X.nox st t) : PSsT X st t := fun pins s σ H D h0 I hw =>
  wpAny_mono (h pins s σ H D h0 (I.wish _) hw) (fun _ _ q => q.unwish) fun _ _ z => False.elim z
/-- a def whose body begins when a token is out -/
theorem Fun.okT {P : Program} {w : World} {K : PySem.W.Frag} {mg : Str → Option Value} {base : Heap} {x qual : Str} {st : Stmt} {f : Addr} {fd : FuncData} {N ps : List Str} {k : Nat} {sp : Sp} (F : Fun K x qual st f fd) (S : FnScope N ps (defScope st))
    (hnc : ∀ y ∈ (defScope st).names, y.2 ≠ .cell) (hps : 1 ≤ ps.length) (len : ∀ vs H Q E, sp vs H Q E → vs.length = ps.length)
    (hbody : ∀ (cdv : Value) (A : Around) (outer : List Env) (s : Shared) (H : Hp) (vs : List V) (Q : VK) (E : XK), Room k (A.deeper (envOfC qual (defScope st) s.heap.objs.size f cdv)) → sp vs H Q E →
      ∃ t, PSsT (cxOf CX0 P w K mg base N qual (defScope st) f cdv A outer s H E).nox (defBody st) t ∧ t { nx := fun _ H' => Q .non H', rt := Q } (start N vs) H) : FnOk P w K mg base CX0 (k + 1) f fd ps sp := by
  obtain ⟨oc, od, kV, doc, pm, an, cdv, ct, osl, rfl, lk, hcd⟩ := F.ex
  refine fn_ofT lk hcd S hnc hps len fun A outer s H vs Q E hr hsp => ?_
  obtain ⟨t, h, q⟩ := hbody cdv A outer s H vs Q E hr hsp
  exact ⟨t, h.nox, q⟩
section
variable {X : Cx} {CX : CXT} {k : Nat} {f : Addr} {fd : FuncData} {ps : List Str} {ds : List Value} {dvs : List V} {sp : Sp} {E : XK} {x : Str} {e : Expr} {es : List Expr} {t : TA} {te : TE} {p pos pos' : Pos}
theorem pet_call (F : FnOk X.prog X.w X.K X.mg X.base CX k f fd ps sp) (hr : Room k X.A) (hg : Gl X x) (hm : X.mg x = some (.ref f)) (hk : PySem.W.keepIn X.K (.ref f) = true) (hb : Binds X.K fd ps ds) (hd : Vals dvs ds) (hx : Passes CX X E)
    (ha : PAT X (e :: es) t) (hdb : (x == ("__debug__" : Str)) = false := by decide) (he : starEach (e :: es) X.env = (false, eval e X.env) :: starEach es X.env := by rfl) (hpl : (backTo pos (starEach es X.env)).any (·.1) = false := by rfl) :
    PET X (.Call (.Name x p) (e :: es) [] pos) (tCall sp dvs E t) := by
  intro pins s σ H Q h0 I h
  refine wpAny_Call_Name_kw (ld_glob I hg hm ?_ hdb)
  refine PySem.W.callWith_K (h₀ := X.base) I.ok.mod.kin hk (thn (ha pos pins s σ H _ h0 I h) fun us s1 ⟨vs, H1, I1, r, q⟩ => ⟨I1.kIn, ?_⟩) he hpl
  exact run_fn F hr hb hd hx I1 r q
theorem pet_tup {x1} (h : PAT X es t) : PET X (.Tuple es x1 pos) (tTup t) := by
  intro pins s σ H Q h0 I hq
  refine wpAny_Tuple_spliced (thn (h pos pins s σ H _ h0 I hq) fun us s1 ⟨xs, H1, I1, r, z, q⟩ => ⟨by rw [← r.length]; exact z, ?_⟩)
  have hf : H1 s1.heap.objs.size = none := I1.hok.fresh (Nat.le_refl _)
  refine ⟨.ref s1.heap.objs.size, upd H1 s1.heap.objs.size (.tup xs), I1.laid (t' := s1.toks) (fun b u e => Heap.get?_push_of_some _ e) (Nat.le_refl _) ?_, rfl, q _ hf⟩
  exact ⟨z, us, r, ⟨_, Heap.get?_push_size _ rfl, rfl, _, rfl⟩⟩
theorem pst_set {i : Nat} {x : Str} (hN : X.N.Nodup) (hi : X.N[i]? = some x) (hx : Loc X.env.scope x) (he : PET X e te) (hs : swapsWith e (some (.Name x pos')) pos.line X.env = pure false := by rfl)
    (hf : X.fn x = true ∨ X.env.scope.names.lookup x = some .local := by first | exact .inl rfl | exact .inr rfl | assumption) : PST X (.Assign [.Name x pos'] e pos) (tAsg te (gName i)) := by
  intro pins s σ H D h0 I h
  refine wpAny_Assign_Name (thn (he pins s σ H _ h0 I h) fun v s1 ⟨y, H1, I1, r1, q1⟩ => ?_) hs
  exact store_ok I1 hN hi hx r1 (fun s2 I2 => ⟨_, H1, I2, q1⟩) hf
/-- text * number -/
theorem op_mul_str : OpR X (binaryOp .Mult) (fun x y H Q => ∃ (c n : Nat), x = .str (SX.S [c]) ∧ y = .int (n : Int) ∧ n ≤ 1000000 ∧ Q (.str (SX.S (List.replicate n c))) H) := by
  intro pins s σ H x y v u Q I rx ry h
  obtain ⟨c, n, rfl, rfl, hn, q⟩ := h
  obtain ⟨t, rfl⟩ := rx
  obtain ⟨t2, rfl⟩ := ry
  refine PySem.SB.mul (mulOk_of 1 1000000 (Nat.le_refl _) (by omega) (by omega) (by decide) (by decide)) fun t' k => ⟨.str (SX.S (List.replicate n c)), H, I.tok _, ⟨t', ?_⟩, q⟩
  have e : Txt.mul (SX.S [c]) (n : Int) = SX.S (List.replicate n c) := by
    refine PySem.Str.ext' (Array.toList_inj.mp ?_)
    rw [show SX.S [c] = (⟨#[c]⟩ : Str) from rfl, mul_one_list]
    rfl
  rw [e]
end
end L2
namespace SX
open PySem PySem.Builtin PySem.Builtin.Str
theorem repl_one (c d : Nat) : ∀ l : List Nat, PySem.StrLaws.replL [c] [d] l = l.map fun x => if x = c then d else x
  | [] => PySem.StrLaws.replL_nil
  | x :: l => by
    by_cases h : x = c
    · rw [PySem.StrLaws.replL_hit (by simp) (by simp [h])]
      show d :: PySem.StrLaws.replL [c] [d] l = _
      rw [repl_one c d l, List.map_cons, if_pos h]
    · rw [PySem.StrLaws.replL_miss (by simp [h]), repl_one c d l, List.map_cons, if_neg h]
theorem repl_S (c d : Nat) (l : List Nat) : Txt.replace (S l) (S [c]) (S [d]) = S (l.map fun x => if x = c then d else x) := by
  refine PySem.Str.ext' (Array.toList_inj.mp ?_)
  rw [PySem.StrLaws.replace_list (by simp [S_len])]
  exact repl_one c d l
theorem pad_small {n : Nat} (h : n ≤ 100000) : PadOk (n : Int) = true := by
  unfold PadOk fitsSsize tooLong
  rw [Int.toNat_natCast, Bool.and_eq_true]
  refine ⟨?_, ?_⟩
  · rw [Bool.not_eq_true', Bool.or_eq_false_iff]
    exact ⟨decide_eq_false (by omega), decide_eq_false (by omega)⟩
  · rw [Bool.not_eq_true']
    refine decide_eq_false ?_
    have : (100000 : Nat) ≤ sizeLine := by decide
    omega
theorem zfill_S {l : List Nat} {n : Nat} (h : ∀ c ∈ l, 48 ≤ c) : Txt.zfill (S l) (n : Int) = S (List.replicate (n - l.length) 48 ++ l) := by
  unfold Txt.zfill
  split
  · rename_i z
    rw [S_len] at z
    rw [show n - l.length = 0 by omega]
    rfl
  · rename_i z
    rw [Int.toNat_natCast, S_len]
    have e : zfilled (S l) (n - l.length) = padded (S l) (n - l.length) 0 48 := by
      unfold zfilled
      split
      · rename_i y
        have hm : 43 ∈ l := List.mem_of_getElem? (by simpa using y)
        have := h _ hm
        omega
      · rename_i y
        have hm : 45 ∈ l := List.mem_of_getElem? (by simpa using y)
        have := h _ hm
        omega
      · rfl
    rw [e]
    refine PySem.Str.ext' (Array.toList_inj.mp ?_)
    unfold padded
    simp
end SX

/-! G5: generator defs of the text, their calls -/
namespace TF
open PySem PySem.Spec PyProof.Rows L2 GenW TM
section
variable {P : Program} {w : World} {K : PySem.W.Frag} {mg : Str → Option Value} {base : Heap} {x qual : Str} {params : Arguments} {body : List Stmt} {scope : Scope} {dvs : List V} {kws : List (Str × V)} {f : Addr} {fd : FuncData}
theorem gdef_ok {N ps : List Str} {k : Nat} {sp : SpJ} (F : FunD K x qual params body scope dvs kws f fd) (S : GScope N ps scope) (plain : ∀ y ∈ scope.names, y.2 ≠ .cell ∧ y.2 ≠ .free) (len : ∀ vs H J, sp vs H J → vs.length = ps.length)
    (hbody : ∀ (cdv : Value) (A : Around) (outer : List Env) (L : Addr) (H : Hp) (vs : List V) (J : GJ), Room k (A.deeper (envOfC qual scope L f cdv)) → sp vs H J →
      ∃ t, QSs (gxOf P w K mg base N qual scope f cdv A outer L) J body t ∧ ∀ B, (J.go 0 B ∨ J.stop 0 B) → t (qEnd J) 0 B (start N vs) B) : GDef P w K mg base (k + 1) f fd ps sp := by
  obtain ⟨oc, od, dV, kV, doc, pm, an, cdv, ct, osl, rfl, lk, hcd, _, _⟩ := F.ex
  exact gdef_of lk hcd S plain len fun A outer L H vs J hr hsp => hbody cdv A outer L H vs J hr hsp
end
section
variable {X : Cx} {k : Nat} {f : Addr} {fd : FuncData} {ps ks : List Str} {sp : SpJ} {ds : List Value} {dvs : List V} {x : Str} {p pos : Pos} {e : Expr} {es : List Expr} {t : TA}
def tCallJ (sp : SpJ) (dvs : List V) (t : TA) : TJ := fun σ H R => t σ H fun vs H1 => ∃ J, sp (vs ++ dvs) H1 J ∧ R J H1
theorem gen_run {pins : List (Addr × Obj)} {σ : L2.St} {H : Hp} {s : Shared} {vs : List V} {us : List Value} {args : Args} {J : GJ} {R : GJ → Hp → Prop} {E : Value → Shared → Prop} (F : GDef X.prog X.w X.K X.mg X.base k f fd ps sp) (hr : Room k X.A) (I : Inv X pins σ H s)
    (hb : BindsTo s fd args (ps.zip us)) (r : Vals vs us) (h : sp vs H J) (q : R J H) :
    codeAny (model X.prog X.w) X.A (.call (.ref f) args) (fun r s' => match r with
      | .ok (.ret u) => ∃ H1 sc J, Inv X pins σ H1 sc ∧ GFresh X.prog X.w X.K X.mg X.base k X.stack sc J u s' ∧ R J H1
      | .ok _ => False | .error e => E e s') s := by
  refine codeAny_mono (F.run X.A X.stack s H args us vs J hr I.env0 hb r h) fun r s' hq => ?_
  cases r with
  | error e => exact hq.elim
  | ok fl =>
    cases fl with
    | ret u => exact ⟨H, s, J, I, hq, q⟩
    | next => exact hq.elim
    | brk => exact hq.elim
    | cont => exact hq.elim
/-- f(e, ..) -/
theorem pj_call (F : GDef X.prog X.w X.K X.mg X.base k f fd ps sp) (hr : Room k X.A) (hg : Gl X x) (hm : X.mg x = some (.ref f)) (hk : PySem.W.keepIn X.K (.ref f) = true) (hb : Binds X.K fd ps ds) (hd : Vals dvs ds) (ha : PA X (e :: es) t)
    (hdb : (x == ("__debug__" : Str)) = false := by decide) (he : starEach (e :: es) X.env = (false, eval e X.env) :: starEach es X.env := by rfl) (hpl : (backTo pos (starEach es X.env)).any (·.1) = false := by rfl) :
    PJ X k (.Call (.Name x p) (e :: es) [] pos) (tCallJ sp dvs t) := by
  constructor
  intro pins s σ H R I h
  refine wpAny_Call_Name_kw (ld_glob I hg hm ?_ hdb)
  refine PySem.W.callWith_K (h₀ := X.base) I.ok.mod.kin hk (thn (ha.run pos pins s σ H _ I h) fun us s1 hh => ?_) he hpl
  obtain ⟨vs, H1, I1, r, J, q, hR⟩ := hh
  refine ⟨I1.kIn, wpAny_call (codeAny_mono (gen_run (R := R) (E := X.xe) F hr I1 (hb s1 us I1.kIn ?_) (r.append hd) q hR) fun r s' hq => ?_)⟩
  · rw [← F.len _ _ _ q, (r.append hd).length]
  · cases r with
    | error e => exact hq
    | ok fl => cases fl <;> first | exact hq | exact hq.elim
/-- f() -/
theorem pj_call0 (F : GDef X.prog X.w X.K X.mg X.base k f fd ps sp) (hr : Room k X.A) (hg : Gl X x) (hm : X.mg x = some (.ref f)) (hk : PySem.W.keepIn X.K (.ref f) = true) (hb : Binds X.K fd ps ds) (hd : Vals dvs ds)
    (hdb : (x == ("__debug__" : Str)) = false := by decide) :
    PJ X k (.Call (.Name x p) [] [] pos) (tCallJ sp dvs tNil) := by
  constructor
  intro pins s σ H R I h
  obtain ⟨J, q, hR⟩ := h
  refine wpAny_Call_Name_kw (ld_glob I hg hm ?_ hdb)
  refine PySem.W.callWith_K0 I.kIn hk (wpAny_call (codeAny_mono (gen_run (vs := [] ++ dvs) (us := [] ++ ds) (args := ⟨[], []⟩) (R := R) (E := X.xe) F hr I (hb s [] I.kIn ?_) (show Vals ([] ++ dvs) ([] ++ ds) from hd) q hR) fun r s' hq => ?_))
  · rw [← F.len _ _ _ q]
    exact (hd.length).symm
  · cases r with
    | error e => exact hq
    | ok fl => cases fl <;> first | exact hq | exact hq.elim
/-- f(k = e, ..) -/
def tCallJW (sp : SpJ) (n : Nat) (g : {α : Type} → List α → List α) (tk : TA) : TJ := fun σ H R => tk σ H fun zs H1 => zs.length = n ∧ ∃ J, sp (g zs) H1 J ∧ R J H1
theorem pj_callK0 {g : {α : Type} → List α → List α} {kws : List Keyword} {tk : TA} (F : GDef X.prog X.w X.K X.mg X.base k f fd ps sp) (hr : Room k X.A) (hg : Gl X x) (hm : X.mg x = some (.ref f)) (hk : PySem.W.keepIn X.K (.ref f) = true) (hb : KB0 X.K fd ps ks g) (hkw : PK X kws tk)
    (hall : (backToKw pos (keywordEach kws X.env)).all (·.1.isSome) = true := by rfl) (hks : (backToKw pos (keywordEach kws X.env)).filterMap (·.1) = ks := by rfl)
    (hdb : (x == ("__debug__" : Str)) = false := by decide)
    (hpl : ((backTo pos (starEach [] X.env)).any (·.1) || (backToKw pos (keywordEach kws X.env)).any (·.1.isNone)) = false := by rfl) :
    PJ X k (.Call (.Name x p) [] kws pos) (tCallJW sp ks.length g tk) := by
  constructor
  intro pins s σ H R I h
  refine wpAny_Call_Name_kw (ld_glob I hg hm ?_ hdb)
  refine PySem.W.callWith_KW0 (h₀ := X.base) I.ok.mod.kin hk hall ?_ hpl
  refine thn (hkw.run pos pins s σ H _ I h) fun ws s2 hh => ?_
  obtain ⟨zs, H2, I2, rz, l0, J, q, hR⟩ := hh
  refine ⟨I2.kIn, ?_⟩
  rw [hks]
  have hl : ws.length = ks.length := by rw [← rz.length, l0]
  refine wpAny_call (codeAny_mono (gen_run (R := R) (E := X.xe) F hr I2 (hb.to s2 ws I2.kIn hl) (hb.rel rz) q hR) fun r s' hq => ?_)
  cases r with
  | error e => exact hq
  | ok fl => cases fl <;> first | exact hq | exact hq.elim
end
theorem binds_none {K : PySem.W.Frag} {fd : FuncData} {ps : List Str} (h : ∃ ds, Vals [] ds ∧ Binds K fd ps ds) : Binds K fd ps [] := by
  obtain ⟨ds, r, b⟩ := h
  cases r
  exact b
end TF

set_option maxHeartbeats 1000000
/-! G7: for in a generator's body -/
namespace TF
open PySem PySem.Spec PyProof.Rows L2 GenW
section
variable {M : Model} {A : Around} {R : GenEnd} {Yp : Protocol} {n : Nat} {s₀ : Shared} {c : Code} {fs : List Frame} {s : Shared} {env : Env}
  {K : Flow → Sem PySem.Fin} {Jx : Value → Sem PySem.Fin} {gd : Bool → Bool} {lv : List Value → List Value}
theorem seg_For {tg iter : Expr} {body : List Stmt} {pos : Pos}
    (h : wpAny M (A.over c fs) (eval iter env) (fun x s₁ => wpAny M (A.over c fs) (pyIter x) (fun it s₂ => ∀ p, Seg M A R Yp n s₀ (.forLoop tg it body [] env) (M.den (.forLoop tg it body [] env))
      (.ret (fun r => ((match r with | .ok f => (.pure f : Sem Flow) | .error e => .raise e).onRaise (cameBack env)).wrap K Jx gd lv) none (gd false) (lv []) c p [] :: fs) s₂) (fun _ _ => False) s₁) (fun _ _ => False) s)
    (hs : ∀ x, foldedSetIterable iter env x = pure x := by intro _; rfl) :
    Seg M A R Yp n s₀ c ((exec (.For tg iter body [] pos) env).wrap K Jx gd lv) fs s := by
  have e : exec (.For tg iter body [] pos) env = (standAt pos >>= fun _ => eval iter env) >>= fun x => (standAt iter.pos >>= fun _ => holding [x] (pyIter x)) >>= fun it => runOwn (.forLoop tg it body [] env) env := by
    rw [exec_For]
    simp only [hs]
    simp [bind_assoc]
  rw [e, Sem.bind_eq_wrap', Sem.wrap_wrap]
  refine seg_wrap (wpAny_bind (wpAny_standAt (wpAny_mono h (fun x s₁ h₁ => ?_) fun _ _ z => z.elim)))
  rw [Sem.bind_eq_wrap', Sem.wrap_wrap]
  refine seg_wrap (wpAny_bind (wpAny_standAt (wpAny_holding (wpAny_mono h₁ (fun it s₂ h₂ => ?_) fun _ _ z => z.elim))))
  exact seg_call h₂
end
section
variable {prog : Program} {w : World} {A : Around} {R : GenEnd} {Yp : Protocol} {n : Nat} {s₀ : Shared} {fs : List Frame} {s : Shared} {env : Env}
theorem seg_forLoop {tg : Expr} {it : Value} {body : List Stmt}
    (h : wpAny (model prog w) (A.over (.forLoop tg it body [] env) fs) (pyNext it) (fun r s₁ => match r with
      | none => Seg (model prog w) A R Yp n s₀ (.block [] env) ((model prog w).den (.block [] env)) fs s₁
      | some v => wpAny (model prog w) (A.over (.forLoop tg it body [] env) fs) (letOwnedTupleGo tg it v) (fun _ s₂ =>
          wpAny (model prog w) (A.over (.forLoop tg it body [] env) fs) (assign tg env v) (fun _ s₃ => Seg (model prog w) A R Yp n s₀ (.forLoop tg it body [] env) ((execs body env).wrap (fun f => match f with
            | .next | .cont => .pure (.again (.forLoop tg it body [] env))
            | .brk => .pure (.done .next)
            | .ret v => .pure (.done (.ret v))) (fun e => (do noteFrame e env; theTreesLotGoes e : Sem Unit).wrap (fun _ => .raise e) .raise id id) id id) fs s₃) (fun _ _ => False) s₂) (fun _ _ => False) s₁) (fun _ _ => False) s) :
    Seg (model prog w) A R Yp n s₀ (.forLoop tg it body [] env) ((model prog w).den (.forLoop tg it body [] env)) fs s := by
  show Seg _ A R Yp n s₀ _ ((forTurn tg it body [] env).onRaise (fun x => do noteFrame x env; theTreesLotGoes x)) fs s
  unfold forTurn
  rw [Sem.onRaise_eq_wrap, Sem.bind_eq_wrap', Sem.wrap_wrap]
  refine seg_wrap (wpAny_standAt ?_)
  rw [Sem.bind_eq_wrap', Sem.wrap_wrap]
  refine seg_wrap (wpAny_onRaise (wpAny_mono h (fun r s₁ h₁ => ?_) fun _ _ z => z.elim))
  cases r with
  | none => exact seg_again rfl h₁
  | some v =>
    simp only
    rw [Sem.bind_eq_wrap', Sem.wrap_wrap]
    refine seg_wrap (wpAny_mono h₁ (fun _ s₂ h₂ => ?_) fun _ _ z => z.elim)
    rw [Sem.bind_eq_wrap', Sem.wrap_wrap]
    refine seg_wrap (wpAny_mono h₂ (fun _ s₃ h₃ => ?_) fun _ _ z => z.elim)
    rw [Sem.bind_eq_wrap', Sem.wrap_wrap]
    rw [Sem.wrap_congr (execs body env) _ _ (K' := fun f => match f with
            | .next | .cont => .pure (.again (.forLoop tg it body [] env))
            | .brk => .pure (.done .next)
            | .ret v => .pure (.done (.ret v))) (H' := (fun e => (do noteFrame e env; theTreesLotGoes e : Sem Unit).wrap (fun _ => .raise e) .raise id id))
        (fun f => by cases f <;> rfl)
        (fun e => by first | exact Sem.bind_eq_wrap _ _ | (show (do noteFrame e env; theTreesLotGoes e : Sem Unit).bind (fun _ => .raise e) = _; rw [Sem.bind_eq_wrap]))]
    exact h₃
end
/-! ### an iterator above the frame -/
def PIEF (X : Cx) (pins : List (Addr × Obj)) (σ : L2.St) (tg : Expr) (R : It → Hp → Prop) (itv : Value) (s2 : Shared) : Prop :=
  ∃ (it : Addr) (fp : List Addr) (tn : Nat → Heap → Prop) (J : It) (H' : Hp), itv = .ref it ∧ Inv X pins σ H' s2 ∧ Turn X.prog X.w X.K tg J fp it tn ∧ tn 0 s2.heap ∧ (∀ b ∈ fp, FpOk X pins H' b ∧ X.env.locals < b) ∧ R J H'
structure PIF (X : Cx) (tg iter : Expr) (wi : TI) : Prop where
  run : ∀ (pins : List (Addr × Obj)) (s : Shared) (σ : L2.St) (H : Hp) (R : It → Hp → Prop), Inv X pins σ H s → wi σ H R →
    wpAny (model X.prog X.w) X.A (eval iter X.env) (fun v s1 => wpAny (model X.prog X.w) X.A (pyIter v) (PIEF X pins σ tg R) X.xe s1) X.xe s
section
variable {X : Cx} {tg : Expr}
theorem pif_list {l : Expr} {tl : TE} (hl : PE X l tl) : PIF X tg l (iList X.K tl) := by
  refine ⟨fun pins s σ H R I h => ?_⟩
  refine thn (hl.run pins s σ H _ I h) fun v s1 ⟨x, H1, I1, r1, q1⟩ => ?_
  obtain ⟨a, e, ⟨xs, hq⟩, q⟩ := q1
  subst e
  cases r1
  obtain ⟨its, rv, p, hz⟩ := I1.list hq
  refine wpAny_pyIter_list p.isList ?_
  refine ⟨s1.heap.objs.size, [s1.heap.objs.size], _, _, H1, rfl, I1.kept (t' := s1.toks) fun b o e => Heap.get?_push_of_some _ e, turn_list a _, ⟨_, Heap.get?_push_size _ rfl, rfl, rfl⟩, fun b hb => ?_, q⟩
  have e : b = s1.heap.objs.size := by simpa using hb
  subst e
  exact ⟨I1.fpOk (Nat.le_refl _) (I1.hok.fresh (Nat.le_refl _)), I1.lt⟩
theorem pif_tup {l : Expr} {tl : TE} (hl : PE X l tl) : PIF X tg l (iTup X.K tl) := by
  refine ⟨fun pins s σ H R I h => ?_⟩
  refine thn (hl.run pins s σ H _ I h) fun v s1 ⟨x, H1, I1, r1, q1⟩ => ?_
  obtain ⟨a, e, ⟨xs, hq⟩, q⟩ := q1
  subst e
  cases r1
  obtain ⟨its, rv, p, hz⟩ := I1.tuple hq
  refine wpAny_pyIter_tuple (show s1.heap.IsTuple a its.toArray from p) ?_
  refine ⟨s1.heap.objs.size, [s1.heap.objs.size], _, _, H1, rfl, I1.kept (t' := s1.toks) fun b o e => Heap.get?_push_of_some _ e, turn_tuple a _, ⟨_, Heap.get?_push_size _ rfl, rfl, rfl⟩, fun b hb => ?_, q⟩
  have e : b = s1.heap.objs.size := by simpa using hb
  subst e
  exact ⟨I1.fpOk (Nat.le_refl _) (I1.hok.fresh (Nat.le_refl _)), I1.lt⟩
/-- a range object just made, walked -/
theorem range_itF {pins : List (Addr × Obj)} {σ : L2.St} {H : Hp} {s : Shared} {R : It → Hp → Prop} {E : Value → Shared → Prop} {lo hi : Int} {t u v : Tok} {tk : Nat} (I : Inv X pins σ H s) (h1 : -(2 ^ 62) ≤ lo) (h2 : lo < 2 ^ 62) (h3 : -(2 ^ 62) ≤ hi) (h4 : hi < 2 ^ 62)
    (q : R (Itr lo (hi - lo).toNat) H) : wpAny (model X.prog X.w) X.A (pyIter (.ref s.heap.objs.size)) (PIEF X pins σ tg R) E { s with heap := s.heap.push { cls := .type "range", data := .fields #[.int lo t, .int hi u, .int 1 v] }, toks := tk } := by
  refine wpAny_pyIter_range (IsRange.new ..) (small_one h1 h2 h3 h4) ?_
  have I1 : Inv X pins σ H { s with heap := s.heap.push { cls := .type "range", data := .fields #[.int lo t, .int hi u, .int 1 v] }, toks := tk } := I.kept fun b o e => Heap.get?_push_of_some _ e
  refine ⟨(s.heap.push { cls := .type "range", data := .fields #[.int lo t, .int hi u, .int 1 v] }).objs.size, [(s.heap.push { cls := .type "range", data := .fields #[.int lo t, .int hi u, .int 1 v] }).objs.size], _, _, H, rfl,
    I1.kept (t' := tk) fun b o e => Heap.get?_push_of_some _ e, turn_range _ lo (hi - lo).toNat, ?_, fun b hb => ?_, q⟩
  · have e1 : lo + ((0 : Nat) : Int) * 1 = lo := by simp
    have e2 : (((hi - lo).toNat : Nat) : Int) - ((0 : Nat) : Int) = Builtin.Range.rangeSize lo hi 1 := by rw [rangeSize_one]; split <;> omega
    show IsRangeIter _ _ (lo + ((0 : Nat) : Int) * 1) ((((hi - lo).toNat : Nat) : Int) - ((0 : Nat) : Int)) 1
    rw [e1, e2]
    exact Heap.get?_push_size _ rfl
  · have e : b = (s.heap.push { cls := .type "range", data := .fields #[.int lo t, .int hi u, .int 1 v] }).objs.size := by simpa using hb
    subst e
    exact ⟨I1.fpOk (Nat.le_refl _) (I1.hok.fresh (Nat.le_refl _)), I1.lt⟩
theorem pif_range1 {a : Expr} {ta : TA} {p pos : Pos} (hg : Gl X "range") (hm : X.mg "range" = none) (ha : PA X [a] ta) (hs : starEach [a] X.env = [(false, eval a X.env)] := by rfl) : PIF X tg (.Call (.Name "range" p) [a] [] pos) (iRng1 ta) := by
  refine ⟨fun pins s σ H R I h => ?_⟩
  refine Call_ (ld_blt I hg hm boot_range (PyProof.Rows.callWith_type1 (thn (ha.run pos pins s σ H _ I h) fun us s1 ⟨vs, H1, I1, r1, q1⟩ => ?_) hs rfl))
  obtain ⟨j, e, q1, q2, q⟩ := q1
  subst e
  cases r1 with
  | cons r rr =>
    cases rr
    obtain ⟨t, rfl⟩ := r
    exact call_range_1 (range_itF I1 (by omega) (by omega) q1 q2 (by simpa using q))
theorem pif_range2 {a b : Expr} {ta : TA} {p pos : Pos} (hg : Gl X "range") (hm : X.mg "range" = none) (ha : PA X [a, b] ta) (hs : starEach [a, b] X.env = [(false, eval a X.env), (false, eval b X.env)] := by rfl) (hs2 : starEach [b] X.env = [(false, eval b X.env)] := by rfl) :
    PIF X tg (.Call (.Name "range" p) [a, b] [] pos) (iRng2 ta) := by
  refine ⟨fun pins s σ H R I h => ?_⟩
  refine Call_ (ld_blt I hg hm boot_range (PyProof.Rows.callWith_type1 (thn (ha.run pos pins s σ H _ I h) fun us s1 ⟨vs, H1, I1, r1, q1⟩ => ?_) (by rw [hs, hs2]) (by rw [hs2]; rfl)))
  obtain ⟨i, j, e, ⟨q1, q2, q3, q4⟩, q⟩ := q1
  subst e
  cases r1 with
  | cons r rr =>
    cases rr with
    | cons r' rr =>
      cases rr
      obtain ⟨t, rfl⟩ := r
      obtain ⟨t', rfl⟩ := r'
      exact call_range_2 (range_itF I1 q1 q2 q3 q4 q)
end
section
variable {Y : Gx} {J : GJ}
/-- W: the iterator's turn, a measure, the generator's turn -/
def tQFor (wi : Shared → Hp → TI) (g : Shared → Hp → TG) (tb : TQ) : TQ := fun D i B σ H => ∀ s₀, wi s₀ B σ H fun Ji H1 => ∃ W : Nat → Nat → Nat → Hp → L2.St → Hp → Prop, (∃ m, W 0 m i B σ H1) ∧ ∀ j m i B σ H, W j m i B σ H →
  (Ji.stop j H ∧ D.nx i B σ H) ∨ (Ji.go j H ∧ ∃ N : Nat → Hp → L2.St → Hp → Prop, (∀ i' B' σ' H', N i' B' σ' H' → ∃ m', (i < i' ∨ (i = i' ∧ m' < m)) ∧ W (j + 1) m' i' B' σ' H') ∧ ∀ x H', Ji.yld j H x H' → ∀ s₀, g s₀ B x σ H' fun σ2 H2 => tb { D with nx := N, ct := N, bk := D.nx } i B σ2 H2)
theorem qs_for {tg iter : Expr} {body : List Stmt} {pos : Pos} {wi : Shared → Hp → TI} {g : Shared → Hp → TG} {tb : TQ} (hi : ∀ s₀ B, PIF (Y.cx s₀ B) tg iter (wi s₀ B)) (hg : ∀ s₀ B, PG (Y.cx s₀ B) tg (g s₀ B)) (hb : QSs Y J body tb)
    (hs : ∀ x, foldedSetIterable iter Y.env x = pure x := by intro _; rfl) : QS Y J (.For tg iter body [] pos) (tQFor wi g tb) := by
  constructor
  intro C a go T A ps n i B s₀ c fs K Jx gd lv s σ H D q am k hI ht
  refine seg_For ?_ hs
  rw [q.over]
  refine wpAny_mono ((hi s₀ B).run ps s σ H _ hI (ht s₀)) (fun v s1 h1 => wpAny_mono h1 (fun itv s2 h2 => ?_) fun _ _ z => z.elim) fun _ _ z => z.elim
  obtain ⟨it, fp, tn, Ji, H2, e, I2, TT, st2, f2, W, ⟨m0, w0⟩, turn⟩ := h2
  subst e
  intro p
  have stat : ∀ {H' : Hp} (s' : Shared) (B' : Hp), (∀ b ∈ fp, H' b = none) → ∀ b ∈ fp, FpOk (Y.cx s' B') ps H' b := fun {H'} s' B' hn b hb' =>
    ⟨hn b hb', (f2 b hb').1.2.1, (f2 b hb').1.2.2.1, .inr (Nat.le_trans under0_size (Nat.le_of_lt (f2 b hb').2)), fun x c e => absurd e (q.fast.cells x c), (f2 b hb').1.2.2.2.2.2⟩
  have loop : ∀ (n m j i : Nat) (B : Hp) (s₀ s : Shared) (σ : L2.St) (H : Hp), Amid Y J C T n i B s₀ → W j m i B σ H → Inv (Y.cx s₀ B) ps σ H s → tn j s.heap → (∀ b ∈ fp, H b = none) →
      Seg (model Y.P Y.w) A (GRp Y J C a go) (GYp Y J C a go) n s₀ (.forLoop tg (.ref it) body [] Y.env) ((model Y.P Y.w).den (.forLoop tg (.ref it) body [] Y.env))
        (.ret (fun r => ((match r with | .ok f => (.pure f : Sem Flow) | .error e => .raise e).onRaise (cameBack Y.env)).wrap K Jx gd lv) none (gd false) (lv []) c p [] :: fs) s := by
    intro n
    induction n using Nat.strongRecOn with
    | ind n ihn =>
      intro m
      induction m using Nat.strongRecOn with
      | ind m ihm =>
        intro j i B s₀ s σ H am w hI st fr
        have gl := QC.loop (k := fun r => ((match r with | .ok f => (.pure f : Sem Flow) | .error e => .raise e).onRaise (cameBack Y.env)).wrap K Jx gd lv) (c' := .forLoop tg (.ref it) body [] Y.env) (l := lv []) (kp := []) (p := p) q rfl rfl
        apply seg_forLoop
        rw [gl.over]
        rcases turn j m i B σ H w with ⟨stop, qn⟩ | ⟨go', N, hN, step⟩
        · refine wpAny_mono (TT.done (Y.cx s₀ B) rfl rfl rfl rfl j ps s σ H (fun _ _ => False) hI (stat s₀ B fr) st stop) (fun r s4 h4 => ?_) fun _ _ z => z.elim
          obtain ⟨hr, I4⟩ := h4
          subst hr
          exact seg_leaf (.ok .next) (k.ok n i B s₀ s4 .next am ⟨σ, H, I4, qn⟩)
        · refine wpAny_mono (TT.item (Y.cx s₀ B) rfl rfl rfl rfl j ps s σ H (fun _ _ => False) hI (stat s₀ B fr) st go') (fun r s4 h4 => ?_) fun _ _ z => z.elim
          obtain ⟨u, hr, h4⟩ := h4
          subst hr
          refine wpAny_mono h4 (fun _ s5 h5 => ?_) fun _ _ z => z.elim
          obtain ⟨x, H5, I5, r5, y5, st5, fr5⟩ := h5
          have I5' := I5.pinned (stat s₀ B fr5) (TT.obj _ _ st5)
          refine wpAny_mono ((hg s₀ B).run _ s5 σ H5 x u _ I5' r5 (step x H5 y5 s₀)) (fun _ s6 h6 => ?_) fun _ _ z => z.elim
          obtain ⟨σ6, H6, I6, q6⟩ := h6
          have gl2 : QC Y a go (ps ++ pinsAt fp s5.heap) A (.forLoop tg (.ref it) body [] Y.env) _ id := ⟨gl.fast, List.mem_append_left _ gl.mine, fun x hx => (List.mem_append.mp hx).elim (gl.own x) fun z => by
            obtain ⟨z1, z2⟩ := of_pinsAt z
            obtain ⟨o, e', d⟩ := TT.obj _ _ st5 x.1 z1
            rw [z2] at e'
            cases e'
            exact ⟨(f2 x.1 z1).2, d⟩, gl.over, gl.split, gl.guard, gl.gd⟩
          refine hb.run C a go T A (ps ++ pinsAt fp s5.heap) n i B s₀ _ _ _ _ id id s6 σ6 H6 { D with nx := N, ct := N, bk := D.nx } gl2 am ⟨fun n' i' B' s₀' s7 f am' h7 => ?_⟩ I6 q6
          have more : ∀ {σ7 : L2.St} {H7 : Hp}, Inv (Y.cx s₀' B') (ps ++ pinsAt fp s5.heap) σ7 H7 s7 → N i' B' σ7 H7 → Seg (model Y.P Y.w) A (GRp Y J C a go) (GYp Y J C a go) n' s₀' (.forLoop tg (.ref it) body [] Y.env) (.pure (.again (.forLoop tg (.ref it) body [] Y.env)))
              (.ret (fun r => ((match r with | .ok f => (.pure f : Sem Flow) | .error e => .raise e).onRaise (cameBack Y.env)).wrap K Jx gd lv) none (gd false) (lv []) c p [] :: fs) s7 := fun {σ7 H7} I7 n7 => by
            obtain ⟨m', hm, w7⟩ := hN i' B' σ7 H7 n7
            have h1 := am.sum
            have h2 := am'.sum
            have st7 : tn (j + 1) s7.heap := TT.keep _ _ _ st5 fun b hb o e => (I7.pin (b, o) (List.mem_append_right _ (List.mem_append_right _ (mem_pinsAt hb e)))).1
            have fr7 : ∀ b ∈ fp, H7 b = none := fun b hb => by
              obtain ⟨o, e, d⟩ := TT.obj _ _ st5 b hb
              exact (I7.pin (b, o) (List.mem_append_right _ (List.mem_append_right _ (mem_pinsAt hb e)))).2.1
            refine seg_again rfl ?_
            rcases hm with hm | ⟨hi, hm⟩
            · exact ihn n' (by omega) m' (j + 1) i' B' s₀' s7 σ7 H7 am' w7 I7.unpinned st7 fr7
            · have en : n' = n := by omega
              subst en
              exact ihm m' hm (j + 1) i' B' s₀' s7 σ7 H7 am' w7 I7.unpinned st7 fr7
          cases f with
          | next => obtain ⟨σ7, H7, I7, n7⟩ := h7; exact more I7 n7
          | cont => obtain ⟨σ7, H7, I7, n7⟩ := h7; exact more I7 n7
          | brk =>
            obtain ⟨σ7, H7, I7, q7⟩ := h7
            exact seg_leaf (.ok .next) (k.ok n' i' B' s₀' s7 .next am' ⟨σ7, H7, I7.unpinned, q7⟩)
          | ret v =>
            obtain ⟨x7, σ7, H7, I7, r7, q7⟩ := h7
            exact seg_leaf (.ok (.ret v)) (k.ok n' i' B' s₀' s7 (.ret v) am' ⟨x7, σ7, H7, I7.unpinned, r7, q7⟩)
  exact loop n m0 0 i B s₀ s2 σ H2 am w0 I2 st2 fun b hb => (f2 b hb).1.1
end
end TF

/-! columns of digits: joins and meets place by place; core Lean alone -/
namespace TM
def bit (n j : Nat) : Nat := n / 2 ^ j % 2
theorem bit_lt (n j : Nat) : bit n j < 2 := Nat.mod_lt _ (by decide)
theorem digs2_get : ∀ (j n : Nat), (digs 2 n)[j]?.getD 0 = bit n j
  | j, 0 => by
    rw [digs_zero]
    unfold bit
    rw [Nat.zero_div]
    rfl
  | 0, n + 1 => by
    rw [digs_pos (by omega) (by omega)]
    show (n + 1) % 2 = (n + 1) / 2 ^ 0 % 2
    rw [Nat.pow_zero, Nat.div_one]
  | j + 1, n + 1 => by
    rw [digs_pos (by omega) (by omega)]
    show (digs 2 ((n + 1) / 2))[j]?.getD 0 = _
    rw [digs2_get j ((n + 1) / 2)]
    unfold bit
    rw [Nat.div_div_eq_div_mul, Nat.pow_succ, Nat.mul_comm 2]
theorem lt_len (n : Nat) : n < 2 ^ (digs 2 n).length := by
  have go : ∀ l : List Nat, (∀ d ∈ l, d < 2) → rd 2 l < 2 ^ l.length := by
    intro l
    induction l with
    | nil => intro _; show 0 < 1; omega
    | cons d l ih =>
      intro h
      have h1 := h d List.mem_cons_self
      have h2 := ih fun x hx => h x (List.mem_cons_of_mem _ hx)
      show d + 2 * rd 2 l < 2 ^ (l.length + 1)
      rw [Nat.pow_succ]
      omega
  have h := go _ (bits_lt n)
  rwa [rd_digs (by omega) n n (Nat.le_refl _)] at h
theorem rd_range (f : Nat → Nat) : ∀ L, rd 3 ((List.range L).map f) = sm L fun j => 3 ^ j * f j
  | 0 => rfl
  | L + 1 => by
    rw [List.range_succ, List.map_append, rd_append, rd_range f L, List.length_map, List.length_range]
    show _ + 3 ^ L * (f L + 3 * 0) = sm L _ + 3 ^ L * f L
    rw [Nat.mul_zero, Nat.add_zero]
theorem bit_test (n j : Nat) : bit n j = (n.testBit j).toNat := by
  unfold bit
  rw [Nat.testBit_eq_decide_div_mod_eq]
  have := Nat.mod_lt (n / 2 ^ j) (by decide : 0 < 2)
  by_cases h : n / 2 ^ j % 2 = 1
  · rw [decide_eq_true h, h]; rfl
  · rw [decide_eq_false h]
    show n / 2 ^ j % 2 = 0
    omega
theorem bit_or (a b j : Nat) : bit (a ||| b) j = max (bit a j) (bit b j) := by
  rw [bit_test, bit_test, bit_test, Nat.testBit_or]
  cases a.testBit j <;> cases b.testBit j <;> rfl
theorem bit_and (a b j : Nat) : bit (a &&& b) j = min (bit a j) (bit b j) := by
  rw [bit_test, bit_test, bit_test, Nat.testBit_and]
  cases a.testBit j <;> cases b.testBit j <;> rfl
theorem fold_or (j : Nat) : ∀ (ns : List Nat) (a : Nat), bit (ns.foldl (fun a b => a ||| b) a) j = (ns.map fun n => bit n j).foldl max (bit a j)
  | [], _ => rfl
  | n :: ns, a => by
    show bit (ns.foldl (fun a b => a ||| b) (a ||| n)) j = (ns.map fun n => bit n j).foldl max (max (bit a j) (bit n j))
    rw [fold_or j ns, bit_or]
theorem fold_and (j : Nat) : ∀ (ns : List Nat) (a : Nat), bit (ns.foldl (fun a b => a &&& b) a) j = (ns.map fun n => bit n j).foldl min (bit a j)
  | [], _ => rfl
  | n :: ns, a => by
    show bit (ns.foldl (fun a b => a &&& b) (a &&& n)) j = (ns.map fun n => bit n j).foldl min (min (bit a j) (bit n j))
    rw [fold_and j ns, bit_and]
theorem max_is : ∀ (l : List Nat) (a m : Nat), (m ∈ l ∨ m = a) → a ≤ m → (∀ x ∈ l, x ≤ m) → l.foldl max a = m
  | [], a, m, h, _, _ => by
    rcases h with h | h
    · cases h
    · exact h.symm
  | x :: l, a, m, h, ha, hl => by
    have hx := hl x List.mem_cons_self
    refine max_is l (max a x) m ?_ (by omega) fun y hy => hl y (List.mem_cons_of_mem _ hy)
    rcases h with h | h
    · rcases List.mem_cons.mp h with e | e
      · exact .inr (by omega)
      · exact .inl e
    · exact .inr (by omega)
theorem min_is : ∀ (l : List Nat) (a m : Nat), (m ∈ l ∨ m = a) → m ≤ a → (∀ x ∈ l, m ≤ x) → l.foldl min a = m
  | [], a, m, h, _, _ => by
    rcases h with h | h
    · cases h
    · exact h.symm
  | x :: l, a, m, h, ha, hl => by
    have hx := hl x List.mem_cons_self
    refine min_is l (min a x) m ?_ (by omega) fun y hy => hl y (List.mem_cons_of_mem _ hy)
    rcases h with h | h
    · rcases List.mem_cons.mp h with e | e
      · exact .inr (by omega)
      · exact .inl e
    · exact .inr (by omega)
/-- the join's and the meet's number -/
def orL (ns : List Nat) : Nat := ns.foldl (fun a b => a ||| b) 0
def andL (m : Nat) (ns : List Nat) : Nat := (m :: ns).foldl (fun a b => a &&& b) m
theorem bit_zero (j : Nat) : bit 0 j = 0 := by unfold bit; rw [Nat.zero_div]
theorem col_max {ns : List Nat} {j m : Nat} (h : m ∈ ns.map fun n => bit n j) (hl : ∀ x ∈ ns.map fun n => bit n j, x ≤ m) : m = bit (orL ns) j := by
  unfold orL
  rw [fold_or, bit_zero]
  exact (max_is _ 0 m (.inl h) (Nat.zero_le _) hl).symm
theorem col_min {k : Nat} {ns : List Nat} {j m : Nat} (h : m ∈ (k :: ns).map fun n => bit n j) (hl : ∀ x ∈ (k :: ns).map fun n => bit n j, m ≤ x) : m = bit (andL k ns) j := by
  unfold andL
  rw [fold_and]
  exact (min_is _ _ m (.inl h) (hl _ List.mem_cons_self) hl).symm
theorem read_col {n L : Nat} (h : n < 2 ^ L) : rd 3 ((List.range L).map fun j => bit n j) = B n := by
  rw [rd_range]
  exact sm_bits L n h
theorem orL_lt {ns : List Nat} {L : Nat} (h : ∀ n ∈ ns, n < 2 ^ L) : orL ns < 2 ^ L := by
  have go : ∀ (ns : List Nat) (a : Nat), a < 2 ^ L → (∀ n ∈ ns, n < 2 ^ L) → ns.foldl (fun a b => a ||| b) a < 2 ^ L := by
    intro ns
    induction ns with
    | nil => intro a h _; exact h
    | cons n ns ih => intro a h hn; exact ih (a ||| n) (Nat.or_lt_two_pow h (hn n List.mem_cons_self)) fun x hx => hn x (List.mem_cons_of_mem _ hx)
  exact go ns 0 (Nat.two_pow_pos _) h
theorem andL_le (m : Nat) (ns : List Nat) : andL m ns ≤ m := by
  have go : ∀ (ns : List Nat) (a : Nat), ns.foldl (fun a b => a &&& b) a ≤ a := by
    intro ns
    induction ns with
    | nil => intro a; exact Nat.le_refl _
    | cons n ns ih => intro a; exact Nat.le_trans (ih (a &&& n)) Nat.and_le_left
  exact go _ _
theorem rd_lt3 : ∀ l : List Nat, (∀ d ∈ l, d < 3) → rd 3 l < 3 ^ l.length
  | [], _ => by show 0 < 1; omega
  | d :: l, h => by
    have h1 := h d List.mem_cons_self
    have h2 := rd_lt3 l fun x hx => h x (List.mem_cons_of_mem _ hx)
    show d + 3 * rd 3 l < 3 ^ (l.length + 1)
    rw [Nat.pow_succ]
    omega
theorem rd_drop3 {l : List Nat} {i d : Nat} (h : l[i]? = some d) : rd 3 (l.drop i) = d + 3 * rd 3 (l.drop (i + 1)) := by
  obtain ⟨hi, rfl⟩ := List.getElem?_eq_some_iff.mp h
  rw [List.drop_eq_getElem_cons hi]
  rfl
end TM

/-! differences by digits: core Lean alone -/
namespace TM
/-- 1, 4, 13, ..: the number whose s digits are all 1 -/
def hs : Nat → Nat
  | 0 => 0
  | s + 1 => 1 + 3 * hs s
theorem hs_pow : ∀ s, 2 * hs s + 1 = 3 ^ s
  | 0 => rfl
  | s + 1 => by
    show 2 * (1 + 3 * hs s) + 1 = 3 ^ (s + 1)
    have := hs_pow s
    rw [Nat.pow_succ]
    omega
theorem rd_ones : ∀ s, rd 3 (List.replicate s 1) = hs s
  | 0 => rfl
  | s + 1 => by
    rw [List.replicate_succ]
    show 1 + 3 * rd 3 (List.replicate s 1) = 1 + 3 * hs s
    rw [rd_ones s]
def tw (d : Nat) : Nat := if d = 2 then 1 else 0
def tz (d : Nat) : Nat := if d = 0 then 1 else 0
theorem dx_all (d : Int) : dx d = (if d % 3 = 1 then 1 else 0) + 3 * dx ((d + 1) / 3) := by
  by_cases h : d = 0
  · subst h; rfl
  · exact dx_step h
theorem dy_all (d : Int) : dy d = (if d % 3 = 2 then 1 else 0) + 3 * dy ((d + 1) / 3) := by
  by_cases h : d = 0
  · subst h; rfl
  · exact dy_step h
theorem diff_digits : ∀ (s : Nat) (d : Int), d.natAbs ≤ hs s → rd 3 ((pad s (d + hs s).toNat).map tw) = dx d ∧ rd 3 ((pad s (d + hs s).toNat).map tz) = dy d
  | 0, d, h => by
    have e : d = 0 := by
      have : d.natAbs ≤ 0 := h
      omega
    subst e
    exact ⟨rfl, rfl⟩
  | s + 1, d, h => by
    have h' : d.natAbs ≤ 1 + 3 * hs s := h
    have e : ((hs (s + 1) : Nat) : Int) = 1 + 3 * (hs s : Int) := by
      show ((1 + 3 * hs s : Nat) : Int) = _
      omega
    have hq : ((d + 1) / 3).natAbs ≤ hs s := by omega
    obtain ⟨i1, i2⟩ := diff_digits s ((d + 1) / 3) hq
    have ev : (d + hs (s + 1)).toNat / 3 = ((d + 1) / 3 + hs s).toNat := by rw [e]; omega
    have em : (d + hs (s + 1)).toNat % 3 = ((d + 1) % 3).toNat := by rw [e]; omega
    show rd 3 (((d + hs (s + 1)).toNat % 3 :: pad s ((d + hs (s + 1)).toNat / 3)).map tw) = _ ∧ rd 3 (((d + hs (s + 1)).toNat % 3 :: pad s ((d + hs (s + 1)).toNat / 3)).map tz) = _
    rw [ev, em, List.map_cons, List.map_cons, dx_all, dy_all]
    show tw ((d + 1) % 3).toNat + 3 * rd 3 _ = _ ∧ tz ((d + 1) % 3).toNat + 3 * rd 3 _ = _
    rw [i1, i2]
    unfold tw tz
    constructor
    · congr 1
      by_cases h1 : d % 3 = 1
      · rw [if_pos (by omega), if_pos h1]
      · rw [if_neg (by omega), if_neg h1]
    · congr 1
      by_cases h1 : d % 3 = 2
      · rw [if_pos (by omega), if_pos h1]
      · rw [if_neg (by omega), if_neg h1]
theorem pad_digs : ∀ (s v : Nat), v < 3 ^ s → pad s v = digs 3 v ++ List.replicate (s - (digs 3 v).length) 0 ∧ (digs 3 v).length ≤ s
  | 0, v, h => by
    have e : v = 0 := by
      have : v < 1 := h
      omega
    subst e
    exact ⟨rfl, Nat.le_refl _⟩
  | s + 1, v, h => by
    by_cases h0 : v = 0
    · subst h0
      have z : ∀ s, pad s 0 = List.replicate s 0 := by
        intro s
        induction s with
        | zero => rfl
        | succ s ih => show 0 % 3 :: pad s (0 / 3) = _; rw [List.replicate_succ]; exact congrArg (0 :: ·) ih
      rw [z, digs_zero]
      exact ⟨rfl, Nat.zero_le _⟩
    · have hv : v / 3 < 3 ^ s := by
        rw [Nat.pow_succ] at h
        omega
      obtain ⟨i1, i2⟩ := pad_digs s (v / 3) hv
      rw [digs_pos (by omega) (by omega)]
      show v % 3 :: pad s (v / 3) = _ ∧ _
      rw [i1, List.length_cons]
      refine ⟨?_, by omega⟩
      rw [show s + 1 - ((digs 3 (v / 3)).length + 1) = s - (digs 3 (v / 3)).length by omega]
      rfl
theorem lt_len3 (n : Nat) : n < 3 ^ (digs 3 n).length := by
  have h := rd_lt3 _ (digs_lt3 n)
  rwa [rd_digs (by omega) n n (Nat.le_refl _)] at h
theorem cs_rep (k d : Nat) : cs (List.replicate k d) = List.replicate k (d + 48) := by
  unfold cs
  rw [List.reverse_replicate, List.map_replicate]
theorem cs_map (f g : Nat → Nat) (ds : List Nat) (h : ∀ d ∈ ds, g (d + 48) = f d + 48) : (cs ds).map g = cs (ds.map f) := by
  unfold cs
  rw [List.map_map, ← List.map_reverse, List.map_map]
  refine List.map_congr_left fun d hd => ?_
  exact h d (List.mem_reverse.mp hd)
theorem diff_size (d : Int) : d.natAbs ≤ hs ((digs 3 d.natAbs).length + 1) := by
  have h1 := lt_len3 d.natAbs
  have h2 := hs_pow (digs 3 d.natAbs).length
  show d.natAbs ≤ 1 + 3 * hs _
  omega
end TM

namespace TM
/-! the most significant digit 2 -/
theorem last_two : ∀ l : List Nat, 2 ∈ l → ∃ lo hi, l = lo ++ 2 :: hi ∧ 2 ∉ hi
  | [], h => by cases h
  | x :: l, h => by
    by_cases z : 2 ∈ l
    · obtain ⟨lo, hi, e, hn⟩ := last_two l z
      exact ⟨x :: lo, hi, by rw [e]; rfl, hn⟩
    · rcases List.mem_cons.mp h with e | e
      · subst e; exact ⟨[], l, rfl, z⟩
      · exact absurd e z
theorem rd_zeros (r : Nat) : ∀ k, rd r (List.replicate k 0) = 0
  | 0 => rfl
  | k + 1 => by
    show 0 + r * rd r (List.replicate k 0) = 0
    rw [rd_zeros r k]; omega
theorem rd_lt_pow : ∀ l : List Nat, (∀ d ∈ l, d < 3) → rd 3 l < 3 ^ l.length
  | [], _ => Nat.one_pos
  | d :: l, h => by
    have ih := rd_lt_pow l fun x hx => h x (List.mem_cons_of_mem _ hx)
    have hd := h d List.mem_cons_self
    rw [List.length_cons, Nat.pow_succ]
    show d + 3 * rd 3 l < _
    omega
/-- a number that is not plain: low digits, a 2, plain ones above -/
structure Two (n : Nat) (lo hi : List Nat) : Prop where
  digs : digs 3 n = lo ++ 2 :: hi
  lo3 : ∀ d ∈ lo, d < 3
  hi2 : ∀ d ∈ hi, d < 2
  val : n = rd 3 lo + 3 ^ lo.length * (2 + 3 * rd 3 hi)
  plain : plain (rd 3 hi)
  bits : rd 2 hi = R (rd 3 hi)
theorem two_of {n : Nat} (h : ¬ plain n) : ∃ lo hi, Two n lo hi := by
  have h2 : 2 ∈ TM.digs 3 n := Classical.byContradiction fun z => h z
  obtain ⟨lo, hi, e, hn⟩ := last_two _ h2
  have d3 := digs_lt3 n
  have hi2 : ∀ d ∈ hi, d < 2 := fun d hd => by
    have h3 := d3 d (by rw [e]; exact List.mem_append_right _ (List.mem_cons_of_mem _ hd))
    have : d ≠ 2 := fun z => hn (z ▸ hd)
    omega
  obtain ⟨k, hk⟩ := digs_rd (r := 3) (by decide) hi fun d hd => Nat.lt_of_lt_of_le (hi2 d hd) (by decide)
  have hp : TM.plain (rd 3 hi) := fun z => hn (by rw [hk]; exact List.mem_append_left _ z)
  refine ⟨lo, hi, e, fun d hd => d3 d (by rw [e]; exact List.mem_append_left _ hd), hi2, ?_, hp, ?_⟩
  · have v := rd_digs (r := 3) (by decide) n n (Nat.le_refl _)
    rw [e, rd_append] at v
    exact v.symm
  · have b := rd_bits _ hp
    have q := congrArg (rd 2) hk
    rw [rd_append, rd_zeros, b] at q
    omega
theorem Two.rank {n : Nat} {lo hi : List Nat} (t : Two n lo hi) : R n = (rd 2 hi + 1) * 2 ^ (lo.length + 1) := by
  have h := (R_two t.plain lo.length (rd 3 lo) (rd_lt_pow lo t.lo3)).1
  rw [← t.val] at h
  rw [h, t.bits]
theorem rd_rep1 : ∀ p, 2 * rd 3 (List.replicate p 1) + 1 = 3 ^ p
  | 0 => rfl
  | p + 1 => by
    have ih := rd_rep1 p
    rw [Nat.pow_succ]
    show 2 * (1 + 3 * rd 3 (List.replicate p 1)) + 1 = _
    omega
theorem B_shift (p : Nat) : ∀ m, B (m * 2 ^ p) = 3 ^ p * B m := by
  induction p with
  | zero => intro m; simp
  | succ p ih =>
    intro m
    rw [Nat.pow_succ, ← Nat.mul_assoc, Nat.mul_comm _ 2, B_even, ih, Nat.pow_succ]
    rw [← Nat.mul_assoc, Nat.mul_comm 3]
theorem B_low (p : Nat) : ∀ (m x : Nat), x < 2 ^ p → B (m * 2 ^ p + x) = 3 ^ p * B m + B x := by
  induction p with
  | zero => intro m x h; have : x = 0 := by omega
            subst this; simp [B_zero]
  | succ p ih =>
    intro m x h
    have hx : x = x % 2 + 2 * (x / 2) := by omega
    have h2 : x / 2 < 2 ^ p := by rw [Nat.pow_succ] at h; omega
    have e : m * 2 ^ (p + 1) + x = x % 2 + 2 * (m * 2 ^ p + x / 2) := by
      rw [Nat.pow_succ, ← Nat.mul_assoc]; omega
    rw [e, B_step (by omega), ih m (x / 2) h2]
    have hb : B x = x % 2 + 3 * B (x / 2) := by
      have := B_step (b := x % 2) (n := x / 2) (by omega)
      rw [← hx] at this; exact this
    rw [hb, Nat.pow_succ, Nat.mul_add, ← Nat.mul_assoc, Nat.mul_comm 3 (3 ^ p)]
    omega
/-- the member before -/
theorem Two.last {n : Nat} {lo hi : List Nat} (t : Two n lo hi) : rd 3 (List.replicate (lo.length + 1) 1 ++ hi) = B (R n - 1) := by
  rw [t.rank, rd_append, List.length_replicate, t.bits]
  have hp : 0 < 2 ^ (lo.length + 1) := Nat.two_pow_pos _
  rw [show (R (rd 3 hi) + 1) * 2 ^ (lo.length + 1) - 1 = R (rd 3 hi) * 2 ^ (lo.length + 1) + (2 ^ (lo.length + 1) - 1) by
    rw [Nat.add_mul]; omega]
  rw [B_low _ _ _ (by omega)]
  have h1 := rd_rep1 (lo.length + 1)
  have h2 := B_full (lo.length + 1)
  obtain ⟨r, hr⟩ := plain_B _ t.plain
  have h3 : B (R (rd 3 hi)) = rd 3 hi := by rw [← hr, R_B]
  rw [h3]
  omega
end TM

namespace SX
open PySem PySem.Builtin PySem.Builtin.Str
theorem sub_S (l : List Nat) (i j : Nat) : strSub (S l) i j = S ((l.drop i).take (j - i)) := by
  refine PySem.Str.ext' (Array.toList_inj.mp ?_)
  rw [StrLaws.strSub_toList]
theorem part_some {a b : List Nat} {c : Nat} (h : c ∉ a) : Txt.partition (S (a ++ c :: b)) (S [c]) = (S a, S [c], S b) := by
  unfold Txt.partition
  have hc : (a ++ c :: b)[a.length]? = some c := by rw [List.getElem?_append_right (Nat.le_refl _), Nat.sub_self]; rfl
  rcases StrLaws.occ_head (S (a ++ c :: b)) (S [c]) 1 (Nat.le_refl 1) with ⟨h0, hn⟩ | ⟨i, r, h0, hi, hn⟩
  · exact absurd ((StrLaws.subAt_one (S (a ++ c :: b)) c a.length).mpr hc) (hn _)
  · have hm : (a ++ c :: b)[i]? = some c := (StrLaws.subAt_one (S (a ++ c :: b)) c i).mp hi
    have ei : i = a.length := by
      rcases Nat.lt_trichotomy i a.length with z | z | z
      · rw [List.getElem?_append_left z] at hm
        exact absurd (List.mem_of_getElem? hm) h
      · exact z
      · exact absurd ((StrLaws.subAt_one (S (a ++ c :: b)) c a.length).mpr hc) (hn _ z)
    subst ei
    rw [h0]
    show (strSub (S (a ++ c :: b)) 0 a.length, S [c], strSub (S (a ++ c :: b)) (a.length + (S [c]).length) (S (a ++ c :: b)).length) = _
    rw [sub_S, sub_S, S_len, S_len]
    simp
    exact List.take_of_length_le (by omega)
end SX

set_option maxHeartbeats 6400000
namespace L2
open PySem PySem.Spec PyProof.Rows
/-! ### set(a list of numbers) -/
/-- the empty set as it is made -/
abbrev set0 (w : World) : Obj := { cls := .type "set", dict := none, data := .set #[] 0 (.fresh 0 0 (!w.params.followText "set-order")) }
theorem set_of_list {P : Program} {w : World} {A : Around} {E : Value → Shared → Prop} {s : Shared} {l : Addr} {zs : Array Value} (ns : List Int) {Q : Value → Shared → Prop} (hA : A.handled = none) (hl : s.heap.IsList l zs) (hz : IntsAre zs.toList ns) (few : ns.length + 1 < scanBound)
    (h : ∀ (h2 : Heap) (tk c : Nat), SetR w h2 s.heap.objs.size (fun j => decide (j ∈ ns)) c → c ≤ ns.length → (∀ b o, s.heap.get? b = some o → h2.get? b = some o) → Q (.ref s.heap.objs.size) { s with heap := h2, toks := tk }) :
    wpAny (model P w) A (call (.type "set") [.ref l]) Q E s := by
  have size : zs.size = ns.length := by
    have y := IntsAre.length hz
    rw [Array.length_toList] at y
    exact y
  obtain ⟨cc, tl, hmro⟩ := F.called_set.mro
  have hmade := F.called_set.made
  have hsub := F.called_set.sub
  refine wpAny_call (codeAny_of_tree ?_)
  show wpAny _ _ (callAny (.type "set") _) _ _ _
  refine wpAny_pure ⟨Code.quiet_builtin _ (by decide +kernel), codeAny_builtin F.entry_type_call ?_⟩
  rw [Around.under_plain (weight_type_call_type "set" [.ref l] []) rfl]
  have u1 := F.called_set.notType
  have u2 := F.called_set.canCreate
  have u3 := F.typeCall_set_1 (.ref l)
  repeat (any_goals (first | assumption | wp_step))
  refine codeAny_mono (code_set_led1 (.ref l) (E := E) (Q₁ := fun x t => x = .ref s.heap.objs.size ∧ t = { s with heap := s.heap.push (set0 w) }) ⟨rfl, rfl⟩) fun r t hr => ?_
  rcases r with e | fl
  · exact hr
  cases fl with
  | next => exact hr.elim
  | brk => exact hr.elim
  | cont => exact hr.elim
  | ret x =>
    obtain ⟨rfl, rfl⟩ := hr
    have g0 : (s.heap.push (set0 w)).get? s.heap.objs.size = some (set0 w) := Heap.get?_push_size _ rfl
    have ty : Shared.TypeIs { s with heap := s.heap.push (set0 w) } (.ref s.heap.objs.size) "set" := ⟨_, g0, rfl⟩
    have hli := F.called_set.init.lookup
    have hbi := F.called_set.init.bind (.ref s.heap.objs.size)
    repeat (any_goals (first | assumption | wp_step))
    refine codeAny_mono (codeAny_call_builtin (R := wants (fun r t2 => r = .none ∧ ∃ h2 tk c, t2 = { s with heap := h2, toks := tk } ∧ SetR w h2 s.heap.objs.size (fun j => decide (j ∈ ns)) c ∧ c ≤ ns.length ∧ (∀ b o, s.heap.get? b = some o → h2.get? b = some o)) E)
      F.called_set.init.plain F.entry_set_init (check_set_init_1 ty ?_)) fun r2 t2 hr2 => ?_
    · obtain ⟨⟨oc, od, ob, osl⟩, hol, hcl, nl, hdl⟩ := hl
      replace hcl : oc = .type "list" := hcl
      replace hdl : ob = .seq zs nl := hdl
      subst hcl hdl
      have lt : l < s.heap.objs.size := Heap.lt_size hol
      have hol2 : (s.heap.push (set0 w)).get? l = some { cls := .type "list", dict := od, data := .seq zs nl, slots := osl } := Heap.get?_push_of_some _ hol
      have v1 := F.sub_list_set
      have v2 := F.sub_list_frozenset
      have v3 : (Value.type "list" == Value.type "dict") = false := by decide
      have il : (s.heap.push (set0 w)).IsList l zs := ⟨_, hol2, rfl, nl, rfl⟩
      unfold Builtin.«set.__init__» noKeywords Builtin.Frozenset.updateFrom
      generalize eP : pyIter = PI
      wp_walk
      subst eP
      refine wpAny_pyIter_list il ?_
      refine wpAny_bind (wpAny_runValue ?_)
      have hA3 : A.in1.in1.in1.handled = none := by simp [hA]
      have n1 : l ≠ (s.heap.push (set0 w)).objs.size := by
        rw [Heap.size_push]
        exact Nat.ne_of_lt (Nat.lt_succ_of_lt lt)
      have n2 : s.heap.objs.size ∉ [(s.heap.push (set0 w)).objs.size, l] := by
        rw [Heap.size_push]
        intro y
        rcases List.mem_cons.mp y with y | y
        · exact absurd y (Nat.ne_of_lt (Nat.lt_succ_self _))
        · exact absurd (List.mem_singleton.mp y) (Nat.ne_of_gt lt)
      have vals : ∀ (i : Nat) (v : Value), zs[i]? = some v → ∃ k t, ns[i]? = some k ∧ v = .int k t := by
        intro i v hv
        have hi : i < ns.length := by
          rw [← size]
          exact (Array.getElem?_eq_some_iff.mp hv).1
        obtain ⟨t, e⟩ := IntsAre.int_at hz i v (by rw [Array.getElem?_toList]; exact hv)
        refine ⟨ns[i], t, List.getElem?_eq_getElem hi, ?_⟩
        rw [e, List.getD_eq_getElem?_getD, List.getElem?_eq_getElem hi]
        rfl
      refine set_update_ints ((Walks.list hA3 _ l n1 zs).toS) s.heap.objs.size n2 ns size few vals (zs.size - 0) 0 _ (by omega) (Nat.zero_le _) ⟨⟨_, Heap.get?_push_size _ rfl, rfl, rfl⟩, (il.push _)⟩ ⟨0, Nat.le_refl 0, setR_new_at (Heap.get?_push_of_some _ g0)⟩ ?_
      intro t3 c3 mv hc hS
      obtain ⟨h2, g2, d2, tk2, os2⟩ := t3
      obtain rfl : g2 = s.gens := mv.gens
      obtain rfl : d2 = s.drawn := mv.drawn
      obtain rfl : os2 = s.os := mv.os
      show wpAny _ _ _ _ _ _
      refine wpAny_pure ?_
      show wpAny _ _ (ret Value.none) _ _ _
      refine wpAny_pure ⟨rfl, h2, tk2, c3, rfl, hS, by rw [← size]; exact hc, fun b o e => ?_⟩
      have lb : b < s.heap.objs.size := Heap.lt_size e
      refine mv.heap b o ?_ (Heap.get?_push_of_some _ (Heap.get?_push_of_some _ e))
      rw [Heap.size_push]
      intro y
      rcases List.mem_cons.mp y with y | y
      · exact absurd y (Nat.ne_of_lt lb)
      · exact absurd (List.mem_singleton.mp y) (Nat.ne_of_lt (Nat.lt_succ_of_lt lb))
    · rcases r2 with e | fl2
      · exact hr2
      cases fl2 with
      | next => exact hr2.elim
      | brk => exact hr2.elim
      | cont => exact hr2.elim
      | ret r =>
        obtain ⟨rfl, h2, tk, c3, rfl, hS, hc, hk⟩ := hr2
        repeat (any_goals (first | assumption | wp_step))
        exact h _ _ _ hS hc hk
end L2

namespace L2
open PySem PySem.Spec PyProof.Rows
def rSetLI (K : PySem.W.Frag) (w : World) : List V → Hp → VK → Prop := fun xs H Q => ∃ (l : Addr) (ns : List Int), xs = [V.ref l] ∧ SqL K H l (ns.map V.int) ∧ ns.length < 64 ∧
  ∀ (a : Addr) (c : Nat), H a = none → c ≤ ns.length → Q (.ref a) (upd H a (SetO w a (fun j => decide (j ∈ ns)) c))
theorem ints_are : ∀ {ns : List Int} {us : List Value}, Vals (ns.map V.int) us → IntsAre us ns
  | [], _, .nil => .nil
  | n :: ns, _, .cons r t => by
    obtain ⟨k, rfl⟩ := r
    exact .cons n k (ints_are t)
theorem cr_setLI {X : Cx} (hc : X.calm = true) : CallR X (.type "set") (rSetLI X.K X.w) := by
  intro pins s σ H xs us Q I r h
  obtain ⟨l, ns, rfl, hl, few, q⟩ := h
  rw [Vals.ref1 r]
  obtain ⟨its, rv, pl, hz⟩ := I.list hl
  have hn : H s.heap.objs.size = none := I.hok.fresh (Nat.le_refl _)
  refine set_of_list ns (I.ok.hd hc) pl.isList (by simpa using ints_are rv) (by unfold scanBound; omega) fun h2 tk c R hcn k => ?_
  exact ⟨.ref s.heap.objs.size, _, I.laid (t' := tk) k (Nat.le_refl _) (setO_new R), rfl, q _ c hn hcn⟩
end L2

namespace L2
open PySem PySem.Spec PyProof.Rows
/-! ### set(a tuple of numbers) -/
def rSetTI (K : PySem.W.Frag) (w : World) : List V → Hp → VK → Prop := fun xs H Q => ∃ (l : Addr) (ns : List Int), xs = [V.ref l] ∧ SqT K H l (ns.map V.int) ∧ ns.length < 4000 ∧
  ∀ (a : Addr) (c : Nat), H a = none → c ≤ ns.length → Q (.ref a) (upd H a (SetO w a (fun j => decide (j ∈ ns)) c))
theorem cr_setTI {X : Cx} (hc : X.calm = true) : CallR X (.type "set") (rSetTI X.K X.w) := by
  intro pins s σ H xs us Q I r h
  obtain ⟨l, ns, rfl, hl, few, q⟩ := h
  rw [Vals.ref1 r]
  obtain ⟨its, rv, pl, hz⟩ := I.tuple hl
  have hn : H s.heap.objs.size = none := I.hok.fresh (Nat.le_refl _)
  refine call_set_tupI ns (I.ok.hd hc) pl (by simpa using ints_are rv) (by unfold scanBound; omega) fun h2 tk c R hcn k => ?_
  exact ⟨.ref s.heap.objs.size, _, I.laid (t' := tk) k (Nat.le_refl _) (setO_new R), rfl, q _ c hn hcn⟩
end L2
namespace TF
open PySem PySem.Spec PyProof.Rows L2 TM
section
variable {X : Cx} {pins : List (Addr × Obj)} {σ : L2.St} {H : Hp} {s : Shared} {k : Nat} {f : Addr} {fd : FuncData} {ps ks : List Str} {sp : Sp} {x m : Str} {p pos apos : Pos} {E : XK} {o : Expr} {ta : TE} {C : Addr}
/-- how keywords alone bind behind the object -/
structure KBM (K : PySem.W.Frag) (fd : FuncData) (ps ks : List Str) : Prop where
  to : ∀ (s : Shared) (u : Value) (ws : List Value), K.In s.heap → ws.length = ks.length → BindsTo s fd ⟨[u], ks.zip ws⟩ (ps.zip (u :: ws))
def tMethKw (C : Addr) (m : Str) (sp : Sp) (n : Nat) (E : XK) (ta : TE) (tk : TA) : TE := fun σ H Q => ta σ H fun x H1 => ∃ a dx fs, x = .ref a ∧ H1 a = some (.ins C dx fs) ∧ fs.lookup m = none ∧ tk σ H1 fun zs H2 => zs.length = n ∧ sp (x :: zs) H2 Q E
/-- o.m(k = v, ..) -/
theorem pe_methKw {pl : Sem Bool} {kws : List Keyword} {tk : TA} (he : PE X o ta) (c : Cls X.K C) (hm : Meth X.K C m f) (F : FnOk X.prog X.w X.K X.mg X.base CX0 k f fd ps sp) (hr : Room k X.A) (hb : KBM X.K fd ps ks) (hx : Passes CX0 X E) (hkw : PK X kws tk)
    (hall : (backToKw pos (keywordEach kws X.env)).all (·.1.isSome) = true := by rfl) (hks : (backToKw pos (keywordEach kws X.env)).filterMap (·.1) = ks := by rfl)
    (hpl : ((backTo pos (starEach [] X.env)).any (·.1) || (backToKw pos (keywordEach kws X.env)).any (·.1.isNone)) = false := by rfl)
    (ht : eval (.Call (.Attribute o m apos) [] kws pos) X.env = (do
      let ov ← eval o X.env
      standAt apos.atName
      let (f, first) ← holding [ov] (getMethod ov m pl)
      callWith pos f first (backTo pos (starEach [] X.env)) (backToKw pos (keywordEach kws X.env))) := by rfl) :
    PE X (.Call (.Attribute o m apos) [] kws pos) (tMethKw C m sp ks.length E ta tk) := by
  constructor
  intro pins s σ H Q I h
  refine PySem.W.methodCall_KW (pl := pl) (thn (he.run pins s σ H _ I h) fun u s1 hh => ?_) ht
  obtain ⟨x, H1, I1, rx, a, dx, fs, ex, ea, l, q⟩ := hh
  subst ex
  obtain rfl : u = Value.ref a := rx
  refine getmeth_ok I1 ea c hm l ?_
  refine PySem.W.callWith_KW0 (first := [.ref a]) (h₀ := X.base) I.ok.mod.kin hm.kp hall ?_ hpl
  refine thn (hkw.run pos pins s1 σ H1 _ I1 q) fun ws s2 hh => ?_
  obtain ⟨zs, H2, I2, rz, l0, q2⟩ := hh
  refine ⟨I2.kIn, ?_⟩
  rw [hks]
  have hl : ws.length = ks.length := by rw [← rz.length, l0]
  refine wpAny_call (codeAny_mono (F.run X.A X.stack s2 H2 ⟨[.ref a], ks.zip ws⟩ (.ref a :: ws) (.ref a :: zs) Q E hr I2.env0 (hb.to s2 (.ref a) ws I2.kIn hl) (.cons rfl rz) q2) fun r s' hq => ?_)
  cases r with
  | error e => exact hx pins σ H2 s2 e s' I2 hq
  | ok fl =>
    cases fl with
    | ret u => exact I2.after hq
    | next => exact hq.elim
    | brk => exact hq.elim
    | cont => exact hq.elim
theorem kbm_mk {K : PySem.W.Frag} {x qual : Str} {st : Stmt} {f : Addr} {fd : FuncData} {ps ks : List Str} (F : Fun K x qual st f fd)
    (h : ∀ (kV doc pm : Value) (an : Option Addr) (cdv ct u : Value) (us : List Value), us.length = ks.length → bindArgs (PySem.W.fnOf x qual (defArgs st) (defBody st) (defScope st) .none kV doc pm an cdv ct) ⟨[u], ks.zip us⟩ = pure (ps.zip (u :: us))) :
    KBM K fd ps ks := by
  obtain ⟨oc, od, kV, doc, pm, an, cdv, ct, osl, rfl, lk, hcd⟩ := F.ex
  exact ⟨fun s u ws _ hl => .of_eq (h kV doc pm an cdv ct u ws hl)⟩
end
end TF
namespace L2
open PySem PySem.Spec PyProof.Rows
theorem pi_both {X : Cx} {tg it : Expr} {w1 w2 : TI} (h1 : PI X tg it w1) (h2 : PI X tg it w2) : PI X tg it (fun σ H R => w1 σ H R ∨ w2 σ H R) :=
  ⟨fun pins s σ H R I h => h.elim (h1.run pins s σ H R I) (h2.run pins s σ H R I)⟩
end L2

namespace TM
/-! ### cells and what they rule -/
/-- from lo on ascending, below N -/
def up (N : Nat) : Nat → List Nat → Bool
  | _, [] => true
  | lo, a :: r => decide (lo ≤ a) && (decide (a < N) && up N (a + 1) r)
theorem up_ge {N : Nat} : ∀ {l : List Nat} {lo : Nat}, up N lo l = true → ∀ a ∈ l, lo ≤ a ∧ a < N
  | [], _, _, _, h => nomatch h
  | b :: r, lo, hu, a, h => by
    simp only [up, Bool.and_eq_true, decide_eq_true_eq] at hu
    rcases List.mem_cons.mp h with e | e
    · rw [e]; exact ⟨hu.1, hu.2.1⟩
    · have := up_ge hu.2.2 a e
      omega
theorem up_get {N : Nat} : ∀ {l : List Nat} {lo : Nat}, up N lo l = true → ∀ i j, i < j → j < l.length → l.getD i 0 < l.getD j 0
  | [], _, _, _, _, _, h => by simp at h
  | b :: r, lo, hu, i, j, hij, hj => by
    simp only [up, Bool.and_eq_true, decide_eq_true_eq] at hu
    cases j with
    | zero => omega
    | succ j =>
      have hj2 : j < r.length := by simpa using hj
      cases i with
      | zero =>
        have hm : r.getD j 0 ∈ r := by
          rw [List.getD_eq_getElem?_getD, List.getElem?_eq_getElem hj2]
          exact List.getElem_mem hj2
        have := up_ge hu.2.2 _ hm
        show b < r.getD j 0
        omega
      | succ i => exact up_get hu.2.2 i j (by omega) hj2
theorem up_pw {N : Nat} : ∀ {l : List Nat} {lo : Nat}, up N lo l = true → l.Pairwise (· < ·)
  | [], _, _ => .nil
  | b :: r, lo, hu => by
    simp only [up, Bool.and_eq_true, decide_eq_true_eq] at hu
    refine .cons (fun a ha => ?_) (up_pw hu.2.2)
    have := up_ge hu.2.2 a ha
    omega
/-- the members of a cell below r -/
def cb (ms : List Nat) (r : Nat) : Nat := (ms.filter fun a => decide (a < r)).length
theorem cb_le (ms : List Nat) (r : Nat) : cb ms r ≤ ms.length := List.length_filter_le _ _
theorem cb_iff {N : Nat} : ∀ {l : List Nat} {lo : Nat}, up N lo l = true → ∀ r j, j < l.length → (j < cb l r ↔ l.getD j 0 < r)
  | [], _, _, _, _, h => by simp at h
  | b :: t, lo, hu, r, j, hj => by
    have hu' := hu
    simp only [up, Bool.and_eq_true, decide_eq_true_eq] at hu
    unfold cb
    by_cases hb : b < r
    · rw [List.filter_cons_of_pos (by simpa using hb), List.length_cons]
      cases j with
      | zero => exact ⟨fun _ => hb, fun _ => by omega⟩
      | succ j =>
        have := cb_iff hu.2.2 r j (by simpa using hj)
        unfold cb at this
        show j + 1 < _ + 1 ↔ t.getD j 0 < r
        omega
    · rw [List.filter_cons_of_neg (by simpa using hb)]
      have h0 : t.filter (fun a => decide (a < r)) = [] := by
        rw [List.filter_eq_nil_iff]
        intro a ha
        have := up_ge hu.2.2 a ha
        simp only [decide_eq_true_eq]
        omega
      rw [h0]
      refine ⟨fun h => by simp at h, fun h => ?_⟩
      have h1 : b ≤ (b :: t).getD j 0 := by
        cases j with
        | zero => exact Nat.le_refl _
        | succ j => exact Nat.le_of_lt (up_get hu' 0 (j + 1) (by omega) hj)
      omega
theorem cb_uniq {N lo : Nat} {l : List Nat} (hu : up N lo l = true) (r c : Nat) (hc : c ≤ l.length) (h1 : ∀ j, j < c → l.getD j 0 < r) (h2 : ∀ j, c ≤ j → j < l.length → r ≤ l.getD j 0) : c = cb l r := by
  have h3 := cb_le l r
  rcases Nat.lt_trichotomy c (cb l r) with h | h | h
  · have := (cb_iff hu r c (by omega)).mp h
    have := h2 c (Nat.le_refl _) (by omega)
    omega
  · exact h
  · have := (cb_iff hu r (cb l r) (by omega)).mpr (h1 _ h)
    omega
/-- member number n -/
def A (N : Nat) (ms : List Nat) (n : Nat) : Nat := ms.getD (n % ms.length) 0 + N * B (n / ms.length)
/-- the number of members below x -/
def RK (N : Nat) (ms : List Nat) (x : Nat) : Nat := ms.length * R (x / N) + (if plain (x / N) then cb ms (x % N) else 0)
/-- x is a member -/
def Mem (N : Nat) (ms : List Nat) (x : Nat) : Prop := x % N ∈ ms ∧ plain (x / N)
instance {N : Nat} {ms : List Nat} {x : Nat} : Decidable (Mem N ms x) := inferInstanceAs (Decidable (_ ∧ _))
structure CellM (N : Nat) (ms : List Nat) : Prop where
  up : up N 0 ms = true
  ne : ms ≠ []
section
variable {N : Nat} {ms : List Nat}
theorem CellM.pos (c : CellM N ms) : 0 < ms.length := List.length_pos_iff.mpr c.ne
theorem CellM.get (c : CellM N ms) {j : Nat} (hj : j < ms.length) : ms.getD j 0 ∈ ms := by
  rw [List.getD_eq_getElem?_getD, List.getElem?_eq_getElem hj]
  exact List.getElem_mem hj
theorem CellM.lt (c : CellM N ms) {j : Nat} (hj : j < ms.length) : ms.getD j 0 < N := (up_ge c.up _ (c.get hj)).2
theorem CellM.npos (c : CellM N ms) : 0 < N := by
  have := c.lt c.pos
  omega
theorem CellM.split (c : CellM N ms) {j m : Nat} (hj : j < ms.length) : A N ms (ms.length * m + j) = ms.getD j 0 + N * B m := by
  unfold A
  rw [show (ms.length * m + j) % ms.length = j by rw [Nat.mul_add_mod]; exact Nat.mod_eq_of_lt hj,
    show (ms.length * m + j) / ms.length = m by rw [Nat.mul_add_div c.pos, Nat.div_eq_of_lt hj]; omega]
theorem CellM.nat (c : CellM N ms) (n : Nat) : ∃ m j, j < ms.length ∧ n = ms.length * m + j :=
  ⟨n / ms.length, n % ms.length, Nat.mod_lt _ c.pos, (Nat.div_add_mod n ms.length).symm⟩
theorem CellM.RK_iff (c : CellM N ms) (n x : Nat) : A N ms n < x ↔ n < RK N ms x := by
  obtain ⟨m, j, hj, rfl⟩ := c.nat n
  rw [c.split hj]
  have hN := c.npos
  have ha := c.lt hj
  unfold RK
  have hx := Nat.div_add_mod x N
  have hr := Nat.mod_lt x hN
  generalize x / N = q at *
  generalize x % N = r at *
  have hi := R_iff q m
  rcases Nat.lt_trichotomy (B m) q with h | h | h
  · have h1 := hi.mp h
    have h2 : ms.length * (m + 1) ≤ ms.length * R q := Nat.mul_le_mul_left _ h1
    have h3 : N * (B m + 1) ≤ N * q := Nat.mul_le_mul_left _ h
    rw [Nat.mul_add] at h2 h3
    constructor
    · intro _; omega
    · intro _; omega
  · have hp : plain q := h ▸ B_plain m
    rw [if_pos hp, ← h, R_B]
    have := cb_iff c.up r j hj
    rw [← h] at hx
    constructor
    · intro h1
      have := this.mpr (by omega)
      omega
    · intro h1
      have := this.mp (by omega)
      omega
  · have h3 : N * (q + 1) ≤ N * B m := Nat.mul_le_mul_left _ h
    rw [Nat.mul_add] at h3
    have h4 : ¬ m < R q := fun z => by have := hi.mpr z; omega
    constructor
    · intro h1; omega
    · intro h1
      exfalso
      by_cases hp : plain q
      · rw [if_pos hp] at h1
        obtain ⟨t, rfl⟩ := plain_B q hp
        rw [R_B] at h1 h4
        have h5 : t < m := by
          rcases Nat.lt_or_ge t m with z | z
          · exact z
          · have := B_mono z
            omega
        have h6 : ms.length * (t + 1) ≤ ms.length * m := Nat.mul_le_mul_left _ h5
        have := cb_le ms r
        rw [Nat.mul_add] at h6
        omega
      · rw [if_neg hp] at h1
        have h6 : ms.length * R q ≤ ms.length * m := Nat.mul_le_mul_left _ (by omega)
        omega
theorem lt_ext {a b : Nat} (h : ∀ m, m < a ↔ m < b) : a = b := by
  rcases Nat.lt_trichotomy a b with z | z | z
  · have := (h a).mpr z; omega
  · exact z
  · have := (h b).mp z; omega
theorem CellM.A_lt (c : CellM N ms) {n m : Nat} (h : n < m) : A N ms n < A N ms m := by
  obtain ⟨p, i, hi, rfl⟩ := c.nat n
  obtain ⟨q, j, hj, rfl⟩ := c.nat m
  rw [c.split hi, c.split hj]
  have h1 := c.lt hi
  rcases Nat.lt_trichotomy p q with z | z | z
  · have h3 : N * (B p + 1) ≤ N * B q := Nat.mul_le_mul_left _ (B_lt z)
    rw [Nat.mul_add] at h3
    omega
  · subst z
    have := up_get c.up i j (by omega) hj
    omega
  · have h3 : ms.length * (q + 1) ≤ ms.length * p := Nat.mul_le_mul_left _ z
    rw [Nat.mul_add] at h3
    omega
theorem CellM.A_iff (c : CellM N ms) {n m : Nat} : A N ms n < A N ms m ↔ n < m := by
  refine ⟨fun h => ?_, c.A_lt⟩
  rcases Nat.lt_trichotomy n m with z | z | z
  · exact z
  · subst z; omega
  · have := c.A_lt z; omega
theorem CellM.RK_A (c : CellM N ms) (n : Nat) : RK N ms (A N ms n) = n := lt_ext fun m => by rw [← c.RK_iff, c.A_iff]
theorem CellM.RK_A1 (c : CellM N ms) (n : Nat) : RK N ms (A N ms n + 1) = n + 1 := lt_ext fun m => by
  rw [← c.RK_iff]
  have := c.A_iff (n := n) (m := m)
  omega
theorem CellM.mem_iff (c : CellM N ms) (x : Nat) : Mem N ms x ↔ ∃ n, A N ms n = x := by
  have hN := c.npos
  constructor
  · rintro ⟨h1, h2⟩
    obtain ⟨m, hm⟩ := plain_B _ h2
    obtain ⟨j, hj, e⟩ := List.getElem_of_mem h1
    refine ⟨ms.length * m + j, ?_⟩
    rw [c.split hj, hm, List.getD_eq_getElem?_getD, List.getElem?_eq_getElem hj, Option.getD_some, e]
    have := Nat.div_add_mod x N
    omega
  · rintro ⟨n, rfl⟩
    obtain ⟨m, j, hj, rfl⟩ := c.nat n
    rw [c.split hj]
    have h1 := c.lt hj
    refine ⟨?_, ?_⟩
    · rw [Nat.add_mul_mod_self_left, Nat.mod_eq_of_lt h1]
      exact c.get hj
    · rw [Nat.add_mul_div_left _ _ hN, Nat.div_eq_of_lt h1, Nat.zero_add]
      exact B_plain m
theorem CellM.RK_one (c : CellM N ms) (x : Nat) : RK N ms (x + 1) = RK N ms x + (if Mem N ms x then 1 else 0) := by
  by_cases h : Mem N ms x
  · rw [if_pos h]
    obtain ⟨n, rfl⟩ := (c.mem_iff x).mp h
    rw [c.RK_A1, c.RK_A]
  · rw [if_neg h]
    refine lt_ext fun m => ?_
    refine (c.RK_iff m (x + 1)).symm.trans (Iff.trans ?_ (c.RK_iff m x))
    have : A N ms m ≠ x := fun z => h ((c.mem_iff x).mpr ⟨m, z⟩)
    omega
theorem CellM.next (c : CellM N ms) (x : Nat) : x < A N ms (RK N ms (x + 1)) := by
  have h : ¬ A N ms (RK N ms (x + 1)) < x + 1 := fun z => by
    have := (c.RK_iff _ _).mp z
    omega
  omega
theorem CellM.last (c : CellM N ms) {x : Nat} (h : 0 < RK N ms (x + 1)) : A N ms (RK N ms (x + 1) - 1) ≤ x := by
  have := (c.RK_iff (RK N ms (x + 1) - 1) (x + 1)).mpr (by omega)
  omega
theorem CellM.last_eq (c : CellM N ms) {x : Nat} (h : 0 < RK N ms (x + 1)) : A N ms (RK N ms (x + 1) - 1) = x ↔ Mem N ms x := by
  constructor
  · intro e
    exact (c.mem_iff x).mpr ⟨_, e⟩
  · intro hm
    obtain ⟨n, rfl⟩ := (c.mem_iff x).mp hm
    rw [c.RK_A1]
    rfl
theorem CellM.mem_pos (c : CellM N ms) {x : Nat} (h : Mem N ms x) : 0 < RK N ms (x + 1) := by
  rw [c.RK_one, if_pos h]
  omega
/-! blocks -/
theorem pow_plain (e : Nat) : B (2 ^ e) = 3 ^ e := by
  have := B_high e 0 (Nat.pow_pos (by decide))
  rw [Nat.add_zero, B_zero, Nat.add_zero] at this
  exact this
theorem cb_zero (ms : List Nat) : cb ms 0 = 0 := by
  unfold cb
  rw [List.length_eq_zero_iff, List.filter_eq_nil_iff]
  intro a _
  simp
theorem CellM.block (c : CellM N ms) (e : Nat) {n : Nat} (h : n < ms.length * 2 ^ e) : A N ms (n + ms.length * 2 ^ e) = A N ms n + N * 3 ^ e := by
  obtain ⟨m, j, hj, rfl⟩ := c.nat n
  have hm : m < 2 ^ e := by
    rcases Nat.lt_or_ge m (2 ^ e) with z | z
    · exact z
    · have : ms.length * 2 ^ e ≤ ms.length * m := Nat.mul_le_mul_left _ z
      omega
  rw [show ms.length * m + j + ms.length * 2 ^ e = ms.length * (2 ^ e + m) + j by rw [Nat.mul_add]; omega, c.split hj, c.split hj, B_high e m hm, Nat.mul_add]
  omega
theorem CellM.RK_pow (c : CellM N ms) (e : Nat) : RK N ms (N * 3 ^ e) = ms.length * 2 ^ e := by
  have hN := c.npos
  unfold RK
  rw [Nat.mul_div_cancel_left _ hN, Nat.mul_mod_right, cb_zero, ← pow_plain, R_B]
  simp
theorem CellM.RK_pow2 (c : CellM N ms) (e : Nat) : RK N ms (2 * (N * 3 ^ e)) = 2 * (ms.length * 2 ^ e) := by
  have hN := c.npos
  have h := R_two plain_zero e 0 (Nat.pow_pos (by decide))
  rw [Nat.zero_add, R_zero, Nat.mul_zero, Nat.add_zero] at h
  unfold RK
  rw [show 2 * (N * 3 ^ e) = N * (3 ^ e * 2) by rw [Nat.mul_left_comm, Nat.mul_comm 2 (3 ^ e)], Nat.mul_div_cancel_left _ hN, Nat.mul_mod_right, h.1, if_neg h.2, Nat.pow_succ]
  rw [Nat.zero_add, Nat.one_mul, Nat.add_zero, Nat.mul_comm (2 ^ e) 2, Nat.mul_left_comm]
theorem CellM.RK_pow3 (c : CellM N ms) (e : Nat) : RK N ms (3 * (N * 3 ^ e)) = 2 * (ms.length * 2 ^ e) := by
  have h := c.RK_pow (e + 1)
  rw [show 3 * (N * 3 ^ e) = N * 3 ^ (e + 1) by rw [Nat.pow_succ, Nat.mul_left_comm, Nat.mul_comm 3], h, Nat.pow_succ, ← Nat.mul_assoc, Nat.mul_comm 2]
theorem CellM.RK_le (c : CellM N ms) (x : Nat) : RK N ms x ≤ ms.length * (x + 1) := by
  unfold RK
  have h1 := R_le (x / N)
  have h2 : x / N ≤ x := Nat.div_le_self _ _
  have h3 := cb_le ms (x % N)
  have h4 : ms.length * R (x / N) ≤ ms.length * x := Nat.mul_le_mul_left _ (by omega)
  rw [Nat.mul_add]
  split <;> omega
end
end TM

namespace TM
/-! ### the cells that are drawn -/
def small : List (Nat × List Nat) := [(3, [0, 1]), (3, [1, 2]), (3, [0, 2]), (10, [0, 1, 7, 8]), (9, [0, 3, 4, 7]), (1, [0])]
/-- the product -/
def jn (f o : Nat × List Nat) : Nat × List Nat := (f.1 * o.1, o.2.flatMap fun h => f.2.map fun l => l + f.1 * h)
def bitsN (b : Nat) : List Nat → Nat
  | [] => b
  | a :: r => bitsN (b ||| 2 ^ a) r
/-- moved by 2 z - g places -/
def mvN (w z g : Nat) : Nat := if 2 * z < g then w / 2 ^ (g - 2 * z) else w * 2 ^ (2 * z - g)
def covN (g c w : Nat) : List Nat → Nat
  | [] => c
  | z :: r => covN g (c ||| mvN w z g) (w ||| 2 ^ (g - z)) r
def sumsN (N d : Nat) : Nat := (d ||| d * 2 ^ N) ||| d / 2 ^ N
def servedN (N b c : Nat) : Nat := (2 ^ N - 1) ^^^ ((2 ^ N - 1) &&& ((b ||| c) ||| c / 2 ^ N))
/-- what the making of a cell asks -/
structure Good (N : Nat) (ms : List Nat) : Prop where
  up : up N 0 ms = true
  pos : 0 < ms.length
  len : ms.length ≤ 256
  le : N ≤ 1000
  free : ∀ y ∈ ms, ¬ (N % 2 = 0 ∧ (y + N / 2) % N ∈ ms) ∧ (bitsN 0 ms * 2 ^ y) &&& sumsN N (bitsN 0 (ms.map fun a => 2 * a)) = 2 ^ (2 * y)
  served : servedN N (bitsN 0 ms) (covN (ms.getD (ms.length - 1) 0) 0 0 ms) = 0
/-! the same, for the kernel -/
def kUp (N : Nat) : Nat → List Nat → Bool
  | _, [] => true
  | lo, a :: r => (Nat.ble lo a).and ((Nat.ble (Nat.succ a) N).and (kUp N (Nat.succ a) r))
def kMem (x : Nat) : List Nat → Bool
  | [] => false
  | a :: r => (Nat.beq x a).or (kMem x r)
def kBits (b : Nat) : List Nat → Nat
  | [] => b
  | a :: r => kBits (Nat.lor b (Nat.shiftLeft 1 a)) r
def kDbl (b : Nat) : List Nat → Nat
  | [] => b
  | a :: r => kDbl (Nat.lor b (Nat.shiftLeft 1 (Nat.mul 2 a))) r
def kMv (w z g : Nat) : Nat := cond (Nat.ble g (Nat.mul 2 z)) (Nat.shiftLeft w (Nat.sub (Nat.mul 2 z) g)) (Nat.shiftRight w (Nat.sub g (Nat.mul 2 z)))
def kCov (g c w : Nat) : List Nat → Nat
  | [] => c
  | z :: r => kCov g (Nat.lor c (kMv w z g)) (Nat.lor w (Nat.shiftLeft 1 (Nat.sub g z))) r
def kFree1 (b s : Nat) : List Nat → Bool
  | [] => true
  | y :: r => (Nat.beq (Nat.land (Nat.shiftLeft b y) s) (Nat.shiftLeft 1 (Nat.mul 2 y))).and (kFree1 b s r)
def kFree2 (N h : Nat) (ms : List Nat) : List Nat → Bool
  | [] => true
  | y :: r => (kMem (Nat.mod (Nat.add y h) N) ms).not.and (kFree2 N h ms r)
def kLast : List Nat → Nat
  | [] => 0
  | [a] => a
  | _ :: r => kLast r
def kSums (N d : Nat) : Nat := Nat.lor (Nat.lor d (Nat.shiftLeft d N)) (Nat.shiftRight d N)
def kServed (n b c cs : Nat) : Nat := Nat.xor n (Nat.land n (Nat.lor (Nat.lor b c) cs))
def kGood1 (N : Nat) (ms : List Nat) (b c : Nat) : Bool :=
  (kUp N 0 ms).and ((Nat.ble (List.length ms) 256).and ((kFree1 b (kSums N (kDbl 0 ms)) ms).and (((Nat.beq (Nat.mod N 2) 0).not.or (kFree2 N (Nat.div N 2) ms ms)).and (Nat.beq (kServed (Nat.pred (Nat.shiftLeft 1 N)) b c (Nat.shiftRight c N)) 0))))
def kGood (N : Nat) (ms : List Nat) : Bool := match ms with
  | [] => false
  | a :: r => kGood1 N (a :: r) (kBits 0 (a :: r)) (kCov (kLast (a :: r)) 0 0 (a :: r))
def kRow (N h : Nat) : List Nat → List Nat → List Nat
  | [], k => k
  | l :: r, k => Nat.add l (Nat.mul N h) :: kRow N h r k
def kJn (N : Nat) (ms : List Nat) : List Nat → List Nat
  | [] => []
  | h :: r => kRow N h ms (kJn N ms r)
/-- f good, and what is made of it by at most k more products -/
def kAll : Nat → Nat → List Nat → Bool
  | 0, N, ms => kGood N ms
  | k + 1, N, ms => (kGood N ms).and ((cond (Nat.ble (Nat.mul N 3) 900) (kAll k (Nat.mul N 3) (kJn N ms [0, 1])) true).and ((cond (Nat.ble (Nat.mul N 3) 900) (kAll k (Nat.mul N 3) (kJn N ms [1, 2])) true).and ((cond (Nat.ble (Nat.mul N 3) 900) (kAll k (Nat.mul N 3) (kJn N ms [0, 2])) true).and ((cond (Nat.ble (Nat.mul N 10) 900) (kAll k (Nat.mul N 10) (kJn N ms [0, 1, 7, 8])) true).and ((cond (Nat.ble (Nat.mul N 9) 900) (kAll k (Nat.mul N 9) (kJn N ms [0, 3, 4, 7])) true))))))
theorem all_9 : kAll 3 9 [0, 3, 4, 7] = true := by decide +kernel
theorem all_10 : kAll 3 10 [0, 1, 7, 8] = true := by decide +kernel
theorem all_3a : kAll 3 3 [0, 1] = true := by decide +kernel
theorem all_3b : kAll 3 3 [1, 2] = true := by decide +kernel
theorem all_3c : kAll 3 3 [0, 2] = true := by decide +kernel
theorem all_1 : kAll 3 1 [0] = true := by decide +kernel
end TM

namespace TM
theorem kUp_up {N : Nat} : ∀ {l : List Nat} {lo : Nat}, kUp N lo l = true → up N lo l = true
  | [], _, _ => rfl
  | a :: r, lo, h => by
    simp only [kUp, Bool.and_eq_true, Nat.ble_eq] at h
    simp only [up, Bool.and_eq_true, decide_eq_true_eq]
    exact ⟨h.1, h.2.1, kUp_up h.2.2⟩
theorem kMem_mem {x : Nat} : ∀ {l : List Nat}, kMem x l = false → x ∉ l
  | [], _ => List.not_mem_nil
  | a :: r, h => by
    simp only [kMem, Bool.or_eq_false_iff] at h
    intro hm
    rcases List.mem_cons.mp hm with e | e
    · subst e
      have := h.1
      rw [Nat.beq_refl] at this
      cases this
    · exact kMem_mem h.2 e
theorem shl1 (a : Nat) : Nat.shiftLeft 1 a = 2 ^ a := by
  show 1 <<< a = _
  rw [Nat.shiftLeft_eq, Nat.one_mul]
theorem kBits_eq : ∀ (l : List Nat) (b : Nat), kBits b l = bitsN b l
  | [], _ => rfl
  | a :: r, b => by
    show kBits (Nat.lor b (Nat.shiftLeft 1 a)) r = bitsN (b ||| 2 ^ a) r
    rw [shl1]
    exact kBits_eq r _
theorem kDbl_eq : ∀ (l : List Nat) (b : Nat), kDbl b l = bitsN b (l.map fun a => 2 * a)
  | [], _ => rfl
  | a :: r, b => by
    show kDbl (Nat.lor b (Nat.shiftLeft 1 (Nat.mul 2 a))) r = bitsN (b ||| 2 ^ (2 * a)) (r.map fun a => 2 * a)
    rw [shl1]
    exact kDbl_eq r _
theorem kMv_eq (w z g : Nat) : kMv w z g = mvN w z g := by
  unfold kMv mvN
  by_cases h : 2 * z < g
  · rw [if_pos h, show Nat.ble g (Nat.mul 2 z) = false from Bool.eq_false_iff.mpr fun e => by have : g ≤ 2 * z := Nat.le_of_ble_eq_true e; omega]
    exact Nat.shiftRight_eq_div_pow w (g - 2 * z)
  · rw [if_neg h, show Nat.ble g (Nat.mul 2 z) = true from Nat.ble_eq.mpr (by show g ≤ 2 * z; omega)]
    exact Nat.shiftLeft_eq w (2 * z - g)
theorem kCov_eq (g : Nat) : ∀ (l : List Nat) (c w : Nat), kCov g c w l = covN g c w l
  | [], _, _ => rfl
  | z :: r, c, w => by
    show kCov g (Nat.lor c (kMv w z g)) (Nat.lor w (Nat.shiftLeft 1 (Nat.sub g z))) r = covN g (c ||| mvN w z g) (w ||| 2 ^ (g - z)) r
    rw [shl1, kMv_eq]
    exact kCov_eq g r _ _
theorem kFree1_of {b s : Nat} : ∀ {l : List Nat}, kFree1 b s l = true → ∀ y ∈ l, (b * 2 ^ y) &&& s = 2 ^ (2 * y)
  | [], _, _, h => nomatch h
  | a :: r, h, y, hy => by
    simp only [kFree1, Bool.and_eq_true, Nat.beq_eq] at h
    rcases List.mem_cons.mp hy with e | e
    · subst e
      have h1 := h.1
      rw [shl1] at h1
      have h2 : Nat.shiftLeft b y = b * 2 ^ y := Nat.shiftLeft_eq b y
      rw [h2] at h1
      exact h1
    · exact kFree1_of h.2 y e
theorem kFree2_of {N h : Nat} {ms : List Nat} : ∀ {l : List Nat}, kFree2 N h ms l = true → ∀ y ∈ l, (y + h) % N ∉ ms
  | [], _, _, z => nomatch z
  | a :: r, hk, y, hy => by
    simp only [kFree2, Bool.and_eq_true] at hk
    rcases List.mem_cons.mp hy with e | e
    · subst e
      have h1 := hk.1
      rw [Bool.not_eq_true'] at h1
      exact kMem_mem h1
    · exact kFree2_of hk.2 y e
theorem kLast_eq : ∀ l : List Nat, kLast l = l.getD (l.length - 1) 0
  | [] => rfl
  | [a] => rfl
  | a :: b :: r => by
    show kLast (b :: r) = (a :: b :: r).getD (r.length + 1) 0
    rw [kLast_eq (b :: r)]
    rfl
theorem kGood_of {N : Nat} {ms : List Nat} (h : kGood N ms = true) (h9 : N ≤ 1000) : Good N ms := by
  cases ms with
  | nil => cases h
  | cons a r =>
    have h : kGood1 N (a :: r) (kBits 0 (a :: r)) (kCov (kLast (a :: r)) 0 0 (a :: r)) = true := h
    unfold kGood1 at h
    simp only [Bool.and_eq_true, Nat.ble_eq] at h
    obtain ⟨h1, h2, h3, h4, h5⟩ := h
    rw [kBits_eq] at h3 h5
    rw [kDbl_eq] at h3
    rw [kCov_eq, kLast_eq] at h5
    have e1 : ∀ d, kSums N d = sumsN N d := fun d => by
      show (d ||| (d <<< N)) ||| (d >>> N) = _
      rw [Nat.shiftLeft_eq, Nat.shiftRight_eq_div_pow]
      rfl
    rw [e1] at h3
    refine ⟨kUp_up h1, by simp, h2, h9, fun y hy => ⟨?_, kFree1_of h3 y hy⟩, ?_⟩
    · rintro ⟨e, hm⟩
      rw [Bool.or_eq_true] at h4
      rcases h4 with h4 | h4
      · have : Nat.beq (Nat.mod N 2) 0 = true := Nat.beq_eq.mpr e
        rw [this] at h4
        cases h4
      · exact kFree2_of h4 y hy hm
    · have h6 := Nat.beq_eq.mp h5
      unfold kServed at h6
      rw [shl1] at h6
      have h7 : ∀ c : Nat, Nat.shiftRight c N = c / 2 ^ N := fun c => Nat.shiftRight_eq_div_pow c N
      rw [h7] at h6
      exact h6
theorem kRow_eq (N h : Nat) : ∀ (ms k : List Nat), kRow N h ms k = (ms.map fun l => l + N * h) ++ k
  | [], _ => rfl
  | l :: r, k => by
    show (l + N * h) :: kRow N h r k = _
    rw [kRow_eq N h r k]
    rfl
theorem kJn_eq (N : Nat) (ms : List Nat) : ∀ o : List Nat, kJn N ms o = o.flatMap fun h => ms.map fun l => l + N * h
  | [] => rfl
  | h :: r => by
    show kRow N h ms (kJn N ms r) = _
    rw [kRow_eq, kJn_eq N ms r]
    rfl
theorem kAll_good : ∀ {k N : Nat} {ms : List Nat}, kAll k N ms = true → kGood N ms = true
  | 0, _, _, h => h
  | k + 1, _, _, h => by
    simp only [kAll, Bool.and_eq_true] at h
    exact h.1
theorem cond_of {b c : Bool} (h : (cond b c true) = true) : b = true → c = true := fun e => by rw [e] at h; exact h
theorem kAll_less : ∀ {k N : Nat} {ms : List Nat}, kAll (k + 1) N ms = true → kAll k N ms = true
  | 0, _, _, h => kAll_good h
  | k + 1, N, ms, h => by
    have up : ∀ (M : Nat) (o : List Nat), (cond (Nat.ble (Nat.mul N M) 900) (kAll (k + 1) (Nat.mul N M) (kJn N ms o)) true) = true → (cond (Nat.ble (Nat.mul N M) 900) (kAll k (Nat.mul N M) (kJn N ms o)) true) = true := fun M o z => by
      cases e : Nat.ble (Nat.mul N M) 900 with
      | false => rfl
      | true => exact kAll_less (cond_of z e)
    unfold kAll at h ⊢
    simp only [Bool.and_eq_true] at h ⊢
    obtain ⟨h0, h1, h2, h3, h4, h5⟩ := h
    exact ⟨h0, up _ _ h1, up _ _ h2, up _ _ h3, up _ _ h4, up _ _ h5⟩
/-- what a draw of a cell may be -/
def Dr (k : Nat) (f : Nat × List Nat) : Prop := f.1 ≤ 900 ∧ kAll k f.1 f.2 = true
theorem Dr.less {k : Nat} {f : Nat × List Nat} (h : Dr (k + 1) f) : Dr k f := ⟨h.1, kAll_less h.2⟩
theorem Dr.good {k : Nat} {f : Nat × List Nat} (h : Dr k f) : Good f.1 f.2 := kGood_of (kAll_good h.2) (Nat.le_trans h.1 (by decide))
theorem dr_small : ∀ f ∈ small, Dr 3 f := by
  intro f hf
  simp only [small, List.mem_cons, List.not_mem_nil, or_false] at hf
  rcases hf with rfl | rfl | rfl | rfl | rfl | rfl
  · exact ⟨by decide, all_3a⟩
  · exact ⟨by decide, all_3b⟩
  · exact ⟨by decide, all_3c⟩
  · exact ⟨by decide, all_10⟩
  · exact ⟨by decide, all_9⟩
  · exact ⟨by decide, all_1⟩
theorem Dr.jn {k : Nat} {f o : Nat × List Nat} (h : Dr (k + 1) f) (ho : o ∈ small) (h9 : f.1 * o.1 ≤ 900) : Dr k (jn f o) := by
  have h2 := h.2
  unfold kAll at h2
  simp only [Bool.and_eq_true] at h2
  obtain ⟨h0, h1, h2, h3, h4, h5⟩ := h2
  have key : ∀ (M : Nat) (l : List Nat), o = (M, l) → (cond (Nat.ble (Nat.mul f.1 M) 900) (kAll k (Nat.mul f.1 M) (kJn f.1 f.2 l)) true) = true → Dr k (TM.jn f o) := fun M l e z => by
    subst e
    have := cond_of z (Nat.ble_eq.mpr h9)
    rw [kJn_eq] at this
    exact ⟨h9, this⟩
  simp only [small, List.mem_cons, List.not_mem_nil, or_false] at ho
  rcases ho with e | e | e | e | e | e
  · exact key _ _ e h1
  · exact key _ _ e h2
  · exact key _ _ e h3
  · exact key _ _ e h4
  · exact key _ _ e h5
  · have : TM.jn f o = f := by
      subst e
      unfold TM.jn
      simp
    rw [this]
    exact h.less
theorem Good.cell {N : Nat} {ms : List Nat} (g : Good N ms) : CellM N ms := ⟨g.up, List.length_pos_iff.mp g.pos⟩
end TM

namespace TF
open PySem PySem.Spec PyProof.Rows L2 TM
section
variable {X : Cx}
/-! ### whole numbers, bit by bit -/
def rN (c : Nat → Nat → Prop) (g : Nat → Nat → Nat) : V → V → Hp → VK → Prop := fun x y H Q => ∃ a b : Nat, x = vn a ∧ y = vn b ∧ c a b ∧ Q (vn (g a b)) H
theorem opN_of {f : Value → Value → Sem Value} {r : V → V → Hp → VK → Prop} (h : OpR X f r) {c : Nat → Nat → Prop} {g : Nat → Nat → Nat} (k : ∀ a b H Q, c a b → Q (vn (g a b)) H → r (vn a) (vn b) H Q) : OpR X f (rN c g) := by
  intro pins s σ H x y v u Q I rx ry hh
  obtain ⟨a, b, rfl, rfl, hc, q⟩ := hh
  exact h pins s σ H _ _ v u Q I rx ry (k a b H Q hc q)
theorem nOr : OpR X (binaryOp .BitOr) (rN (fun _ _ => True) fun a b => a ||| b) := opN_of op_or fun a b H Q _ q => ⟨_, _, rfl, rfl, by
  show Q (V.int (Builtin.bitOr (a : Int) (b : Int))) H
  rw [bitOr_nn (by omega) (by omega), Int.toNat_natCast, Int.toNat_natCast]
  exact q⟩
theorem nAnd : OpR X (binaryOp .BitAnd) (rN (fun _ _ => True) fun a b => a &&& b) := opN_of op_and fun a b H Q _ q => ⟨_, _, rfl, rfl, by
  have e : Builtin.bitAnd (a : Int) (b : Int) = ((a &&& b : Nat) : Int) := by
    unfold Builtin.bitAnd
    have h1 : (0 : Int) ≤ (a : Int) := by omega
    have h2 : (0 : Int) ≤ (b : Int) := by omega
    simp [h1, h2]
  show Q (V.int (Builtin.bitAnd (a : Int) (b : Int))) H
  rw [e]
  exact q⟩
theorem nXor : OpR X (binaryOp .BitXor) (rN (fun _ _ => True) fun a b => a ^^^ b) := opN_of op_xor fun a b H Q _ q => ⟨_, _, rfl, rfl, by
  have e : Builtin.bitXor (a : Int) (b : Int) = ((a ^^^ b : Nat) : Int) := by
    rw [Bits.bitXor_pp (by omega) (by omega), Int.toNat_natCast, Int.toNat_natCast]
  show Q (V.int (Builtin.bitXor (a : Int) (b : Int))) H
  rw [e]
  exact q⟩
theorem nShl : OpR X (binaryOp .LShift) (rN (fun a k => ∃ n, a < 2 ^ n ∧ n + k ≤ 134217728) fun a k => a * 2 ^ k) := opN_of op_shlW fun a k H Q ⟨n, h1, h2⟩ q => ⟨_, _, rfl, rfl, shl_ok (n := n) (by omega) h2, by
  show Q (V.int ((a : Int) * 2 ^ ((k : Nat) : Int).toNat)) H
  rw [Int.toNat_natCast, show (2 : Int) ^ k = ((2 ^ k : Nat) : Int) by rw [Int.natCast_pow]; rfl, ← Int.natCast_mul]
  exact q⟩
theorem nShr : OpR X (binaryOp .RShift) (rN (fun _ _ => True) fun a k => a / 2 ^ k) := opN_of op_shrN fun a k H Q _ q => ⟨_, _, rfl, rfl, by
  show Q (V.int ((a : Int) / 2 ^ k)) H
  rw [show (2 : Int) ^ k = ((2 ^ k : Nat) : Int) by rw [Int.natCast_pow]; rfl]
  exact q⟩
/-- less, both numbers -/
theorem nSub : OpR X (binaryOp .Sub) (rN (fun a b => b ≤ a) fun a b => a - b) := opN_of op_sub fun a b H Q h q => ⟨_, _, rfl, rfl, by
  show Q (V.int ((a : Int) - (b : Int))) H
  rw [show (a : Int) - (b : Int) = ((a - b : Nat) : Int) by omega]
  exact q⟩
theorem nAdd : OpR X (binaryOp .Add) (rN (fun _ _ => True) fun a b => a + b) := opN_of op_add fun a b H Q _ q => ⟨_, _, rfl, rfl, q⟩
theorem nMul : OpR X (binaryOp .Mult) (rN (fun a b => ∃ n m, a < 2 ^ n ∧ b < 2 ^ m ∧ n + m ≤ 900000 ∧ n ≤ 400000 ∧ m ≤ 400000) fun a b => a * b) := opN_of op_mulW fun a b H Q ⟨n, m, h1, h2, h3, h4, h5⟩ q => ⟨_, _, rfl, rfl, by
  unfold CMulW
  have l : ∀ (x k : Nat), x < 2 ^ k → ((x : Int)).natAbs.log2 ≤ k := fun x k hx => by
    rw [Int.natAbs_natCast]
    by_cases h0 : x = 0
    · subst h0; simp
    · exact Nat.le_of_lt ((Nat.log2_lt h0).mpr hx)
  have := l a n h1
  have := l b m h2
  omega, q⟩
end
end TF

namespace TF
open PySem PySem.Spec PyProof.Rows L2 TM
section
variable {X : Cx}
theorem nMod : OpR X (binaryOp .Mod) (rN (fun _ b => 0 < b) fun a b => a % b) := opN_of op_modN fun a b H Q h q => ⟨_, _, rfl, rfl, (by show ((b : Nat) : Int) ≠ 0; omega), by
  show Q (V.int ((a : Int).fmod (b : Int))) H
  rw [fmod_nat]
  exact q⟩
theorem nDiv : OpR X (binaryOp .FloorDiv) (rN (fun _ b => 0 < b ∧ b < 2 ^ 9000) fun a b => a / b) := opN_of op_fdivW fun a b H Q h q => ⟨_, _, rfl, rfl, wide_div (b := 9000) (by omega) (by rw [Int.natAbs_natCast]; exact h.2) (by decide) (by decide), by
  show Q (V.int ((a : Int) / (b : Int))) H
  rw [← Int.natCast_ediv]
  exact q⟩
theorem nPow : OpR X (binaryOp .Pow) (rN (fun a b => a < 2 ^ 64 ∧ b ≤ 1000000) fun a b => a ^ b) := opN_of op_pow fun a b H Q h q => ⟨_, _, rfl, rfl, ⟨by omega, by omega, by rw [Int.natAbs_natCast]; exact h.1⟩, by
  show Q (V.int ((a : Int) ^ ((b : Nat) : Int).toNat)) H
  rw [Int.toNat_natCast, ← Int.natCast_pow]
  exact q⟩
/-- divmod of numbers -/
theorem nDm : CallR X (.builtin "divmod") (fun xs H Q => ∃ a b : Nat, xs = [vn a, vn b] ∧ (0 < b ∧ b < 1073741824) ∧ ∀ p, H p = none → Q (.ref p) (upd H p (.tup [vn (a / b), vn (a % b)]))) := by
  intro pins s σ H xs us Q I r h
  obtain ⟨a, b, rfl, ⟨h1, h2⟩, q⟩ := h
  refine call_divmodW pins s σ H _ us Q I r ⟨_, _, rfl, ⟨by omega, PyProof.noPylong_small (by omega)⟩, fun p hp => ?_⟩
  rw [← Int.natCast_ediv, ← Int.natCast_emod]
  exact q p hp
theorem ix_tupK (K : PySem.W.Frag) (h : X.K = K := by rfl) : IxR X (rIxT K) := by
  subst h
  exact ix_tup
theorem same_new2 {H H' : Hp} {p : Addr} {o : HO} (s : Same H H') (h : H' p = none) : Same H (upd H' p o) := Same.trans s (same_new h)
end
end TF

/-! set(a list of numbers) and sorted of such a set, up to 4,094 numbers -/
namespace L2
open PySem PySem.Spec PyProof.Rows
def rSetLong (K : PySem.W.Frag) (w : World) : List V → Hp → VK → Prop := fun xs H Q => ∃ (l : Addr) (ns : List Int), xs = [V.ref l] ∧ SqL K H l (ns.map V.int) ∧ ns.length < 4095 ∧
  ∀ (a : Addr) (c : Nat), H a = none → c ≤ ns.length → Q (.ref a) (upd H a (SetO w a (fun j => decide (j ∈ ns)) c))
theorem cr_setLong {X : Cx} (hc : X.calm = true) : CallR X (.type "set") (rSetLong X.K X.w) := by
  intro pins s σ H xs us Q I r h
  obtain ⟨l, ns, rfl, hl, few, q⟩ := h
  rw [Vals.ref1 r]
  obtain ⟨its, rv, pl, hz⟩ := I.list hl
  have hn : H s.heap.objs.size = none := I.hok.fresh (Nat.le_refl _)
  have small : ns.length + 1 < scanBound := by unfold scanBound; omega
  exact set_of_list ns (I.ok.hd hc) pl.isList (by simpa using ints_are rv) small fun h2 tk c R hcn k =>
    ⟨.ref s.heap.objs.size, _, I.laid (t' := tk) k (Nat.le_refl _) (setO_new R), rfl, q _ c hn hcn⟩
/-- the numbers of a set's rows, sorted -/
theorem set_sorted {P : Program} {w : World} {A : Around} {E : Value → Shared → Prop} {s : Shared} {a : Addr} {S : Int → Bool} {n : Nat} {Q : Value → Shared → Prop} (R : SetR w s.heap a S n) (hA : A.handled = none)
    (done : ∀ (t : Shared) (p : Addr) (row : Array Value) (c : Nat) (ks : List Int), (∀ b o, s.heap.get? b = some o → t.heap.get? b = some o) ∧ t.gens = s.gens ∧ t.os = s.os ∧ s.heap.objs.size ≤ p →
      t.heap.get? p = some (seqObj "list" row c) ∧ IntsAre row.toList ks → ks.Pairwise (· < ·) ∧ (∀ k, k ∈ ks ↔ S k = true) ∧ ks.length = n → Q (.ref p) t) :
    wpAny (model P w) A (call (.builtin "sorted") [.ref a]) Q E s := by
  obtain ⟨o, es, ep, tb, ho, hex, hd, g, nd, hm, hb, hf, hn, hr, hl⟩ := R
  refine Calls.call_function_entry kind_sorted plain_sorted entry_sorted (args_sorted1 _) ?_
  unfold Builtin.«sorted»
  refine wpAny_bind (m := checkCount "sorted" 1 1 _) (wpAny_pure (wpAny_bind ?_))
  refine collect_set (A := A.in1) hA ⟨o, ho, hex.1, hd⟩ hf hb hr hl fun t1 vs old1 size1 gens1 os1 pm => ?_
  have len : vs.length = n := by
    have := pm.length_eq
    rw [List.length_map, Array.length_toList] at this
    exact this.trans hn
  have few : vs.length < scanBound := by rw [len, ← hn]; exact hb
  have nums : IntsAre vs (vs.map Builtin.Re.reRawOf) := by
    refine ints_of vs fun v hv => ?_
    obtain ⟨e, he, q⟩ := List.mem_map.mp (pm.mem_iff.mp hv)
    obtain ⟨k, tk, h1, _⟩ := g e he
    exact ⟨k, tk, q ▸ h1⟩
  have keys : (vs.map Builtin.Re.reRawOf).Perm (es.toList.map keyOf) := by
    have := pm.map Builtin.Re.reRawOf
    rwa [List.map_map] at this
  have line : vs.length ≤ sizeLine := by
    have : scanBound = 4096 := rfl
    rw [sizeLine_eq]
    omega
  refine wpAny_bind (wpAny_newList ?_ (by simpa using line))
  have at1 : (t1.heap.push (seqObj "list" vs.toArray 0)).get? t1.heap.objs.size = some (seqObj "list" vs.toArray 0) := Heap.get?_push_size _ rfl
  refine wpAny_bind (wpAny_holding ?_)
  refine wpAny_call_entry PyProof.Rows.slot_list_sort ⟨_, at1, rfl⟩ PyProof.Rows.entry_list_sort ?_ (PyProof.Rows.args_list_sort _)
  refine SrtO.list_sort_ord SrtO.swo_int at1 line (fun h2 => SrtO.ints_sortable nums h2) fun out h1 h2 => ⟨_, rfl, ?_⟩
  obtain ⟨k1, k2, k3⟩ := SrtO.ints_out nums h1 h2
  obtain ⟨c, hc⟩ := PyProof.Rows.sortedHeap_at (vs := vs) (out := out.toArray) at1
  have all := k2.trans keys
  refine wpAny_pure ⟨_, rfl, done _ t1.heap.objs.size out.toArray c (out.map SrtO.iv) ⟨fun b u e => ?_, gens1, os1, size1⟩ ⟨hc, k1⟩ ⟨lt_of_le_nodup _ k3 (all.nodup_iff.mpr nd), fun k => ?_, ?_⟩⟩
  · have e1 := old1 b u e
    have lt := Heap.lt_size e1
    show (PyProof.Rows.sortedHeap (t1.heap.push (seqObj "list" vs.toArray 0)) t1.heap.objs.size vs out.toArray).get? b = some u
    rw [PyProof.Rows.sortedHeap_old (Nat.ne_of_lt lt) (by rw [Heap.size_push]; exact Nat.lt_succ_of_lt lt)]
    exact Heap.get?_push_of_some _ e1
  · rw [all.mem_iff, ← hm k]
  · have := all.length_eq
    rw [List.length_map, List.length_map, Array.length_toList] at this
    rw [List.length_map]
    exact this.trans hn
/-- sorted(found), any set of numbers -/
def rSortedSetI (w : World) : List V → Hp → VK → Prop := fun vs H Q => ∃ (a : Addr) (S : Int → Bool) (n : Nat), vs = [V.ref a] ∧ H a = some (SetO w a S n) ∧ n ≤ sizeLine ∧
  ∀ (ks : List Int) (p : Addr), ks.Pairwise (· < ·) → (∀ k : Int, k ∈ ks ↔ S k = true) → ks.length = n → H p = none → Q (.ref p) (upd H p (.lst (ks.map V.int)))
theorem cr_sortedSetI {X : Cx} (hc : X.calm = true) : CallR X (.builtin "sorted") (rSortedSetI X.w) := by
  intro pins s σ H vs us Q I r h
  obtain ⟨a, S, n, rfl, ha, hz, q⟩ := h
  rw [Vals.ref1 r]
  refine set_sorted (setO_get I ha) (I.ok.hd hc) fun t p row c ks ⟨k, g, o, hp⟩ ⟨hg, hi⟩ ⟨hs, hm, hl⟩ => ?_
  have free : H p = none := I.hok.fresh hp
  have lenOk : (ks.map V.int).length ≤ sizeLine := by rw [List.length_map, hl]; exact hz
  have J : Inv X pins σ (upd H p (.lst (ks.map V.int))) { s with heap := t.heap, gens := t.gens, drawn := t.drawn, toks := t.toks } := by
    refine I.call (ch := []) (Un.laid k hp free) (I.hok.laid k hp ⟨lenOk, row.toList, c, vals_of_ints hi, hg⟩) ?_ (fun _ z => nomatch z)
    rw [g]
    exact I.bare
  have same : t = { s with heap := t.heap, gens := t.gens, drawn := t.drawn, toks := t.toks } := by
    obtain ⟨t1, t2, t3, t4, t5⟩ := t
    cases o
    rfl
  rw [same]
  exact ⟨.ref p, _, J, rfl, q ks p hs hm hl free⟩
end L2

/-! sorted of a tuple of pairs of numbers -/
namespace SrtO
open PySem PySem.Spec PyProof.Rows Srt
section
open Sem (wp)
open AutoSeq1 (wpAny_loadPart')
variable {prog : Program} {w : World} {A : Around} {E : Value → Shared → Prop} {s : Shared}
/-- what is collected of a tuple: the heap has grown -/
theorem collect_tupS {Q : List Value → Shared → Prop} (it : Addr) {o : Obj} {xs : Array Value} {n : Nat} (g1 : s.heap.get? it = some o) (g2 : o.cls = .type "tuple") (g3 : o.data = .seq xs n) (hz : xs.size ≤ sizeLine)
    (hQ : ∀ h', (∀ b o', s.heap.get? b = some o' → h'.get? b = some o') → s.heap.objs.size ≤ h'.objs.size → Q xs.toList { s with heap := h' }) : wpAny (model prog w) A (collect (.ref it)) Q E s := by
  unfold collect; refine wpAny_bind (wpAny_runValue (codeAny_builtin F.entry_proto_collect ?_)); rw [Around.under_plainId F.plain_proto_collect _]
  show wpAny _ A.in1 (newList [] >>= fun y => again (.builtin "list.__iadd__" ⟨[y, .ref it], []⟩)) _ _ s
  refine wpAny_bind (wpAny_newObj_type (wpAny_pure ⟨plainId_quiet F.plain_list_iadd _, codeAny_builtin F.entry_list_iadd ?_⟩)); rw [Around.under_plainId F.plain_list_iadd _]
  have k1 : (s.heap.push { cls := .type "list", data := .seq ([] : List Value).toArray }).get? s.heap.objs.size = some { cls := .type "list", data := .seq #[] 0 } := Heap.get?_push_size _ rfl
  have k2 := Heap.get?_update_self (Obj.mapSeq (· ++ xs)) k1 rfl
  have last : wpAny (model prog w) A (match Value.ref s.heap.objs.size with | Value.ref a => (do match (← load a).data with | Data.seq ys _ => pure ys.toList | _ => unsupported "internal:collect") | _ => unsupported "internal:collect") Q E { s with heap := (s.heap.push { cls := .type "list", data := .seq ([] : List Value).toArray }).update s.heap.objs.size (Obj.mapSeq (· ++ xs)) } := by
    show wpAny _ A (load s.heap.objs.size >>= _) _ _ _; refine wpAny_bind (wpAny_load k2 (wpAny_pure ?_))
    have e : ((#[] : Array Value) ++ xs).toList = xs.toList := by simp
    show Q ((#[] : Array Value) ++ xs).toList _; rw [e]
    refine hQ _ (fun b o' hb => (Heap.get?_update_other _ _ (Nat.ne_of_gt (Heap.lt_size hb))).trans (Heap.get?_push_of_some _ hb)) ?_
    rw [Heap.size_update, Heap.size_push]; exact Nat.le_succ _
  refine wpAny_mono (wpAny_extend_seq (hsz := hz) (A := A) (R := fun r s' => r = .ok (.ret (.ref s.heap.objs.size)) ∧ s' = { s with heap := (s.heap.push { cls := .type "list", data := .seq ([] : List Value).toArray }).update s.heap.objs.size (Obj.mapSeq (· ++ xs)) }) (s := { s with heap := s.heap.push { cls := .type "list", data := .seq ([] : List Value).toArray } }) _ it _ 0 (.inr rfl) k1 (Heap.get?_push_of_some _ g1) g2 g3 ⟨rfl, rfl⟩) (fun fin s' h => ?_) (fun e s' h => absurd h.1 (by simp))
  cases fin with
  | done f => obtain ⟨e, rfl⟩ := h; cases e; exact last
  | again c' => exact ⟨h.1, codeAny_mono h.2 fun r s'' hr => by obtain ⟨rfl, rfl⟩ := hr; exact last⟩
end
theorem sorted_tupP {prog : Program} {w : World} {A : Around} {E : Value → Shared → Prop} {s : Shared} {l : Addr} {vs : List Value} {k : Value → Int × Int} {Q : Value → Shared → Prop} (hl : s.heap.IsTuple l vs.toArray) (hz : vs.length ≤ sizeLine) (hp : ∀ v ∈ vs, IsPair s.heap v (k v).1 (k v).2)
    (h : ∀ (h' : Heap) (d : Addr) (out : List Value), Srtd (fun v u => lexB (k v) (k u)) out → Stb (fun v u => lexB (k v) (k u)) out vs → (∀ b o, s.heap.get? b = some o → h'.get? b = some o) → s.heap.objs.size ≤ d → (∃ n, h'.get? d = some (seqObj "list" out.toArray n)) → Q (.ref d) { s with heap := h' }) :
    wpAny (model prog w) A (call (.builtin "sorted") [.ref l]) Q E s := by
  obtain ⟨o, ho, hc, n, hd⟩ := id hl
  refine Calls.call_function_entry kind_sorted plain_sorted entry_sorted (args_sorted1 _) ?_
  unfold Builtin.«sorted»
  refine wpAny_bind (m := checkCount "sorted" 1 1 _) (wpAny_pure ?_)
  refine wpAny_bind (collect_tupS l ho hc hd (by simpa using hz) fun h1 old1 big => ?_)
  have ev : vs.toArray.toList = vs := by simp
  rw [ev]
  refine wpAny_bind (wpAny_newList ?_ hz)
  have at1 : (h1.push (seqObj "list" vs.toArray 0)).get? h1.objs.size = some (seqObj "list" vs.toArray 0) := Heap.get?_push_size _ rfl
  have old2 : ∀ b u, s.heap.get? b = some u → (h1.push (seqObj "list" vs.toArray 0)).get? b = some u := fun b u e => Heap.get?_push_of_some _ (old1 b u e)
  refine wpAny_bind (wpAny_holding ?_)
  refine wpAny_call_entry PyProof.Rows.slot_list_sort ⟨_, at1, rfl⟩ PyProof.Rows.entry_list_sort ?_ (PyProof.Rows.args_list_sort _)
  refine list_sort_ord (swo_lex k) at1 hz (fun h2 => ?_) fun out hs hb => ⟨_, rfl, ?_⟩
  · refine pairs_sortableO (by omega) (fun v hm => (hp v hm).keeps fun b o e _ => old2 b o e) fun o e => ?_
    have e' : some o = some (seqObj "list" vs.toArray 0) := e.symm.trans at1
    cases e'
    intro c
    exact absurd (Value.type.inj c) (by decide)
  · obtain ⟨c, hc⟩ := PyProof.Rows.sortedHeap_at (vs := vs) (out := out.toArray) at1
    refine wpAny_pure ⟨_, rfl, h _ h1.objs.size out hs hb (fun b u e => ?_) big ⟨c, hc⟩⟩
    have e1 := old1 b u e
    have lt := Heap.lt_size e1
    show (PyProof.Rows.sortedHeap (h1.push (seqObj "list" vs.toArray 0)) h1.objs.size vs out.toArray).get? b = some u
    rw [PyProof.Rows.sortedHeap_old (Nat.ne_of_lt lt) (by rw [Heap.size_push]; exact Nat.lt_succ_of_lt lt)]
    exact old2 b u e
end SrtO
namespace L2
open PySem PySem.Spec PyProof.Rows Srt
def rSortedTP (K : PySem.W.Frag) : List V → Hp → VK → Prop := fun vs H Q => ∃ (a : Addr) (xs : List V) (k : V → Int × Int), vs = [V.ref a] ∧ SqT K H a xs ∧ (∀ x ∈ xs, ∃ t, x = V.ref t ∧ H t = some (.tup [.int (k x).1, .int (k x).2])) ∧
  ∀ ys p, SrtO.Srtd (ltP k) ys → SrtO.Stb (ltP k) ys xs → H p = none → Q (.ref p) (upd H p (.lst ys))
theorem cr_sortedTP {X : Cx} : CallR X (.builtin "sorted") (rSortedTP X.K) := by
  intro pins s σ H vs us Q I r h
  obtain ⟨a, xs, k, rfl, hs, hx, q⟩ := h
  obtain ⟨its, rv, hl, hz⟩ := I.tuple hs
  obtain ⟨u, rfl, ru⟩ := vals1 r
  obtain rfl : u = Value.ref a := ru
  obtain ⟨e1, e2⟩ := refs_back rv fun x m => by
    obtain ⟨t, e, _⟩ := hx x m
    exact ⟨t, e⟩
  refine SrtO.sorted_tupP (k := fun u => k (backV u)) hl (by rw [← rv.length]; exact hz) (fun v hv => ?_) fun h' d out h1 h2 kp hd hn => ?_
  · obtain ⟨t, rfl⟩ := e2 v hv
    have hm : V.ref t ∈ xs := by rw [e1]; exact List.mem_map.mpr ⟨_, hv, rfl⟩
    obtain ⟨t', e, ht⟩ := hx _ hm
    cases e
    obtain ⟨_, its2, r2, o, ho, hc, n, hd⟩ := I.hok _ _ ht
    obtain ⟨u1, u2, rfl, ri, rj⟩ := vals2 r2
    obtain ⟨t1, rfl⟩ := ri
    obtain ⟨t2, rfl⟩ := rj
    exact ⟨t, o, t1, t2, n, rfl, ho, hc, hd⟩
  · have h3 : ∀ u ∈ out, ∃ a, u = Value.ref a := fun u hu => e2 u (h2.perm.mem_iff.mp hu)
    obtain ⟨n, hn⟩ := hn
    have hb : SrtO.Stb (ltP k) (out.map backV) xs := by
      rw [e1]
      exact SrtO.Stb.map (ltP_swo k) backV h2
    refine ⟨.ref d, upd H d (.lst (out.map backV)), I.laid (t' := s.toks) kp hd ⟨?_, out, n, vals_back h3, hn⟩, rfl, q _ d (SrtO.srtd_map h1) hb (I.hok.fresh hd)⟩
    rw [hb.len]
    exact hz
end L2

namespace K02
open PySem PySem.Spec PyProof.Rows L2 TM TF
def topS (i : Nat) : Stmt := PySem.Challenge.pw_triplefree_k02_whole_ordered_sums.main.body.getD i (.Pass ⟨0, 0, 0, 0⟩)
abbrev s_is_whole : Stmt := topS 4
abbrev N_is_whole : List Str := ["value"]
theorem sc_is_whole : FnScope N_is_whole ["value"] (defScope s_is_whole) := ⟨rfl, rfl, rfl, by decide +kernel, rfl, by decide +kernel, by decide +kernel⟩
abbrev s_is_number : Stmt := topS 5
abbrev N_is_number : List Str := ["value"]
theorem sc_is_number : FnScope N_is_number ["value"] (defScope s_is_number) := ⟨rfl, rfl, rfl, by decide +kernel, rfl, by decide +kernel, by decide +kernel⟩
abbrev s_check_number : Stmt := topS 6
abbrev N_check_number : List Str := ["value"]
theorem sc_check_number : FnScope N_check_number ["value"] (defScope s_check_number) := ⟨rfl, rfl, rfl, by decide +kernel, rfl, by decide +kernel, by decide +kernel⟩
abbrev s_ternary_text : Stmt := topS 12
abbrev N_ternary_text : List Str := ["number", "parts", "block", "high", "low", "four"]
theorem sc_ternary_text : FnScope N_ternary_text ["number"] (defScope s_ternary_text) := ⟨rfl, rfl, rfl, by decide +kernel, rfl, by decide +kernel, by decide +kernel⟩
abbrev s_ternary_number : Stmt := topS 13
abbrev N_ternary_number : List Str := ["text", "head", "number", "place"]
theorem sc_ternary_number : FnScope N_ternary_number ["text"] (defScope s_ternary_number) := ⟨rfl, rfl, rfl, by decide +kernel, rfl, by decide +kernel, by decide +kernel⟩
abbrev s_base_member : Stmt := topS 14
abbrev N_base_member : List Str := ["number"]
theorem sc_base_member : FnScope N_base_member ["number"] (defScope s_base_member) := ⟨rfl, rfl, rfl, by decide +kernel, rfl, by decide +kernel, by decide +kernel⟩
abbrev s_in_base : Stmt := topS 15
abbrev N_in_base : List Str := ["x"]
theorem sc_in_base : FnScope N_in_base ["x"] (defScope s_in_base) := ⟨rfl, rfl, rfl, by decide +kernel, rfl, by decide +kernel, by decide +kernel⟩
abbrev s_number_of_twos : Stmt := topS 16
abbrev N_number_of_twos : List Str := ["text"]
theorem sc_number_of_twos : FnScope N_number_of_twos ["text"] (defScope s_number_of_twos) := ⟨rfl, rfl, rfl, by decide +kernel, rfl, by decide +kernel, by decide +kernel⟩
abbrev s_sum_count : Stmt := topS 17
abbrev N_sum_count : List Str := ["m"]
theorem sc_sum_count : FnScope N_sum_count ["m"] (defScope s_sum_count) := ⟨rfl, rfl, rfl, by decide +kernel, rfl, by decide +kernel, by decide +kernel⟩
abbrev s_sum_pairs : Stmt := topS 18
abbrev N_sum_pairs : List Str := ["m", "text", "low", "steps", "lesser", "place", "power", "number"]
theorem sc_sum_pairs : GScope N_sum_pairs ["m"] (defScope s_sum_pairs) := ⟨rfl, rfl, rfl, by decide +kernel, rfl, by decide +kernel, by decide +kernel⟩
theorem pl_sum_pairs : ∀ y ∈ (defScope s_sum_pairs).names, y.2 ≠ .cell ∧ y.2 ≠ .free := by decide +kernel
abbrev s_l_mixed : Stmt := topS 20
abbrev N_l_mixed : List Str := ["number", "k"]
theorem sc_l_mixed : FnScope N_l_mixed ["number", "k"] (defScope s_l_mixed) := ⟨rfl, rfl, rfl, by decide +kernel, rfl, by decide +kernel, by decide +kernel⟩
abbrev s_l_stream : Stmt := topS 21
abbrev N_l_stream : List Str := ["item", "k"]
theorem sc_l_stream : FnScope N_l_stream ["item", "k"] (defScope s_l_stream) := ⟨rfl, rfl, rfl, by decide +kernel, rfl, by decide +kernel, by decide +kernel⟩
abbrev s_l_draw : Stmt := topS 22
abbrev N_l_draw : List Str := ["stream", "top", "number"]
theorem sc_l_draw : FnScope N_l_draw ["stream", "top"] (defScope s_l_draw) := ⟨rfl, rfl, rfl, by decide +kernel, rfl, by decide +kernel, by decide +kernel⟩
abbrev s_l_number : Stmt := topS 23
abbrev N_l_number : List Str := ["stream", "way", "found", "turn"]
theorem sc_l_number : FnScope N_l_number ["stream"] (defScope s_l_number) := ⟨rfl, rfl, rfl, by decide +kernel, rfl, by decide +kernel, by decide +kernel⟩
abbrev s_l_digits : Stmt := topS 24
abbrev N_l_digits : List Str := ["given", "radix", "found"]
theorem sc_l_digits : FnScope N_l_digits ["given", "radix"] (defScope s_l_digits) := ⟨rfl, rfl, rfl, by decide +kernel, rfl, by decide +kernel, by decide +kernel⟩
abbrev s_l_pairs : Stmt := topS 25
abbrev N_l_pairs : List Str := ["given", "most", "found", "pair"]
theorem sc_l_pairs : FnScope N_l_pairs ["given", "most"] (defScope s_l_pairs) := ⟨rfl, rfl, rfl, by decide +kernel, rfl, by decide +kernel, by decide +kernel⟩
abbrev s_l_listed : Stmt := topS 26
abbrev N_l_listed : List Str := ["given", "plain", "one"]
theorem sc_l_listed : FnScope N_l_listed ["given"] (defScope s_l_listed) := ⟨rfl, rfl, rfl, by decide +kernel, rfl, by decide +kernel, by decide +kernel⟩
abbrev s_l_sums_right : Stmt := topS 27
abbrev N_l_sums_right : List Str := ["given", "many", "digit", "found", "pair", "least", "one", "two"]
theorem sc_l_sums_right : FnScope N_l_sums_right ["given"] (defScope s_l_sums_right) := ⟨rfl, rfl, rfl, by decide +kernel, rfl, by decide +kernel, by decide +kernel⟩
abbrev s_l_own_right : Stmt := topS 28
abbrev N_l_own_right : List Str := ["stream", "one", "two", "low", "high"]
theorem sc_l_own_right : FnScope N_l_own_right ["stream"] (defScope s_l_own_right) := ⟨rfl, rfl, rfl, by decide +kernel, rfl, by decide +kernel, by decide +kernel⟩
abbrev s_law : Stmt := topS 29
abbrev N_law : List Str := ["script", "k", "item", "stream", "turn", "found", "one", "two"]
theorem sc_law : FnScope N_law ["script"] (defScope s_law) := ⟨rfl, rfl, rfl, by decide +kernel, rfl, by decide +kernel, by decide +kernel⟩
structure Txt (K : PySem.W.Frag) (mg : Str → Option Value) where
  f_is_whole : Addr
  fd_is_whole : FuncData
  F_is_whole : Fun K "is_whole" "is_whole" s_is_whole f_is_whole fd_is_whole
  b_is_whole : Binds K fd_is_whole ["value"] []
  g_is_whole : mg "is_whole" = some (.ref f_is_whole)
  f_is_number : Addr
  fd_is_number : FuncData
  F_is_number : Fun K "is_number" "is_number" s_is_number f_is_number fd_is_number
  b_is_number : Binds K fd_is_number ["value"] []
  g_is_number : mg "is_number" = some (.ref f_is_number)
  f_check_number : Addr
  fd_check_number : FuncData
  F_check_number : Fun K "check_number" "check_number" s_check_number f_check_number fd_check_number
  b_check_number : Binds K fd_check_number ["value"] []
  g_check_number : mg "check_number" = some (.ref f_check_number)
  f_ternary_text : Addr
  fd_ternary_text : FuncData
  F_ternary_text : Fun K "ternary_text" "ternary_text" s_ternary_text f_ternary_text fd_ternary_text
  b_ternary_text : Binds K fd_ternary_text ["number"] []
  g_ternary_text : mg "ternary_text" = some (.ref f_ternary_text)
  f_ternary_number : Addr
  fd_ternary_number : FuncData
  F_ternary_number : Fun K "ternary_number" "ternary_number" s_ternary_number f_ternary_number fd_ternary_number
  b_ternary_number : Binds K fd_ternary_number ["text"] []
  g_ternary_number : mg "ternary_number" = some (.ref f_ternary_number)
  f_base_member : Addr
  fd_base_member : FuncData
  F_base_member : Fun K "base_member" "base_member" s_base_member f_base_member fd_base_member
  b_base_member : Binds K fd_base_member ["number"] []
  g_base_member : mg "base_member" = some (.ref f_base_member)
  f_in_base : Addr
  fd_in_base : FuncData
  F_in_base : Fun K "in_base" "in_base" s_in_base f_in_base fd_in_base
  b_in_base : Binds K fd_in_base ["x"] []
  g_in_base : mg "in_base" = some (.ref f_in_base)
  f_number_of_twos : Addr
  fd_number_of_twos : FuncData
  F_number_of_twos : Fun K "number_of_twos" "number_of_twos" s_number_of_twos f_number_of_twos fd_number_of_twos
  b_number_of_twos : Binds K fd_number_of_twos ["text"] []
  g_number_of_twos : mg "number_of_twos" = some (.ref f_number_of_twos)
  f_sum_count : Addr
  fd_sum_count : FuncData
  F_sum_count : Fun K "sum_count" "sum_count" s_sum_count f_sum_count fd_sum_count
  b_sum_count : Binds K fd_sum_count ["m"] []
  g_sum_count : mg "sum_count" = some (.ref f_sum_count)
  kb_sum_count : KB0 K fd_sum_count ["m"] ["m"] (fun l => l)
  f_sum_pairs : Addr
  fd_sum_pairs : FuncData
  F_sum_pairs : FunD K "sum_pairs" "sum_pairs" (defArgs s_sum_pairs) (defBody s_sum_pairs) (defScope s_sum_pairs) [] [] f_sum_pairs fd_sum_pairs
  b_sum_pairs : Binds K fd_sum_pairs ["m"] []
  g_sum_pairs : mg "sum_pairs" = some (.ref f_sum_pairs)
  kb_sum_pairs : KB0 K fd_sum_pairs ["m"] ["m"] (fun l => l)
  f_l_mixed : Addr
  fd_l_mixed : FuncData
  F_l_mixed : Fun K "_law_mixed" "_law_mixed" s_l_mixed f_l_mixed fd_l_mixed
  b_l_mixed : Binds K fd_l_mixed ["number", "k"] []
  g_l_mixed : mg "_law_mixed" = some (.ref f_l_mixed)
  f_l_stream : Addr
  fd_l_stream : FuncData
  F_l_stream : Fun K "_law_stream" "_law_stream" s_l_stream f_l_stream fd_l_stream
  b_l_stream : Binds K fd_l_stream ["item", "k"] []
  g_l_stream : mg "_law_stream" = some (.ref f_l_stream)
  f_l_draw : Addr
  fd_l_draw : FuncData
  F_l_draw : Fun K "_law_draw" "_law_draw" s_l_draw f_l_draw fd_l_draw
  b_l_draw : Binds K fd_l_draw ["stream", "top"] []
  g_l_draw : mg "_law_draw" = some (.ref f_l_draw)
  f_l_number : Addr
  fd_l_number : FuncData
  F_l_number : Fun K "_law_number" "_law_number" s_l_number f_l_number fd_l_number
  b_l_number : Binds K fd_l_number ["stream"] []
  g_l_number : mg "_law_number" = some (.ref f_l_number)
  f_l_digits : Addr
  fd_l_digits : FuncData
  F_l_digits : Fun K "_law_digits" "_law_digits" s_l_digits f_l_digits fd_l_digits
  b_l_digits : Binds K fd_l_digits ["given", "radix"] []
  g_l_digits : mg "_law_digits" = some (.ref f_l_digits)
  f_l_pairs : Addr
  fd_l_pairs : FuncData
  F_l_pairs : Fun K "_law_pairs" "_law_pairs" s_l_pairs f_l_pairs fd_l_pairs
  b_l_pairs : Binds K fd_l_pairs ["given", "most"] []
  g_l_pairs : mg "_law_pairs" = some (.ref f_l_pairs)
  f_l_listed : Addr
  fd_l_listed : FuncData
  F_l_listed : Fun K "_law_listed" "_law_listed" s_l_listed f_l_listed fd_l_listed
  b_l_listed : Binds K fd_l_listed ["given"] []
  g_l_listed : mg "_law_listed" = some (.ref f_l_listed)
  f_l_sums_right : Addr
  fd_l_sums_right : FuncData
  F_l_sums_right : Fun K "_law_sums_right" "_law_sums_right" s_l_sums_right f_l_sums_right fd_l_sums_right
  b_l_sums_right : Binds K fd_l_sums_right ["given"] []
  g_l_sums_right : mg "_law_sums_right" = some (.ref f_l_sums_right)
  f_l_own_right : Addr
  fd_l_own_right : FuncData
  F_l_own_right : Fun K "_law_own_right" "_law_own_right" s_l_own_right f_l_own_right fd_l_own_right
  b_l_own_right : Binds K fd_l_own_right ["stream"] []
  g_l_own_right : mg "_law_own_right" = some (.ref f_l_own_right)
  f_law : Addr
  fd_law : FuncData
  F_law : Fun K "law" "law" s_law f_law fd_law
  b_law : Binds K fd_law ["script"] []
  g_law : mg "law" = some (.ref f_law)
  m_isinstance : mg "isinstance" = none
  m_int : mg "int" = none
  m_bool : mg "bool" = none
  m_divmod : mg "divmod" = none
  m_reversed : mg "reversed" = none
  m_len : mg "len" = none
  m_range : mg "range" = none
  m_max : mg "max" = none
  m_repr : mg "repr" = none
  m_min : mg "min" = none
  m_sorted : mg "sorted" = none
  m_set : mg "set" = none
  m_enumerate : mg "enumerate" = none
  a_FOURS : Addr
  g_FOURS : mg "FOURS" = some (.ref a_FOURS)
  x_FOURS : ∀ H : Hp, SqT K H a_FOURS (fours.map V.str)
  t_BLOCK_POWER : Tok
  g_BLOCK_POWER : mg "BLOCK_POWER" = some (.int 43046721 t_BLOCK_POWER)
  t_PIECE : Tok
  g_PIECE : mg "PIECE" = some (.int 1024 t_PIECE)
section
variable {P : Program} {w : World} {K : PySem.W.Frag} {mg : Str → Option Value} {base : Heap}
/-! ### checks -/
def sp_is_whole (K : PySem.W.Frag) : Sp := fun vs H Q _ => ∃ i : Int, vs = [.int i] ∧ Q (.bl true) H
theorem ok_is_whole (T : Txt K mg) : FnOk P w K mg base CX0 1 T.f_is_whole T.fd_is_whole ["value"] (sp_is_whole K) := by
  have nd := sc_is_whole.nd
  refine T.F_is_whole.ok sc_is_whole (fun vs H Q E h => ?_) (fun cdv A outer s H vs Q E hr h => ?_)
  · obtain ⟨i, rfl, _⟩ := h
    rfl
  · obtain ⟨i, rfl, q⟩ := h
    refine ⟨_, (pss_one (ps_ret (pe_and (pe_callB call_isi (by rfl) T.m_isinstance (by decide +kernel) (pa_cons (pv 0) (pa_cons (pe_bltn (v := .ty "int") (by rfl) T.m_int (by decide +kernel) rfl) pa_nil))) (pe_one (pe_not (pe_callB call_isi (by rfl) T.m_isinstance (by decide +kernel) (pa_cons (pv 0) (pa_cons (pe_bltn (v := .ty "bool") (by rfl) T.m_bool (by decide +kernel) rfl) pa_nil)))))))), ?_⟩
    refine ⟨_, rfl, _, _, _, _, true, rfl, .ty "int", .base (.int i), kit_ty (by decide +kernel), true, rfl, iteT ?_⟩
    refine ⟨_, rfl, _, _, _, _, false, rfl, .ty "bool", .base (.int i), kit_ty (by decide +kernel), false, rfl, ?_⟩
    exact q
def sp_is_number (K : PySem.W.Frag) : Sp := fun vs H Q _ => ∃ n : Nat, vs = [vn n] ∧ Q (.bl true) H
theorem ok_is_number (T : Txt K mg) : FnOk P w K mg base CX0 2 T.f_is_number T.fd_is_number ["value"] (sp_is_number K) := by
  have nd := sc_is_number.nd
  refine T.F_is_number.ok sc_is_number (fun vs H Q E h => ?_) (fun cdv A outer s H vs Q E hr h => ?_)
  · obtain ⟨i, rfl, _⟩ := h
    rfl
  · obtain ⟨n, rfl, q⟩ := h
    refine ⟨_, (pss_one (ps_ret (pe_and (pe_call (ok_is_whole T) (hr.mono (by decide)) rfl T.g_is_whole T.F_is_whole.kp T.b_is_whole .nil pass0 (pa_cons (pv 0) pa_nil)) (pe_one (pe_cmpR op_ge (pv 0) pe_int (nomark _)))))), ?_⟩
    refine ⟨_, rfl, _, rfl, true, rfl, iteT ?_⟩
    refine ⟨_, rfl, _, _, rfl, rfl, ?_⟩
    show Q (.bl (decide ((0 : Int) ≤ (n : Int)))) H
    rw [decide_eq_true (show (0 : Int) ≤ (n : Int) by omega)]
    exact q
def sp_check_number (K : PySem.W.Frag) : Sp := fun vs H Q _ => ∃ n : Nat, vs = [vn n] ∧ Q .non H
theorem ok_check_number (T : Txt K mg) : FnOk P w K mg base CX0 3 T.f_check_number T.fd_check_number ["value"] (sp_check_number K) := by
  have nd := sc_check_number.nd
  refine T.F_check_number.ok sc_check_number (fun vs H Q E h => ?_) (fun cdv A outer s H vs Q E hr h => ?_)
  · obtain ⟨i, rfl, _⟩ := h
    rfl
  · obtain ⟨n, rfl, q⟩ := h
    refine ⟨_, (pss_one (ps_if (pt_not (pt_val (pe_call (ok_is_number T) (hr.mono (by decide)) rfl T.g_is_number T.F_is_number.kp T.b_is_number .nil pass0 (pa_cons (pv 0) pa_nil)))) (pss_one ps_never) pss_nil)), ?_⟩
    exact ⟨_, rfl, n, rfl, true, rfl, iteF q⟩
/-! ### the digits as a text -/
/-- sixteen digits, four by four -/
def chunk (b : Nat) : List Nat := pad 4 (b % 6561 % 81) ++ (pad 4 (b % 6561 / 81) ++ (pad 4 (b / 6561 % 81) ++ pad 4 (b / 6561 / 81)))
theorem chunk_len (b : Nat) : (chunk b).length = 16 := by
  unfold chunk
  rw [List.length_append, List.length_append, List.length_append, pad_len, pad_len, pad_len, pad_len]
theorem chunk_lt (b : Nat) : ∀ d ∈ chunk b, d < 3 := by
  intro d h
  unfold chunk at h
  rcases List.mem_append.mp h with h | h
  · exact pad_lt _ _ d h
  rcases List.mem_append.mp h with h | h
  · exact pad_lt _ _ d h
  rcases List.mem_append.mp h with h | h
  · exact pad_lt _ _ d h
  · exact pad_lt _ _ d h
theorem chunk_rd {b : Nat} (h : b < 43046721) : rd 3 (chunk b) = b := by
  unfold chunk
  rw [rd_append, rd_append, rd_append, pad_len, pad_len, pad_len, rd_pad, rd_pad, rd_pad, rd_pad]
  show _ % 81 + 81 * (_ % 81 + 81 * (_ % 81 + 81 * (_ % 81))) = b
  omega
theorem p16 : (3 : Nat) ^ 16 = 43046721 := by decide
/-- texts of chunks -/
def tx (L : List (List Nat)) : List V := (L.map fun l => SX.S (cs l)).map V.str
theorem tx_len (L : List (List Nat)) : (tx L).length = L.length := by unfold tx; rw [List.length_map, List.length_map]
theorem tx_snoc (L : List (List Nat)) (l : List Nat) : tx (L ++ [l]) = tx L ++ [V.str (SX.S (cs l))] := by unfold tx; rw [List.map_append, List.map_append]; rfl
theorem four_get {i : Nat} (h : i < 81) : atI (fours.map V.str) ((i : Nat) : Int) = some (V.str (SX.S (cs (pad 4 i)))) := atI_nat (fours_get h)
theorem four_len (i : Nat) : (SX.S (cs (pad 4 i))).length = 4 := by rw [SX.S_len, cs_len, pad_len]
theorem NP {i : Int} : Builtin.divisionGoesByPylong i 6561 = false := PyProof.noPylong_small (by decide)
theorem NP1 {i : Int} : Builtin.divisionGoesByPylong i 43046721 = false := PyProof.noPylong_small (by decide)
theorem NP2 {i : Int} : Builtin.divisionGoesByPylong i 81 = false := PyProof.noPylong_small (by decide)
/-- what the loops keep -/
structure Rest (n m : Nat) (L : List (List Nat)) : Prop where
  val : rd 3 L.flatten + 3 ^ L.flatten.length * m = n
  lt : ∀ d ∈ L.flatten, d < 3
  len : L.length ≤ L.flatten.length
  bd : L.flatten.length ≤ 4020
theorem Rest.small {n m : Nat} {L : List (List Nat)} (r : Rest n m L) (hm : 0 < m) (hn : n < 2 ^ 4000) : L.length < 4000 ∧ L.flatten.length < 4000 := by
  have h1 : 3 ^ L.flatten.length ≤ 3 ^ L.flatten.length * m := Nat.le_mul_of_pos_right _ hm
  have h2 := r.val
  have h3 := lt_of_pow (len := L.flatten.length) (n := n) (by omega) hn
  have := r.len
  exact ⟨by omega, h3⟩
theorem Rest.snoc {n m m' k : Nat} {L : List (List Nat)} {l : List Nat} (r : Rest n m L) (hl : l.length = k) (hk : 0 < k) (h3 : ∀ d ∈ l, d < 3) (hv : rd 3 l + 3 ^ k * m' = m) (h16 : k ≤ 16) (hL : L.flatten.length < 4000) : Rest n m' (L ++ [l]) := by
  refine ⟨?_, fun d h => ?_, ?_, ?_⟩
  · rw [List.flatten_append, show [l].flatten = l by simp, rd_append, List.length_append, hl, Nat.pow_add, ← r.val, ← hv, Nat.mul_add, Nat.mul_assoc, Nat.add_assoc]
  · rw [List.flatten_append, show [l].flatten = l by simp] at h
    rcases List.mem_append.mp h with h | h
    · exact r.lt d h
    · exact h3 d h
  · rw [List.flatten_append, show [l].flatten = l by simp, List.length_append, List.length_append, hl]
    have := r.len
    show L.length + 1 ≤ _
    omega
  · rw [List.flatten_append, show [l].flatten = l by simp, List.length_append, hl]
    omega
def sp_ternary_text (K : PySem.W.Frag) : Sp := fun vs H Q _ => ∃ n : Nat, vs = [vn n] ∧ n < 2 ^ 4000 ∧ ∀ H', Same H H' → Q (.str (SX.S (cs (digs 3 n)))) H'
theorem ok_ternary_text (T : Txt K mg) : FnOk P w K mg base CX0 1 T.f_ternary_text T.fd_ternary_text ["number"] (sp_ternary_text K) := by
  have nd := sc_ternary_text.nd
  refine T.F_ternary_text.ok sc_ternary_text (fun vs H Q E h => ?_) (fun cdv A outer s H vs Q E hr h => ?_)
  · obtain ⟨i, rfl, _⟩ := h
    rfl
  · obtain ⟨n, rfl, hn, q⟩ := h
    refine ⟨_, (pss_cons (ps_if (pt_cmpR op_lt (pv 0) pe_int (nomark _)) (pss_one (ps_ret (pe_bm PySem.F.plainAttrs_str PySem.F.slot_str_lstrip PySem.F.type_str_lstrip mt_lstripChars (pe_ix ix_tup (pe_glob (v := .ref T.a_FOURS) rfl T.g_FOURS rfl) (pv 0) (fun _ _ => rfl)) (pa_cons pe_str pa_nil)))) pss_nil)
      (pss_cons (ps_set (i := 1) nd rfl (.inl rfl) (pe_lst pa_nil))
      (pss_cons (ps_while PassesOwn.never (pt_cmpR op_ge (pv 0) (pe_glob (v := .int 43046721) rfl T.g_BLOCK_POWER ⟨_, rfl⟩) (nomark _)) (pss_cons (ps_asg (pe_callB call_divmodW (by rfl) T.m_divmod (by decide +kernel) (pa_cons (pv 0) (pa_cons (pe_glob (v := .int 43046721) rfl T.g_BLOCK_POWER ⟨_, rfl⟩) pa_nil))) (pg_tup (by rfl) (pgs_cons (pg_name (i := 0) nd rfl (.inl rfl)) (pgs_cons (pg_name (i := 2) nd rfl (.inl rfl)) pgs_nil))))
      (pss_cons (ps_asg (pe_callB call_divmodW (by rfl) T.m_divmod (by decide +kernel) (pa_cons (pv 2) (pa_cons pe_int pa_nil))) (pg_tup (by rfl) (pgs_cons (pg_name (i := 3) nd rfl (.inl rfl)) (pgs_cons (pg_name (i := 4) nd rfl (.inl rfl)) pgs_nil))))
      (pss_one (ps_expr (pe_bm PySem.F.plainAttrs_list PySem.F.slot_list_append PySem.F.type_list_append mt_append (pv 1) (pa_cons (pe_joined (.cons (pe_fmt (pe_ix ix_tup (pe_glob (v := .ref T.a_FOURS) rfl T.g_FOURS rfl) (pe_op op_fdivW (pv 3) pe_int) (fun _ _ => rfl))) (.cons (pe_fmt (pe_ix ix_tup (pe_glob (v := .ref T.a_FOURS) rfl T.g_FOURS rfl) (pe_op op_modN (pv 3) pe_int) (fun _ _ => rfl))) (.cons (pe_fmt (pe_ix ix_tup (pe_glob (v := .ref T.a_FOURS) rfl T.g_FOURS rfl) (pe_op op_fdivW (pv 4) pe_int) (fun _ _ => rfl))) (.cons (pe_fmt (pe_ix ix_tup (pe_glob (v := .ref T.a_FOURS) rfl T.g_FOURS rfl) (pe_op op_modN (pv 4) pe_int) (fun _ _ => rfl))) .nil))))) pa_nil)))))))
      (pss_cons (ps_while PassesOwn.never (pt_cmpR op_gt (pv 0) pe_int (nomark _)) (pss_cons (ps_asg (pe_callB call_divmodW (by rfl) T.m_divmod (by decide +kernel) (pa_cons (pv 0) (pa_cons pe_int pa_nil))) (pg_tup (by rfl) (pgs_cons (pg_name (i := 0) nd rfl (.inl rfl)) (pgs_cons (pg_name (i := 5) nd rfl (.inl rfl)) pgs_nil))))
      (pss_one (ps_expr (pe_bm PySem.F.plainAttrs_list PySem.F.slot_list_append PySem.F.type_list_append mt_append (pv 1) (pa_cons (pe_ix ix_tup (pe_glob (v := .ref T.a_FOURS) rfl T.g_FOURS rfl) (pv 5) (fun _ _ => rfl)) pa_nil))))))
      (pss_one (ps_ret (pe_bm PySem.F.plainAttrs_str PySem.F.slot_str_lstrip PySem.F.type_str_lstrip mt_lstripChars (RT.pe_joinRev rfl pe_str rfl T.m_reversed (pv 1)) (pa_cons pe_str pa_nil)))))))), ?_⟩
    refine ⟨_, rfl, _, _, rfl, rfl, _, rfl, ite2 (fun c => ?_) (fun c => ?_)⟩
    · have h81 : n < 81 := by have := of_decide_eq_true c; omega
      refine ⟨_, rfl, T.a_FOURS, _, _, _, rfl, rfl, T.x_FOURS _, four_get h81, rfl, _, _, rfl, rfl, ?_, ?_⟩
      · rw [four_len]; decide
      · rw [SX.lstrip_S, cs_strip (pad_lt 4 n), rd_pad, Nat.mod_eq_of_lt (show n < 3 ^ 4 from h81)]
        exact q H (fun _ _ e => e)
    refine ⟨Nat.zero_le _, fun p hp => ?_⟩
    refine while_by (fun σ H' => ∃ (m : Nat) (L : List (List Nat)) (y2 y3 y4 y5 : Option V), σ = [some (vn m), some (.ref p), y2, y3, y4, y5] ∧ Same H H' ∧ H' p = some (.lst (tx L)) ∧ Rest n m L)
      (fun σ _ => match σ with | some (.int m) :: _ => m.toNat | _ => 0) ⟨n, [], none, none, none, none, rfl, same_new hp, upd_same, by simp [rd], by simp, Nat.le_refl _, by simp⟩ ?_ ?_
    · rintro σ H' ⟨m, L, y2, y3, y4, y5, rfl, sm, e, r⟩
      refine ⟨_, rfl, _, _, rfl, rfl, _, rfl, ite2 (fun c => ?_) (fun c => ?_)⟩
      · have hm : 43046721 ≤ m := by have := of_decide_eq_true c; omega
        refine ⟨_, rfl, _, _, rfl, ⟨by decide, NP1⟩, fun t1 n1 => ?_⟩
        refine ⟨t1, [.int ((m : Int) / 43046721), .int ((m : Int) % 43046721)], rfl, SqT.of upd_same, rfl, _, [_], rfl, _, [], rfl, rfl, ?_⟩
        have e1 := same_new (o := .tup [.int ((m : Int) / 43046721), .int ((m : Int) % 43046721)]) n1 _ _ e
        have s1 := Same.trans sm (same_new (o := .tup [.int ((m : Int) / 43046721), .int ((m : Int) % 43046721)]) n1)
        generalize hH1 : upd H' t1 (.tup [.int ((m : Int) / 43046721), .int ((m : Int) % 43046721)]) = H1 at e1 s1 ⊢
        refine ⟨_, rfl, _, _, rfl, ⟨by decide, NP⟩, fun t2 n2 => ?_⟩
        refine ⟨t2, [.int ((m : Int) % 43046721 / 6561), .int ((m : Int) % 43046721 % 6561)], rfl, SqT.of upd_same, rfl, _, [_], rfl, _, [], rfl, rfl, ?_⟩
        have e2 := same_new (o := .tup [.int ((m : Int) % 43046721 / 6561), .int ((m : Int) % 43046721 % 6561)]) n2 _ _ e1
        have s2 := Same.trans s1 (same_new (o := .tup [.int ((m : Int) % 43046721 / 6561), .int ((m : Int) % 43046721 % 6561)]) n2)
        generalize hH2 : upd H1 t2 (.tup [.int ((m : Int) % 43046721 / 6561), .int ((m : Int) % 43046721 % 6561)]) = H2 at e2 s2 ⊢
        have hb : m % 43046721 < 43046721 := Nat.mod_lt _ (by decide)
        rw [show (m : Int) % 43046721 = ((m % 43046721 : Nat) : Int) from rfl]
        generalize hbm : m % 43046721 = b at hb ⊢
        have W81 : ∀ i : Int, CDivW i 81 := fun i => wide_div (b := 10) (by decide) (by decide) (by decide) (by decide)
        refine ⟨_, rfl, .inl ⟨rfl, _, SqL.of e2⟩, ?_⟩
        refine ⟨_, rfl, _, _, rfl, rfl, W81 _, T.a_FOURS, _, _, _, rfl, rfl, T.x_FOURS _, four_get (i := b / 6561 / 81) (by omega), .inl ⟨_, rfl, by rw [four_len]; decide, _, rfl, ?_, ?_⟩⟩
        · rw [PySem.Str.empty_append, four_len]; decide
        refine ⟨_, rfl, _, _, rfl, rfl, (by show (81 : Int) ≠ 0; decide), T.a_FOURS, _, _, _, rfl, (congrArg V.int (fmod_nat (b / 6561) 81)), T.x_FOURS _, four_get (i := b / 6561 % 81) (by omega), .inl ⟨_, rfl, by rw [four_len]; decide, _, rfl, ?_, ?_⟩⟩
        · rw [PySem.Str.empty_append, PySem.Str.length_append, four_len, four_len]; decide
        refine ⟨_, rfl, _, _, rfl, rfl, W81 _, T.a_FOURS, _, _, _, rfl, rfl, T.x_FOURS _, four_get (i := b % 6561 / 81) (by omega), .inl ⟨_, rfl, by rw [four_len]; decide, _, rfl, ?_, ?_⟩⟩
        · rw [PySem.Str.empty_append, PySem.Str.length_append, PySem.Str.length_append, four_len, four_len, four_len]; decide
        refine ⟨_, rfl, _, _, rfl, rfl, (by show (81 : Int) ≠ 0; decide), T.a_FOURS, _, _, _, rfl, (congrArg V.int (fmod_nat (b % 6561) 81)), T.x_FOURS _, four_get (i := b % 6561 % 81) (by omega), .inl ⟨_, rfl, by rw [four_len]; decide, _, rfl, ?_, ?_⟩⟩
        · rw [PySem.Str.empty_append, PySem.Str.length_append, PySem.Str.length_append, PySem.Str.length_append, four_len, four_len, four_len, four_len]; decide
        have hLl := r.small (by omega) hn
        refine ⟨p, _, _, rfl, rfl, e2, small_lt (b := 4000) (by rw [tx_len]; omega), ?_⟩
        have hs : (((Str.empty ++ SX.S (cs (pad 4 (b / 6561 / 81)))) ++ SX.S (cs (pad 4 (b / 6561 % 81)))) ++ SX.S (cs (pad 4 (b % 6561 / 81)))) ++ SX.S (cs (pad 4 (b % 6561 % 81))) = SX.S (cs (chunk b)) := by
          rw [PySem.Str.empty_append, cat_cs, cat_cs, cat_cs]
          rfl
        refine ⟨⟨m / 43046721, L ++ [chunk b], _, _, _, _, rfl, Same.mut s2 hp, ?_, r.snoc (chunk_len b) (by decide) (chunk_lt b) ?_ (by decide) hLl.2⟩, ?_⟩
        · rw [upd_same, tx_snoc, ← hs]
        · rw [chunk_rd hb, p16]
          omega
        · show (m / 43046721 : Nat) < m
          omega
      · refine while_by (fun σ H' => ∃ (m : Nat) (L : List (List Nat)) (y2 y3 y4 y5 : Option V), σ = [some (vn m), some (.ref p), y2, y3, y4, y5] ∧ Same H H' ∧ H' p = some (.lst (tx L)) ∧ Rest n m L)
          (fun σ _ => match σ with | some (.int m) :: _ => m.toNat | _ => 0) ⟨m, L, y2, y3, y4, y5, rfl, sm, e, r⟩ ?_ ?_
        · clear c sm e r y2 y3 y4 y5 L m H'
          rintro σ H' ⟨m, L, y2, y3, y4, y5, rfl, sm, e, r⟩
          refine ⟨_, rfl, _, _, rfl, rfl, _, rfl, ite2 (fun c => ?_) (fun c => ?_)⟩
          · have hm : 0 < m := by have := of_decide_eq_true c; omega
            refine ⟨_, rfl, _, _, rfl, ⟨by decide, NP2⟩, fun t1 n1 => ?_⟩
            refine ⟨t1, [.int ((m : Int) / 81), .int ((m : Int) % 81)], rfl, SqT.of upd_same, rfl, _, [_], rfl, _, [], rfl, rfl, ?_⟩
            have e1 := same_new (o := .tup [.int ((m : Int) / 81), .int ((m : Int) % 81)]) n1 _ _ e
            have s1 := Same.trans sm (same_new (o := .tup [.int ((m : Int) / 81), .int ((m : Int) % 81)]) n1)
            generalize hH1 : upd H' t1 (.tup [.int ((m : Int) / 81), .int ((m : Int) % 81)]) = H1 at e1 s1 ⊢
            refine ⟨_, rfl, .inl ⟨rfl, _, SqL.of e1⟩, ?_⟩
            refine ⟨_, rfl, T.a_FOURS, _, _, _, rfl, rfl, T.x_FOURS _, four_get (i := m % 81) (by omega), ?_⟩
            have hLl := r.small hm hn
            refine ⟨p, _, _, rfl, rfl, e1, small_lt (b := 4000) (by rw [tx_len]; omega), ?_⟩
            refine ⟨⟨m / 81, L ++ [pad 4 (m % 81)], _, _, _, _, rfl, Same.mut s1 hp, ?_, r.snoc (pad_len _ _) (by decide) (pad_lt _ _) ?_ (by decide) hLl.2⟩, ?_⟩
            · rw [upd_same, tx_snoc]
            · rw [rd_pad]
              show m % 81 % 81 + 81 * (m / 81) = m
              omega
            · show (m / 81 : Nat) < m
              omega
          · have hm : m = 0 := by
              have : ¬ (0 : Int) < (m : Int) := fun z => c (decide_eq_true z)
              omega
            subst hm
            have hv := r.val
            rw [Nat.mul_zero, Nat.add_zero] at hv
            refine ⟨⟨_, rfl⟩, _, rfl, _, p, L.map (fun l => SX.S (cs l)), rfl, rfl, SqL.of e, ?_, rfl, _, _, rfl, rfl, ?_, ?_⟩
            · rw [chunks_len]
              show L.flatten.length + (L.map fun l => SX.S (cs l)).length * 0 ≤ _
              have := r.bd
              omega
            · show (Txt.join Str.empty _).length ≤ _
              rw [chunks_text, SX.S_len, cs_len]
              exact Nat.le_trans r.bd (by decide)
            · show Q (.str (Txt.lstripChars (Txt.join Str.empty _) _)) H'
              rw [chunks_text, SX.lstrip_S, cs_strip r.lt, hv]
              exact q H' sm
        · rintro σ H' Q1 Q2 imp ⟨v, h1, i, j, h2, h3, k, h4, h5⟩
          exact ⟨v, h1, i, j, h2, h3, k, h4, imp _ _ h5⟩
    · rintro σ H' Q1 Q2 imp ⟨v, h1, i, j, h2, h3, k, h4, h5⟩
      exact ⟨v, h1, i, j, h2, h3, k, h4, imp _ _ h5⟩
end
end K02

namespace K02
open PySem PySem.Spec PyProof.Rows L2 TM TF
theorem pow_up {n a b : Nat} (h : n < 2 ^ a) (hab : a ≤ b) : n < 2 ^ b := Nat.lt_of_lt_of_le h (Nat.pow_le_pow_right (by decide) hab)
theorem B_big {n a : Nat} (h : n < 2 ^ a) : B n < 2 ^ (2 * a) := by
  have h1 := B_bound h
  have h2 : 3 ^ a ≤ 4 ^ a := Nat.pow_le_pow_left (by decide) a
  have h3 : (2 : Nat) ^ (2 * a) = 4 ^ a := Nat.pow_mul 2 2 a
  omega
theorem zero_cat (l : List Nat) : ("0" : Str) ++ SX.S l = SX.S (48 :: l) := SX.S_cat [48] l
section
variable {P : Program} {w : World} {K : PySem.W.Frag} {mg : Str → Option Value} {base : Heap}
def sp_ternary_number (K : PySem.W.Frag) : Sp := fun vs H Q _ => ∃ l : List Nat, vs = [.str (SX.S l)] ∧ l.length ≤ 610 ∧ (∀ c ∈ l, Dg.IsB 3 c) ∧ Q (vn (bnum 3 (48 :: l))) H
theorem ok_ternary_number (T : Txt K mg) : FnOk P w K mg base CX0 1 T.f_ternary_number T.fd_ternary_number ["text"] (sp_ternary_number K) := by
  have nd := sc_ternary_number.nd
  refine T.F_ternary_number.ok sc_ternary_number (fun vs H Q E h => ?_) (fun cdv A outer s H vs Q E hr h => ?_)
  · obtain ⟨i, rfl, _⟩ := h
    rfl
  · obtain ⟨l, rfl, hl, hr, q⟩ := h
    refine ⟨_, (pss_cons (ps_if (pt_cmpR op_lt (pe_callB call_len (by rfl) T.m_len PySem.boot_len (pa_cons (pv 0) pa_nil)) (pe_glob (v := .int 1024) rfl T.g_PIECE ⟨_, rfl⟩) (nomark _)) (pss_one (ps_ret (pe_callTy call_int_b (by rfl) T.m_int (by decide +kernel) (pa_cons (pe_op op_add_str pe_str (pv 0)) (pa_cons pe_int pa_nil))))) pss_nil)
      (pss_cons ps_never
      (pss_cons ps_never
      (pss_cons ps_never
      (pss_one ps_never))))), ?_⟩
    have h1 : (SX.S l).length ≤ 610 := by rw [SX.S_len]; exact hl
    refine ⟨_, rfl, _, _, rfl, ⟨Nat.le_trans h1 (by decide), rfl⟩, _, _, rfl, rfl, _, rfl, ite2 (fun c => ?_) (fun c => ?_)⟩
    · refine ⟨_, rfl, _, _, rfl, rfl, ?_, 48 :: l, 3, ?_, .inr rfl, rfl, ?_, ?_, q⟩
      · have : ("0" : Str).length = 1 := rfl
        rw [this]
        exact Nat.le_trans (Nat.add_le_add_left h1 1) (by decide)
      · rw [zero_cat]
        rfl
      · show l.length + 1 ≤ 640
        omega
      · intro c hc
        rcases List.mem_cons.mp hc with e | e
        · rw [e]; exact ⟨by decide, by decide⟩
        · exact hr c e
    · exact absurd (decide_eq_true (show ((SX.S l).length : Int) < 1024 by omega)) c
def sp_base_member (K : PySem.W.Frag) : Sp := fun vs H Q _ => ∃ n : Nat, vs = [vn n] ∧ n < 2 ^ 600 ∧ ∀ H', Same H H' → Q (vn (B n)) H'
theorem ok_base_member (T : Txt K mg) : FnOk P w K mg base CX0 4 T.f_base_member T.fd_base_member ["number"] (sp_base_member K) := by
  have nd := sc_base_member.nd
  refine T.F_base_member.ok sc_base_member (fun vs H Q E h => ?_) (fun cdv A outer s H vs Q E hr h => ?_)
  · obtain ⟨i, rfl, _⟩ := h
    rfl
  · obtain ⟨n, rfl, hn, q⟩ := h
    refine ⟨_, (pss_cons (ps_expr (pe_call (ok_check_number T) (hr.mono (by decide)) rfl T.g_check_number T.F_check_number.kp T.b_check_number .nil pass0 (pa_cons (pv 0) pa_nil)))
      (pss_one (ps_ret (pe_call (ok_ternary_number T) (hr.mono (by decide)) rfl T.g_ternary_number T.F_ternary_number.kp T.b_ternary_number .nil pass0 (pa_cons (pe_bin (pv 0)) pa_nil))))), ?_⟩
    have hl := bt_len hn (by decide)
    refine ⟨_, rfl, n, rfl, _, rfl, n, rfl, Nat.le_trans hl (by decide), bt n, rfl, Nat.le_trans hl (by decide), fun c hc => ?_, ?_⟩
    · have := bt_range n c hc
      exact ⟨this.1, by omega⟩
    · rw [bt_rd]
      exact q H (fun _ _ e => e)
def sp_in_base (K : PySem.W.Frag) : Sp := fun vs H Q _ => ∃ n : Nat, vs = [vn n] ∧ n < 2 ^ 4000 ∧ ∀ H', Same H H' → Q (.bl (decide (TM.plain n))) H'
theorem ok_in_base (T : Txt K mg) : FnOk P w K mg base CX0 4 T.f_in_base T.fd_in_base ["x"] (sp_in_base K) := by
  have nd := sc_in_base.nd
  refine T.F_in_base.ok sc_in_base (fun vs H Q E h => ?_) (fun cdv A outer s H vs Q E hr h => ?_)
  · obtain ⟨i, rfl, _⟩ := h
    rfl
  · obtain ⟨n, rfl, hn, q⟩ := h
    refine ⟨_, (pss_cons (ps_expr (pe_call (ok_check_number T) (hr.mono (by decide)) rfl T.g_check_number T.F_check_number.kp T.b_check_number .nil pass0 (pa_cons (pv 0) pa_nil)))
      (pss_one (ps_ret (pe_cmpR op_notIn_sign pe_str (pe_call (ok_ternary_text T) (hr.mono (by decide)) rfl T.g_ternary_text T.F_ternary_text.kp T.b_ternary_text .nil pass0 (pa_cons (pv 0) pa_nil)) rfl)))), ?_⟩
    refine ⟨_, rfl, n, rfl, _, rfl, n, rfl, hn, fun H' sm => ?_⟩
    refine ⟨50, _, rfl, rfl, ?_⟩
    show Q (.bl (!decide (50 ∈ cs (digs 3 n)))) H'
    rw [show (!decide (50 ∈ cs (digs 3 n))) = decide (TM.plain n) by by_cases hh : plain n <;> simp [cs_two, hh]]
    exact q H' sm

/-! ### plain pairs -/
theorem none_of {H H' : Hp} {t : Addr} (s : Same H H') (h : H' t = none) : H t = none := by
  cases e : H t with
  | none => rfl
  | some o => rw [s _ _ e] at h; cases h
theorem repl_cs (c d : Nat) (ds : List Nat) : Txt.replace (SX.S (cs ds)) (SX.S [c + 48]) (SX.S [d + 48]) = SX.S (cs (ds.map fun x => if x = c then d else x)) := by
  rw [SX.repl_S]
  congr 1
  refine cs_map _ _ ds fun x _ => ?_
  show (if x + 48 = c + 48 then d + 48 else x + 48) = (if x = c then d else x) + 48
  by_cases h : x = c
  · rw [if_pos (by omega), if_pos h]
  · rw [if_neg (by omega), if_neg h]
theorem repl_fit {ds : List Nat} {z : Str} (h : ds.length ≤ 610) (hz : z.length = 1) : (SX.S (cs ds)).length + ((SX.S (cs ds)).length + 1) * z.length ≤ 16777216 := by
  rw [SX.S_len, cs_len, hz]
  omega
def sp_number_of_twos (K : PySem.W.Frag) : Sp := fun vs H Q _ => ∃ ds : List Nat, vs = [.str (SX.S (cs ds))] ∧ ds.length ≤ 610 ∧ (∀ d ∈ ds, d < 3) ∧ Q (vn (rd 3 (ds.map tw))) H
theorem ok_number_of_twos (T : Txt K mg) : FnOk P w K mg base CX0 2 T.f_number_of_twos T.fd_number_of_twos ["text"] (sp_number_of_twos K) := by
  have nd := sc_number_of_twos.nd
  refine T.F_number_of_twos.okT sc_number_of_twos (by decide +kernel) (by decide) (fun vs H Q E h => ?_) (fun cdv A outer s H vs Q E hr h => ?_)
  · obtain ⟨i, rfl, _⟩ := h
    rfl
  · obtain ⟨ds, rfl, hl, hd, q⟩ := h
    refine ⟨_, (CwR.psst_one (CwR.pst_ret (pet_call (ok_ternary_number T) (hr.mono (by decide)) rfl T.g_ternary_number T.F_ternary_number.kp T.b_ternary_number .nil pass0 (pat_cons (CwR.pet_replT (CwR.pet_replC (pv 0))) pat_nil)))), ?_⟩
    have e1 : Txt.replace (SX.S (cs ds)) ("1" : Str) ("0" : Str) = SX.S (cs (ds.map fun x => if x = 1 then 0 else x)) := repl_cs 1 0 ds
    have e2 : Txt.replace (SX.S (cs (ds.map fun x => if x = 1 then 0 else x))) ("2" : Str) ("1" : Str) = SX.S (cs ((ds.map fun x => if x = 1 then 0 else x).map fun x => if x = 2 then 1 else x)) := repl_cs 2 1 _
    have e3 : ((ds.map fun x => if x = 1 then 0 else x).map fun x => if x = 2 then 1 else x) = ds.map tw := by
      rw [List.map_map]
      refine List.map_congr_left fun x hx => ?_
      have := hd x hx
      rcases (show x = 0 ∨ x = 1 ∨ x = 2 by omega) with rfl | rfl | rfl <;> rfl
    refine ⟨_, rfl, _, rfl, repl_fit hl rfl, _, rfl, ?_, ?_⟩
    · rw [e1]
      exact repl_fit (by rw [List.length_map]; exact hl) rfl
    rw [e1, e2, e3]
    refine ⟨cs (ds.map tw), rfl, by rw [cs_len, List.length_map]; exact hl, fun c hc => ?_, ?_⟩
    · refine cs_range (r := 3) (fun d hd' => ?_) c hc
      obtain ⟨x, _, rfl⟩ := List.mem_map.mp hd'
      unfold tw
      split <;> omega
    · rw [bnum_zero]
      exact q
end
end K02

namespace K02
open PySem PySem.Spec PyProof.Rows L2 TM TF
section
variable {P : Program} {w : World} {K : PySem.W.Frag} {mg : Str → Option Value} {base : Heap}
/-! ### the law's draws -/
def sp_l_mixed (K : PySem.W.Frag) : Sp := fun vs H Q _ => ∃ (n : Int) (k : Nat), vs = [.int n, vn k] ∧ k < 2 ^ 40 ∧ ∀ r : Nat, r < 2147483629 → Q (vn r) H
theorem ok_l_mixed (T : Txt K mg) : FnOk P w K mg base CX0 1 T.f_l_mixed T.fd_l_mixed ["number", "k"] (sp_l_mixed K) := by
  have nd := sc_l_mixed.nd
  refine T.F_l_mixed.ok sc_l_mixed (fun vs H Q E h => ?_) (fun cdv A outer s H vs Q E hr h => ?_)
  · obtain ⟨n, k, rfl, _⟩ := h
    rfl
  · obtain ⟨n, k, rfl, hk, q⟩ := h
    refine ⟨_, (pss_cons (ps_set (i := 0) nd rfl (.inl rfl) (pe_op op_modN (pe_op op_mulW (pe_op op_add (pe_op op_add (pe_op op_modN (pv 0) pe_int) (pe_op op_mulW (pe_op op_mulW pe_int (pv 1)) (pv 1))) (pe_op op_mulW pe_int (pv 1))) pe_int) pe_int))
      (pss_one (ps_ret (pe_op op_modN (pe_op op_mulW (pv 0) (pe_op op_add pe_int (pe_op op_mulW pe_int (pv 1)))) pe_int)))), ?_⟩
    have k1 : (k : Int).natAbs < 2 ^ 40 := by omega
    have u1 : (7919 * (k : Int)).natAbs < 2 ^ 53 := by omega
    have u2 : (7919 * (k : Int) * (k : Int)).natAbs < 2 ^ (53 + 40) := wide_lt u1 k1
    have u3 : 0 ≤ n.fmod 2147483647 ∧ n.fmod 2147483647 < 2147483647 := by
      rw [Int.fmod_eq_emod_of_nonneg _ (by decide)]
      omega
    have u4 : (n.fmod 2147483647 + 7919 * (k : Int) * (k : Int) + 31 * (k : Int)).natAbs < 2 ^ 100 := by
      generalize 7919 * (k : Int) * (k : Int) = z at u2 ⊢
      omega
    have w1 : CMulW 7919 (k : Int) := wide_mul (a := 13) (b := 40) (by decide) k1 (by decide) (by decide) (by decide)
    have w2 : CMulW (7919 * (k : Int)) (k : Int) := wide_mul (a := 53) (b := 40) u1 k1 (by decide) (by decide) (by decide)
    have w3 : CMulW 31 (k : Int) := wide_mul (a := 13) (b := 40) (by decide) k1 (by decide) (by decide) (by decide)
    have w4 : CMulW (n.fmod 2147483647 + 7919 * (k : Int) * (k : Int) + 31 * (k : Int)) 48271 := wide_mul (a := 100) (b := 40) u4 (by decide) (by decide) (by decide) (by decide)
    refine ⟨_, rfl, _, _, rfl, rfl, (by show (2147483647 : Int) ≠ 0; decide), _, rfl, _, _, rfl, rfl, w1, _, rfl, _, _, rfl, rfl, w2, _, _, rfl, rfl, _, rfl, _, _, rfl, rfl, w3, _, _, rfl, rfl, _, _, rfl, rfl, w4, _, _, rfl, rfl, (by show (2147483647 : Int) ≠ 0; decide), ?_⟩
    obtain ⟨z, hz⟩ : ∃ z, ((n.fmod 2147483647 + 7919 * (k : Int) * (k : Int) + 31 * (k : Int)) * 48271).fmod 2147483647 = z := ⟨_, rfl⟩
    have hz2 : 0 ≤ z ∧ z < 2147483647 := by
      rw [← hz, Int.fmod_eq_emod_of_nonneg _ (by decide)]
      omega
    have w5 : CMulW 2 (k : Int) := wide_mul (a := 13) (b := 40) (by decide) k1 (by decide) (by decide) (by decide)
    have w6 : CMulW z (69621 + 2 * (k : Int)) := wide_mul (a := 40) (b := 60) (by omega) (by omega) (by decide) (by decide) (by decide)
    have hr2 : 0 ≤ (z * (69621 + 2 * (k : Int))).fmod 2147483629 ∧ (z * (69621 + 2 * (k : Int))).fmod 2147483629 < 2147483629 := by
      rw [Int.fmod_eq_emod_of_nonneg _ (by decide)]
      omega
    have fin := q ((z * (69621 + 2 * (k : Int))).fmod 2147483629).toNat (by omega)
    unfold vn at fin
    rw [Int.toNat_of_nonneg hr2.1, ← hz] at fin
    rw [← hz] at w6
    exact ⟨_, rfl, _, rfl, _, _, rfl, rfl, w5, _, _, rfl, rfl, _, _, rfl, rfl, w6, _, _, rfl, rfl, (by show (2147483629 : Int) ≠ 0; decide), fin⟩
/-- a stream of draws stands at p -/
abbrev Strm (a b c : Nat) : HO := .lst [vn a, vn b, vn c]
def sp_l_stream (K : PySem.W.Frag) : Sp := fun vs H Q _ => ∃ (n : Int) (k : Nat), vs = [.int n, vn k] ∧ k < 2 ^ 40 ∧
  ∀ H' p a c, Same H H' → H p = none → H' p = some (Strm a 0 c) → c < 2147483629 → Q (.ref p) H'
theorem ok_l_stream (T : Txt K mg) : FnOk P w K mg base CX0 2 T.f_l_stream T.fd_l_stream ["item", "k"] (sp_l_stream K) := by
  have nd := sc_l_stream.nd
  refine T.F_l_stream.ok sc_l_stream (fun vs H Q E h => ?_) (fun cdv A outer s H vs Q E hr h => ?_)
  · obtain ⟨n, k, rfl, _⟩ := h
    rfl
  · obtain ⟨n, k, rfl, hk, q⟩ := h
    refine ⟨_, (pss_one (ps_ret (pe_lst (pa_cons (pe_ifExp (pt_cmpR op_ge (pv 0) (pe_op op_pow pe_int pe_int) (nomark _)) (pv 0) pe_int) (pa_cons pe_int (pa_cons (pe_call (ok_l_mixed T) (hr.mono (by decide)) rfl T.g_l_mixed T.F_l_mixed.kp T.b_l_mixed .nil pass0 (pa_cons (pv 0) (pa_cons (pv 1) pa_nil))) pa_nil)))))), ?_⟩
    refine ⟨_, rfl, _, _, rfl, rfl, ⟨by decide, by decide, by decide⟩, _, _, rfl, rfl, _, rfl, ite2 (fun c => ?_) (fun c => ?_)⟩
    · have hn : (10 : Int) ^ 18 ≤ n := of_decide_eq_true c
      refine ⟨_, rfl, _, rfl, _, rfl, n, k, rfl, hk, fun r hr => ⟨(by show 3 ≤ sizeLine; decide), fun p hp => ?_⟩⟩
      refine q _ p n.toNat r (same_new hp) hp ?_ hr
      rw [upd_same]
      unfold Strm vn
      rw [Int.toNat_of_nonneg (by omega)]
      rfl
    · refine ⟨_, rfl, _, rfl, n, k, rfl, hk, fun r hr => ⟨(by show 3 ≤ sizeLine; decide), fun p hp => ?_⟩⟩
      exact q _ p 0 r (same_new hp) hp upd_same hr
def sp_l_draw (K : PySem.W.Frag) : Sp := fun vs H Q _ => ∃ (p : Addr) (top a b c : Nat), vs = [.ref p, vn top] ∧ H p = some (Strm a b c) ∧ 0 < top ∧ top < 2 ^ 300 ∧ b < 2 ^ 39 ∧ c < 2147483629 ∧
  ∀ a' r, r < top → Q (vn r) (upd H p (Strm a' (b + 1) c))
theorem ok_l_draw (T : Txt K mg) : FnOk P w K mg base CX0 2 T.f_l_draw T.fd_l_draw ["stream", "top"] (sp_l_draw K) := by
  have nd := sc_l_draw.nd
  refine T.F_l_draw.ok sc_l_draw (fun vs H Q E h => ?_) (fun cdv A outer s H vs Q E hr h => ?_)
  · obtain ⟨p, top, a, b, c, rfl, _⟩ := h
    rfl
  · obtain ⟨p, top, a, b, c, rfl, hp, ht, ht2, hb, hc, q⟩ := h
    refine ⟨_, (pss_cons (ps_asg (pe_op op_add (pe_ix (ix_listK K) (pv 0) pe_int (fun _ _ => rfl)) pe_int) (pg_sub (pv 0) pe_int set_list))
      (pss_cons (ps_if (pt_cmpR op_eq (pe_ix (ix_listK K) (pv 0) pe_int (fun _ _ => rfl)) pe_int (nomark _)) (pss_one (ps_ret (pe_op op_modN (pe_call (ok_l_mixed T) (hr.mono (by decide)) rfl T.g_l_mixed T.F_l_mixed.kp T.b_l_mixed .nil pass0 (pa_cons (pe_call (ok_l_mixed T) (hr.mono (by decide)) rfl T.g_l_mixed T.F_l_mixed.kp T.b_l_mixed .nil pass0 (pa_cons (pe_ix (ix_listK K) (pv 0) pe_int (fun _ _ => rfl)) (pa_cons (pe_ix (ix_listK K) (pv 0) pe_int (fun _ _ => rfl)) pa_nil))) (pa_cons pe_int pa_nil))) (pv 1)))) pss_nil)
      (pss_cons (ps_set (i := 2) nd rfl (.inl rfl) (pe_op op_modN (pe_ix (ix_listK K) (pv 0) pe_int (fun _ _ => rfl)) (pv 1)))
      (pss_cons (ps_asg (pe_op op_fdivW (pe_ix (ix_listK K) (pv 0) pe_int (fun _ _ => rfl)) (pv 1)) (pg_sub (pv 0) pe_int set_list))
      (pss_one (ps_ret (pv 2))))))), ?_⟩
    refine ⟨_, rfl, p, _, _, _, rfl, rfl, SqL.of hp, atI_nat (j := 1) rfl, _, _, rfl, rfl, _, rfl, p, _, _, 1, rfl, rfl, hp, rfl, ?_⟩
    have e1 : upd H p (.lst ([vn a, vn b, vn c].set 1 (.int ((b : Int) + 1)))) p = some (Strm a (b + 1) c) := upd_same
    refine ⟨_, rfl, p, _, _, _, rfl, rfl, SqL.of e1, atI_nat (j := 0) rfl, rfl, _, rfl, ite2 (fun c0 => ?_) (fun c0 => ?_)⟩
    · refine ⟨_, rfl, p, _, _, _, rfl, rfl, SqL.of e1, atI_nat (j := 2) rfl, _, rfl, p, _, _, _, rfl, rfl, SqL.of e1, atI_nat (j := 1) rfl, (c : Int), b + 1, rfl, by omega, fun r1 h1 => ?_⟩
      refine ⟨(r1 : Int), 7, rfl, by decide, fun r2 h2 => ⟨_, rfl, _, _, rfl, rfl, (by show (top : Int) ≠ 0; omega), ?_⟩⟩
      have e : (V.int ((r2 : Int).fmod (top : Int))) = vn (r2 % top) := congrArg V.int (fmod_nat r2 top)
      show Q (V.int ((r2 : Int).fmod (top : Int))) _
      rw [e]
      have a0 : a = 0 := by have := V.int.inj (of_decide_eq_true c0); omega
      exact q a (r2 % top) (Nat.mod_lt _ ht)
    · have t1 : ((top : Int)).natAbs < 2 ^ 300 := by omega
      refine ⟨_, rfl, p, _, _, _, rfl, rfl, SqL.of e1, atI_nat (j := 0) rfl, _, rfl, _, _, rfl, rfl, (by show (top : Int) ≠ 0; omega), ?_⟩
      refine ⟨_, rfl, p, _, _, _, rfl, rfl, SqL.of e1, atI_nat (j := 0) rfl, _, rfl, _, _, rfl, rfl, wide_div (by omega) t1 (by decide) (by decide), _, rfl, p, _, _, 0, rfl, rfl, e1, rfl, ?_⟩
      refine ⟨_, rfl, ?_⟩
      have e : (V.int ((a : Int).fmod (top : Int))) = vn (a % top) := congrArg V.int (fmod_nat a top)
      show Q (V.int ((a : Int).fmod (top : Int))) _
      rw [e, upd_upd]
      exact q (a / top) (a % top) (Nat.mod_lt _ ht)
def sp_l_number (K : PySem.W.Frag) : Sp := fun vs H Q _ => ∃ (p : Addr) (a b c : Nat), vs = [.ref p] ∧ H p = some (Strm a b c) ∧ b + 200 < 2 ^ 39 ∧ c < 2147483629 ∧
  ∀ a' b' r, b' ≤ b + 130 → r < 2 ^ 200 → Q (vn r) (upd H p (Strm a' b' c))
theorem ok_l_number (T : Txt K mg) : FnOk P w K mg base CX0 3 T.f_l_number T.fd_l_number ["stream"] (sp_l_number K) := by
  have nd := sc_l_number.nd
  refine T.F_l_number.ok sc_l_number (fun vs H Q E h => ?_) (fun cdv A outer s H vs Q E hr h => ?_)
  · obtain ⟨p, a, b, c, rfl, _⟩ := h
    rfl
  · obtain ⟨p, a, b, c, rfl, hp, hb, hc, q⟩ := h
    refine ⟨_, (pss_cons (ps_set (i := 1) nd rfl (.inl rfl) (pe_call (ok_l_draw T) (hr.mono (by decide)) rfl T.g_l_draw T.F_l_draw.kp T.b_l_draw .nil pass0 (pa_cons (pv 0) (pa_cons pe_int pa_nil))))
      (pss_cons (ps_if (pt_cmpR op_eq (pv 1) pe_int (nomark _)) (pss_one (ps_ret (pe_call (ok_l_draw T) (hr.mono (by decide)) rfl T.g_l_draw T.F_l_draw.kp T.b_l_draw .nil pass0 (pa_cons (pv 0) (pa_cons pe_int pa_nil))))) pss_nil)
      (pss_cons (ps_if (pt_cmpR op_eq (pv 1) pe_int (nomark _)) (pss_one (ps_ret (pe_op op_add (pe_op op_mulW (pe_call (ok_l_draw T) (hr.mono (by decide)) rfl T.g_l_draw T.F_l_draw.kp T.b_l_draw .nil pass0 (pa_cons (pv 0) (pa_cons (pe_op op_pow pe_int pe_int) pa_nil))) (pe_op op_pow pe_int pe_int)) (pe_call (ok_l_draw T) (hr.mono (by decide)) rfl T.g_l_draw T.F_l_draw.kp T.b_l_draw .nil pass0 (pa_cons (pv 0) (pa_cons (pe_op op_pow pe_int pe_int) pa_nil)))))) pss_nil)
      (pss_cons (ps_set (i := 2) nd rfl (.inl rfl) pe_int)
      (pss_cons (ps_for PassesOwn.never rfl (pi_range1 rfl T.m_range (pa_cons (pe_call (ok_l_draw T) (hr.mono (by decide)) rfl T.g_l_draw T.F_l_draw.kp T.b_l_draw .nil pass0 (pa_cons (pv 0) (pa_cons pe_int pa_nil))) pa_nil)) (pg_name (i := 3) nd rfl (.inl rfl)) (pss_one (ps_set (i := 2) nd rfl (.inl rfl) (pe_op op_add (pe_op op_mulW pe_int (pv 2)) (pe_ifExp (pt_cmpR op_eq (pv 1) pe_int (nomark _)) (pe_call (ok_l_draw T) (hr.mono (by decide)) rfl T.g_l_draw T.F_l_draw.kp T.b_l_draw .nil pass0 (pa_cons (pv 0) (pa_cons pe_int pa_nil))) pe_int)))))
      (pss_one (ps_ret (pe_callB (call_max2 rfl) (by rfl) T.m_max (by decide +kernel) (pa_cons pe_int (pa_cons (pe_op op_sub (pe_op op_add (pv 2) (pe_call (ok_l_draw T) (hr.mono (by decide)) rfl T.g_l_draw T.F_l_draw.kp T.b_l_draw .nil pass0 (pa_cons (pv 0) (pa_cons pe_int pa_nil)))) pe_int) pa_nil)))))))))), ?_⟩
    refine ⟨_, rfl, p, 4, a, b, c, rfl, hp, by decide, by decide, by omega, hc, fun a1 way h1 => ?_⟩
    have e1 : upd H p (Strm a1 (b + 1) c) p = some (Strm a1 (b + 1) c) := upd_same
    refine ⟨_, rfl, rfl, _, rfl, ite2 (fun c0 => ?_) (fun c0 => ?_)⟩
    · refine ⟨_, rfl, p, 100, a1, b + 1, c, rfl, e1, by decide, by decide, by omega, hc, fun a2 r h2 => ?_⟩
      rw [upd_upd]
      exact q a2 (b + 2) r (by omega) (Nat.lt_trans h2 (by decide))
    refine ⟨_, rfl, rfl, _, rfl, ite2 (fun c1 => ?_) (fun c1 => ?_)⟩
    · refine ⟨_, rfl, _, _, rfl, rfl, ⟨by decide, by decide, by decide⟩, p, 10 ^ 30, a1, b + 1, c, rfl, e1, by decide, by decide, by omega, hc, fun a2 r h2 => ?_⟩
      have e2 : upd (upd H p (Strm a1 (b + 1) c)) p (Strm a2 (b + 2) c) p = some (Strm a2 (b + 2) c) := upd_same
      refine ⟨_, _, rfl, rfl, ⟨by decide, by decide, by decide⟩, _, _, rfl, rfl, wide_mul (a := 100) (b := 100) (Nat.lt_trans (show r < 10 ^ 30 from h2) (by decide)) (by decide) (by decide) (by decide) (by decide), ?_⟩
      refine ⟨_, rfl, _, _, rfl, rfl, ⟨by decide, by decide, by decide⟩, p, 10 ^ 30, a2, b + 2, c, rfl, e2, by decide, by decide, by omega, hc, fun a3 r' h3 => ⟨_, _, rfl, rfl, ?_⟩⟩
      rw [upd_upd, upd_upd]
      refine q a3 (b + 3) (r * 10 ^ 30 + r') (by omega) ?_
      have : r * 10 ^ 30 + r' < 10 ^ 30 * 10 ^ 30 := by
        have h2' : r < 10 ^ 30 := h2
        have h3' : r' < 10 ^ 30 := h3
        omega
      exact Nat.lt_trans this (by decide)
    · refine ⟨_, rfl, p, 120, a1, b + 1, c, rfl, e1, by decide, by decide, by omega, hc, fun a2 n2 h2 => ⟨n2, rfl, by omega, by omega, ?_⟩⟩
      refine for_it (walk_range (lo := 0) (n := n2)) (fun i σ H' => ∃ (a' b' f : Nat) (y3 : Option V), σ = [some (.ref p), some (vn way), some (vn f), y3] ∧ b' ≤ b + 2 + i ∧ H' = upd H p (Strm a' b' c) ∧ f < 2 * 3 ^ i)
        ⟨a2, b + 2, 1, none, rfl, by omega, upd_upd, by decide⟩ (fun _ _ _ _ _ => trivial) ?_ ?_
      · rintro i x σ H1 H2 hi ⟨a', b', f, y3, rfl, hb', rfl, hf⟩ ⟨rfl, rfl⟩
        have e2 : upd H p (Strm a' b' c) p = some (Strm a' b' c) := upd_same
        have f1 : f < 2 ^ 250 := by
          have : 3 ^ i ≤ 3 ^ 120 := Nat.pow_le_pow_right (by decide) (by omega)
          have : 2 * 3 ^ 120 < 2 ^ 250 := by decide +kernel
          omega
        have w1 : CMulW 3 (f : Int) := wide_mul (a := 2) (b := 250) (by decide) (by omega) (by decide) (by decide) (by decide)
        have hp3 : 3 ^ (i + 1) = 3 ^ i * 3 := Nat.pow_succ ..
        refine ⟨_, rfl, _, _, rfl, rfl, w1, _, rfl, rfl, _, rfl, ite2 (fun c2 => ?_) (fun c2 => ?_)⟩
        · refine ⟨_, rfl, p, 2, a', b', c, rfl, e2, by decide, by decide, by omega, hc, fun a3 r h3 => ⟨_, _, rfl, rfl, ⟨a3, b' + 1, 3 * f + r, some (.int (0 + (i : Int))), rfl, by omega, upd_upd, ?_⟩⟩⟩
          rw [hp3]
          omega
        · refine ⟨_, _, rfl, rfl, ⟨a', b', 3 * f + 0, some (.int (0 + (i : Int))), rfl, by omega, rfl, ?_⟩⟩
          rw [hp3]
          omega
      · rintro σ H1 ⟨a', b', f, y3, rfl, hb', rfl, hf⟩
        have e2 : upd H p (Strm a' b' c) p = some (Strm a' b' c) := upd_same
        have f1 : f < 2 ^ 195 := by
          have : 3 ^ n2 ≤ 3 ^ 120 := Nat.pow_le_pow_right (by decide) (by omega)
          have : 2 * 3 ^ 120 < 2 ^ 195 := by decide +kernel
          omega
        refine ⟨_, rfl, _, rfl, p, 3, a', b', c, rfl, e2, by decide, by decide, by omega, hc, fun a3 r h3 => ⟨_, _, rfl, rfl, _, _, rfl, rfl, _, _, rfl, ?_⟩⟩
        rw [upd_upd]
        have fin := q a3 (b' + 1) (f + r - 1) (by omega) (by omega)
        have ev : (V.int (if (f : Int) + (r : Int) - 1 > 0 then (f : Int) + (r : Int) - 1 else 0)) = vn (f + r - 1) := by
          unfold vn
          congr 1
          split <;> omega
        show Q (V.int (if (f : Int) + (r : Int) - 1 > 0 then (f : Int) + (r : Int) - 1 else 0)) _
        rw [ev]
        exact fin
/-! ### the law's digits -/
def Digits (H : Hp) (r n : Nat) (Q : VK) : Prop := ∀ H' p, Same H H' → H p = none → H' p = some (.lst ((digs r n).map vn)) → Q (.ref p) H'
def sp_l_digits (K : PySem.W.Frag) : Sp := fun vs H Q _ => ∃ n r : Nat, vs = [vn n, vn r] ∧ n < 2 ^ 1000 ∧ 2 ≤ r ∧ r < 2 ^ 60 ∧ Digits H r n Q
theorem ok_l_digits (T : Txt K mg) : FnOk P w K mg base CX0 1 T.f_l_digits T.fd_l_digits ["given", "radix"] (sp_l_digits K) := by
  have nd := sc_l_digits.nd
  refine T.F_l_digits.ok sc_l_digits (fun vs H Q E h => ?_) (fun cdv A outer s H vs Q E hr h => ?_)
  · obtain ⟨n, r, rfl, _⟩ := h
    rfl
  · obtain ⟨n, r, rfl, hn, hr2, hr3, q⟩ := h
    refine ⟨_, (pss_cons (ps_set (i := 2) nd rfl (.inl rfl) (pe_lst pa_nil))
      (pss_cons (ps_while PassesOwn.never (pt_cmpR op_gt (pv 0) pe_int (nomark _)) (pss_cons (ps_expr (pe_bm PySem.F.plainAttrs_list PySem.F.slot_list_append PySem.F.type_list_append mt_append (pv 2) (pa_cons (pe_op op_modN (pv 0) (pv 1)) pa_nil)))
      (pss_one (ps_set (i := 0) nd rfl (.inl rfl) (pe_op op_fdivW (pv 0) (pv 1))))))
      (pss_one (ps_ret (pv 2))))), ?_⟩
    refine ⟨Nat.zero_le _, fun p hp => ?_⟩
    have hlen := digs_len hr2 1000 n hn
    have rb : ((r : Int)).natAbs < 2 ^ 60 := by omega
    refine while_by (fun σ H' => ∃ (m : Nat) (acc : List Nat), σ = [some (vn m), some (vn r), some (.ref p)] ∧ Same H H' ∧ H' p = some (.lst (acc.map vn)) ∧ acc ++ digs r m = digs r n)
      (fun σ _ => match σ with | some (.int m) :: _ => m.toNat | _ => 0) ⟨n, [], rfl, same_new hp, upd_same, rfl⟩ ?_ ?_
    · rintro σ H' ⟨m, acc, rfl, sm, e, ea⟩
      refine ⟨_, rfl, _, _, rfl, rfl, _, rfl, ite2 (fun c => ?_) (fun c => ?_)⟩
      · have hm : 0 < m := by have := of_decide_eq_true c; omega
        have hl : (acc.map vn).length ≤ 1000 := by
          have := congrArg List.length ea
          rw [List.length_append] at this
          rw [List.length_map]; omega
        refine ⟨_, rfl, .inl ⟨rfl, _, SqL.of e⟩, _, rfl, _, rfl, _, _, rfl, rfl, (by show (r : Int) ≠ 0; omega), _, _, _, rfl, rfl, e, small_lt hl, ?_⟩
        refine ⟨_, rfl, _, rfl, _, _, rfl, rfl, wide_div (by omega) rb (by decide) (by decide), ⟨m / r, acc ++ [m % r], ?_, ?_, ?_, ?_⟩, ?_⟩
        · rfl
        · exact Same.mut sm hp
        · rw [upd_same, List.map_append]
          exact congrArg (fun z => some (HO.lst (acc.map vn ++ [V.int z]))) (fmod_nat m r)
        · rw [List.append_assoc, ← ea, digs_pos hr2 hm]
          rfl
        · show (((m : Int) / ((r : Nat) : Int)).toNat) < (m : Int).toNat
          rw [div_nat, Int.toNat_natCast, Int.toNat_natCast]
          exact Nat.div_lt_self hm (by omega)
      · have hm : m = 0 := by
          have : ¬ (0 : Int) < (m : Int) := fun z => c (decide_eq_true z)
          omega
        subst hm
        rw [digs_zero, List.append_nil] at ea
        subst ea
        exact ⟨_, rfl, q H' p sm hp e⟩
    · rintro σ H' Q1 Q2 imp ⟨v, h1, i, j, h2, h3, k, h4, h5⟩
      exact ⟨v, h1, i, j, h2, h3, k, h4, imp _ _ h5⟩
end
end K02

/-! M24: a number as a sum of two plain ones: by its digits (lowest first) and a number n whose bits say who takes the ones -/
namespace TM
def LO : List Nat → Nat → Nat
  | [], _ => 0
  | d :: ds, n => if d = 1 then n % 2 + 3 * LO ds (n / 2) else tw d + 3 * LO ds n
def HI : List Nat → Nat → Nat
  | [], _ => 0
  | d :: ds, n => if d = 1 then 1 - n % 2 + 3 * HI ds (n / 2) else tw d + 3 * HI ds n
def on : List Nat → Nat
  | [] => 0
  | d :: ds => if d = 1 then on ds + 1 else on ds
theorem tw_le (d : Nat) : tw d ≤ 1 := by unfold tw; split <;> omega
theorem LO_HI : ∀ (ds : List Nat) (n : Nat), (∀ d ∈ ds, d < 3) → LO ds n + HI ds n = rd 3 ds
  | [], _, _ => rfl
  | d :: ds, n, h => by
    have h0 := h d List.mem_cons_self
    have hr := fun m => LO_HI ds m fun x hx => h x (List.mem_cons_of_mem _ hx)
    simp only [LO, HI, rd]
    by_cases e : d = 1
    · rw [if_pos e, if_pos e]
      have := hr (n / 2)
      omega
    · rw [if_neg e, if_neg e]
      have := hr n
      have ht : 2 * tw d = d := by
        unfold tw
        rcases (show d = 0 ∨ d = 2 by omega) with rfl | rfl <;> rfl
      omega
theorem LO_plain : ∀ (ds : List Nat) (n : Nat), plain (LO ds n)
  | [], _ => plain_zero
  | d :: ds, n => by
    simp only [LO]
    by_cases e : d = 1
    · rw [if_pos e]
      exact (plain_step (Nat.mod_lt _ (by decide))).mpr (LO_plain ds _)
    · rw [if_neg e]
      exact (plain_step (Nat.lt_succ_of_le (tw_le d))).mpr (LO_plain ds _)
theorem HI_plain : ∀ (ds : List Nat) (n : Nat), plain (HI ds n)
  | [], _ => plain_zero
  | d :: ds, n => by
    simp only [HI]
    by_cases e : d = 1
    · rw [if_pos e]
      exact (plain_step (by omega)).mpr (HI_plain ds _)
    · rw [if_neg e]
      exact (plain_step (Nat.lt_succ_of_le (tw_le d))).mpr (HI_plain ds _)
theorem LO_lt : ∀ (ds : List Nat) (n n' : Nat), n < n' → n' < 2 ^ on ds → LO ds n < LO ds n'
  | [], n, n', h, h' => by
    simp only [on, Nat.pow_zero] at h'
    omega
  | d :: ds, n, n', h, h' => by
    simp only [LO]
    by_cases e : d = 1
    · simp only [on, if_pos e, Nat.pow_succ] at h'
      rw [if_pos e, if_pos e]
      by_cases e2 : n / 2 = n' / 2
      · rw [e2]
        omega
      · have := LO_lt ds (n / 2) (n' / 2) (by omega) (by omega)
        omega
    · simp only [on, if_neg e] at h'
      rw [if_neg e, if_neg e]
      have := LO_lt ds n n' h h'
      omega
theorem plain_parts {a : Nat} (h : plain a) : a % 3 < 2 ∧ plain (a / 3) := by
  have e : a = a % 3 + 3 * (a / 3) := by omega
  by_cases h2 : a % 3 < 2
  · rw [e] at h
    exact ⟨h2, (plain_step h2).mp h⟩
  · have e2 : a = 2 + 3 * (a / 3) := by omega
    rw [e2] at h
    exact absurd h not_plain_two
theorem LO_all : ∀ (ds : List Nat) (a b : Nat), (∀ d ∈ ds, d < 3) → plain a → plain b → a + b = rd 3 ds → ∃ n, n < 2 ^ on ds ∧ LO ds n = a ∧ HI ds n = b
  | [], a, b, _, _, _, h => by
    simp only [rd] at h
    exact ⟨0, by decide, by simp only [LO]; omega, by simp only [HI]; omega⟩
  | d :: ds, a, b, hd, ha, hb, h => by
    obtain ⟨a1, a2⟩ := plain_parts ha
    obtain ⟨b1, b2⟩ := plain_parts hb
    have hd0 := hd d List.mem_cons_self
    simp only [rd] at h
    obtain ⟨n, h1, h2, h3⟩ := LO_all ds (a / 3) (b / 3) (fun x hx => hd x (List.mem_cons_of_mem _ hx)) a2 b2 (by omega)
    by_cases e : d = 1
    · refine ⟨a % 3 + 2 * n, ?_, ?_, ?_⟩
      · simp only [on, if_pos e, Nat.pow_succ]
        omega
      · simp only [LO, if_pos e]
        rw [show (a % 3 + 2 * n) / 2 = n by omega, h2]
        omega
      · simp only [HI, if_pos e]
        rw [show (a % 3 + 2 * n) / 2 = n by omega, h3]
        omega
    · refine ⟨n, by simp only [on, if_neg e]; exact h1, ?_, ?_⟩
      · simp only [LO, if_neg e, h2, tw]
        rcases (show d = 0 ∨ d = 2 by omega) with rfl | rfl <;> simp <;> omega
      · simp only [HI, if_neg e, h3, tw]
        rcases (show d = 0 ∨ d = 2 by omega) with rfl | rfl <;> simp <;> omega
/-- the place of one number t -/
def ep : List Nat → Nat → Nat
  | [], _ => 0
  | d :: ds, t => if d = 1 then (if t = 0 then 0 else 1 + ep ds (t - 1)) else 1 + ep ds t
/-- the lesser ones' sum -/
def ls (ds : List Nat) : Nat → Nat
  | 0 => 0
  | t + 1 => ls ds t + 3 ^ ep ds t
theorem ls_other {d : Nat} {ds : List Nat} (e : d ≠ 1) : ∀ t, ls (d :: ds) t = 3 * ls ds t
  | 0 => rfl
  | t + 1 => by
    simp only [ls, ls_other e t, ep, if_neg e, Nat.pow_add, Nat.pow_one, Nat.mul_add]
theorem ls_one {ds : List Nat} : ∀ t, ls (1 :: ds) (t + 1) = 1 + 3 * ls ds t
  | 0 => by simp [ls, ep]
  | t + 1 => by
    rw [ls, ls_one t]
    simp only [ls, ep, if_true, if_neg (Nat.succ_ne_zero t), Nat.add_sub_cancel, Nat.pow_add, Nat.pow_one, Nat.mul_add]
    omega
theorem LO_step : ∀ (ds : List Nat) (n : Nat), 0 < n → n < 2 ^ on ds → LO ds n + ls ds (ev n) = LO ds (n - 1) + 3 ^ ep ds (ev n) ∧ ev n < on ds
  | [], n, h, h' => by
    simp only [on, Nat.pow_zero] at h'
    omega
  | d :: ds, n, h, h' => by
    by_cases e : d = 1
    · subst e
      simp only [on, if_true, Nat.pow_succ] at h'
      rcases (show n % 2 = 1 ∨ n % 2 = 0 by omega) with ho | he
      · have en : ev n = 0 := by rw [show n = 1 + 2 * (n / 2) by omega, ev_odd]
        rw [en]
        simp only [LO, if_true, ls, ep, on]
        rw [show (n - 1) / 2 = n / 2 by omega]
        omega
      · have hm : 0 < n / 2 := by omega
        have en : ev n = ev (n / 2) + 1 := by
          conv => lhs; rw [show n = 2 * (n / 2) by omega]
          exact ev_even hm
        obtain ⟨i1, i2⟩ := LO_step ds (n / 2) hm (by omega)
        rw [en]
        simp only [LO, if_true, ls_one, ep, if_neg (Nat.succ_ne_zero _), Nat.add_sub_cancel, on, Nat.pow_add, Nat.pow_one]
        rw [show (n - 1) / 2 = n / 2 - 1 by omega]
        exact ⟨by omega, by omega⟩
    · simp only [on, if_neg e] at h'
      obtain ⟨i1, i2⟩ := LO_step ds n h h'
      simp only [LO, if_neg e, ls_other e, ep, on, Nat.pow_add, Nat.pow_one]
      exact ⟨by omega, i2⟩
theorem LO_zero : ∀ ds : List Nat, LO ds 0 = rd 3 (ds.map tw)
  | [] => rfl
  | d :: ds => by
    simp only [LO, List.map_cons, rd, Nat.zero_mod, Nat.zero_div]
    by_cases e : d = 1
    · subst e
      rw [if_pos rfl, LO_zero ds]
      rfl
    · rw [if_neg e, LO_zero ds]
theorem ep_mono : ∀ (ds : List Nat) (t : Nat), t + 1 < on ds → ep ds t < ep ds (t + 1)
  | [], t, h => by simp only [on] at h; omega
  | d :: ds, t, h => by
    by_cases e : d = 1
    · simp only [on, if_pos e] at h
      simp only [ep, if_pos e, if_neg (Nat.succ_ne_zero t), Nat.add_sub_cancel]
      by_cases h0 : t = 0
      · rw [if_pos h0]; omega
      · rw [if_neg h0]
        have := ep_mono ds (t - 1) (by omega)
        rw [show t - 1 + 1 = t by omega] at this
        omega
    · simp only [on, if_neg e] at h
      simp only [ep, if_neg e]
      have := ep_mono ds t h
      omega
/-- where they stand -/
theorem ep_get : ∀ (ds : List Nat) (t : Nat), t < on ds → ds[ep ds t]? = some 1 ∧ (ds.take (ep ds t)).count 1 = t
  | [], t, h => by simp only [on] at h; omega
  | d :: ds, t, h => by
    by_cases e : d = 1
    · subst e
      simp only [on, if_true] at h
      simp only [ep, if_true]
      by_cases h0 : t = 0
      · rw [if_pos h0, h0]
        exact ⟨rfl, rfl⟩
      · rw [if_neg h0]
        obtain ⟨i1, i2⟩ := ep_get ds (t - 1) (by omega)
        rw [Nat.add_comm 1]
        refine ⟨by rw [List.getElem?_cons_succ]; exact i1, ?_⟩
        rw [List.take_succ_cons, List.count_cons_self, i2]
        omega
    · simp only [on, if_neg e] at h
      simp only [ep, if_neg e]
      obtain ⟨i1, i2⟩ := ep_get ds t h
      rw [Nat.add_comm 1]
      refine ⟨by rw [List.getElem?_cons_succ]; exact i1, ?_⟩
      rw [List.take_succ_cons, List.count_cons_of_ne (by omega), i2]
theorem on_count : ∀ ds : List Nat, on ds = ds.count 1
  | [] => rfl
  | d :: ds => by
    by_cases e : d = 1
    · subst e
      simp only [on, if_true, List.count_cons_self, on_count ds]
    · simp only [on, if_neg e, List.count_cons_of_ne (show d ≠ 1 from e), on_count ds]
end TM

/-! D7: one sign in a text: how often, and its last place -/
namespace SX
open PySem PySem.Builtin PySem.Builtin.Str
theorem at_one {l : List Nat} {c hi i : Nat} (hh : hi ≤ l.length) : StrLaws.At (S l) (S [c]) hi i ↔ i < hi ∧ l[i]? = some c := by
  have e : (S [c]).length = 1 := S_len [c]
  have e2 := S_len l
  constructor
  · rintro ⟨h1, h2⟩
    exact ⟨by omega, (StrLaws.subAt_one (S l) c i).mp ⟨by show i + (S [c]).length ≤ _; omega, h2⟩⟩
  · rintro ⟨h1, h2⟩
    exact ⟨by omega, ((StrLaws.subAt_one (S l) c i).mpr h2).2⟩
theorem last_one (l : List Nat) (c hi : Nat) (hh : hi ≤ l.length) : (lastOccurrence (S l) (S [c]) 0 hi = none ∧ ∀ i, i < hi → l[i]? ≠ some c) ∨ ∃ i, lastOccurrence (S l) (S [c]) 0 hi = some i ∧ i < hi ∧ l[i]? = some c ∧ ∀ k, i < k → k < hi → l[k]? ≠ some c := by
  rw [StrLaws.last_eq]
  have key := StrLaws.last_run (S l) (S [c]) hi (List.range' 0 (hi + 1 - 0)) [] none (fun _ h => nomatch h) (fun _ h => nomatch h) (by simpa using List.pairwise_lt_range' (s := 0) (n := hi + 1 - 0))
  have mem : ∀ i, i < hi → i ∈ [] ++ List.range' 0 (hi + 1 - 0) := fun i h => by simp [List.mem_range'] <;> omega
  cases hr : (forIn (List.range' 0 (hi + 1 - 0)) none (StrLaws.lastBody (S l) (S [c]) hi)).run with
  | none =>
    rw [hr] at key
    exact .inl ⟨rfl, fun i hi' z => key i (mem i hi') ((at_one hh).mpr ⟨hi', z⟩)⟩
  | some a =>
    rw [hr] at key
    obtain ⟨k1, k2⟩ := (at_one hh).mp key.1
    exact .inr ⟨a, rfl, k1, k2, fun k hk hk' z => key.2 k (mem k hk') hk ((at_one hh).mpr ⟨hk', z⟩)⟩
theorem occ_count (l : List Nat) (c : Nat) : ∀ (n a : Nat) (st : Array Nat × Nat), st.1.size ≤ a → st.2 ≤ a → a + n = l.length + 1 →
    (forIn (List.range' a n) st (StrLaws.occBody (S l) (S [c]) l.length (l.length + 1))).run.1.size = st.1.size + (l.drop a).count c
  | 0, a, st, _, _, h => by
    rw [List.drop_eq_nil_of_le (by omega)]
    rfl
  | n + 1, a, st, h1, h2, h3 => by
    have e1 : (S [c]).length = 1 := S_len [c]
    rw [List.range'_succ, List.forIn_cons]
    unfold StrLaws.occBody
    by_cases hc : l[a]? = some c
    · have ha : a < l.length := (List.getElem?_eq_some_iff.mp hc).1
      have q : (((st.fst.size < l.length + 1 ∧ st.snd ≤ a) ∧ a + (S [c]).length ≤ l.length) ∧ subAt (S l) (S [c]) a = true) := ⟨⟨⟨by omega, h2⟩, by omega⟩, ((StrLaws.subAt_one (S l) c a).mpr hc).2⟩
      rw [if_pos q]
      have := occ_count l c n (a + 1) (st.1.push a, a + (S [c]).length) (by simp; omega) (by simp; omega) (by omega)
      refine Eq.trans this ?_
      have hd : l.drop a = c :: l.drop (a + 1) := by
        rw [List.drop_eq_getElem_cons ha]
        congr 1
        exact (List.getElem?_eq_some_iff.mp hc).2
      rw [hd, List.count_cons_self]
      simp only [Array.size_push]
      omega
    · have q : ¬ (((st.fst.size < l.length + 1 ∧ st.snd ≤ a) ∧ a + (S [c]).length ≤ l.length) ∧ subAt (S l) (S [c]) a = true) := fun z => hc ((StrLaws.subAt_one (S l) c a).mp ⟨by have := z.1.2; rw [S_len]; exact this, z.2⟩)
      rw [if_neg q]
      refine Eq.trans (occ_count l c n (a + 1) st (by omega) (by omega) (by omega)) ?_
      by_cases ha : a < l.length
      · rw [List.drop_eq_getElem_cons ha, List.count_cons_of_ne]
        intro z
        exact hc (by rw [List.getElem?_eq_getElem ha, z])
      · rw [List.drop_eq_nil_of_le (by omega), List.drop_eq_nil_of_le (by omega)]
theorem count_S (l : List Nat) (c : Nat) : Txt.count (S l) (S [c]) = ((l.count c : Nat) : Int) := by
  unfold Txt.count
  rw [StrLaws.occ_eq, Array.length_toList]
  have := occ_count l c (l.length + 1) 0 (#[], 0) (by simp) (Nat.le_refl _) (by omega)
  rw [S_len]
  congr 1
  refine Eq.trans this ?_
  simp
end SX
namespace TM
open PySem PySem.Builtin PySem.Builtin.Str
theorem count_take_mono (ds : List Nat) {a b : Nat} (h : a ≤ b) : (ds.take a).count 1 ≤ (ds.take b).count 1 := by
  have e : ds.take a = (ds.take b).take a := by rw [List.take_take, Nat.min_eq_left h]
  rw [e]
  exact List.Sublist.count_le 1 (List.take_sublist _ _)
theorem count_take_one {ds : List Nat} {e : Nat} (h : ds[e]? = some 1) : (ds.take (e + 1)).count 1 = (ds.take e).count 1 + 1 := by
  rw [List.take_succ, h, List.count_append]
  rfl
theorem one_next {ds : List Nat} {k t : Nat} (h : (ds.take k).count 1 = t) : (t < on ds → k ≤ ep ds t ∧ ∀ e, k ≤ e → e < ep ds t → ds[e]? ≠ some 1) ∧ (on ds ≤ t → ∀ e, k ≤ e → ds[e]? ≠ some 1) := by
  refine ⟨fun ht => ?_, fun ht e he z => ?_⟩
  · obtain ⟨g1, g2⟩ := ep_get ds t ht
    refine ⟨Nat.le_of_not_lt fun z => ?_, fun e h1 h2 z => ?_⟩
    · have := count_take_mono ds (show ep ds t + 1 ≤ k from z)
      rw [count_take_one g1] at this
      omega
    · have := count_take_mono ds (show e + 1 ≤ ep ds t from h2)
      rw [count_take_one z] at this
      have := count_take_mono ds h1
      omega
  · have h1 := count_take_one z
    have h2 := count_take_mono ds he
    have h3 := List.Sublist.count_le 1 (List.take_sublist (e + 1) ds)
    rw [on_count] at ht
    omega
theorem cs_get {ds : List Nat} {i c : Nat} (h : i < ds.length) : (cs ds)[i]? = some (c + 48) ↔ ds[ds.length - 1 - i]? = some c := by
  unfold cs
  rw [List.getElem?_map, List.getElem?_reverse h]
  cases ds[ds.length - 1 - i]? with
  | none => simp
  | some x => simp
/-- the last sign 1 before the place where k digits are left -/
theorem last_cs {ds : List Nat} {k t : Nat} (hk : k ≤ ds.length) (h : (ds.take k).count 1 = t) :
    lastOccurrence (SX.S (cs ds)) ("1" : Str) 0 (ds.length - k) = if t < on ds then some (ds.length - 1 - ep ds t) else none := by
  obtain ⟨n1, n2⟩ := one_next h
  have e1 : ("1" : Str) = SX.S [1 + 48] := rfl
  rw [e1]
  rcases SX.last_one (cs ds) (1 + 48) (ds.length - k) (by rw [cs_len]; omega) with ⟨e, hn⟩ | ⟨i, e, hi, hg, hl⟩
  · rw [e]
    by_cases ht : t < on ds
    · obtain ⟨g1, g2⟩ := ep_get ds t ht
      have hl := (List.getElem?_eq_some_iff.mp g1).1
      obtain ⟨m1, m2⟩ := n1 ht
      refine absurd ((cs_get (c := 1) (i := ds.length - 1 - ep ds t) (by omega)).mpr ?_) (hn _ (by omega))
      rw [show ds.length - 1 - (ds.length - 1 - ep ds t) = ep ds t by omega]
      exact g1
    · rw [if_neg ht]
  · rw [e]
    have hg' := (cs_get (c := 1) (show i < ds.length by omega)).mp hg
    by_cases ht : t < on ds
    · rw [if_pos ht]
      obtain ⟨g1, g2⟩ := ep_get ds t ht
      have hlen := (List.getElem?_eq_some_iff.mp g1).1
      obtain ⟨m1, m2⟩ := n1 ht
      congr 1
      rcases Nat.lt_trichotomy (ds.length - 1 - i) (ep ds t) with z | z | z
      · exact absurd hg' (m2 _ (by omega) z)
      · omega
      · refine absurd ((cs_get (c := 1) (i := ds.length - 1 - ep ds t) (by omega)).mpr ?_) (hl _ (by omega) (by omega))
        rw [show ds.length - 1 - (ds.length - 1 - ep ds t) = ep ds t by omega]
        exact g1
    · exact absurd hg' (n2 (Nat.le_of_not_lt ht) _ (by omega))
def rfV (ds : List Nat) (t : Nat) : Int := if t < on ds then ((ds.length - 1 - ep ds t : Nat) : Int) else -1
theorem rfind_first (ds : List Nat) : Txt.rfind (SX.S (cs ds)) ("1" : Str) = rfV ds 0 := by
  unfold Txt.rfind rfV
  have e := last_cs (ds := ds) (k := 0) (t := 0) (Nat.zero_le _) rfl
  rw [SX.S_len, cs_len, Nat.sub_zero] at *
  rw [e]
  split <;> rename_i h <;> split at h <;> simp_all
theorem rfind_next {ds : List Nat} {t : Nat} (ht : t < on ds) : Txt.rfindIn (SX.S (cs ds)) ("1" : Str) 0 ((ds.length - 1 - ep ds t : Nat) : Int) = rfV ds (t + 1) := by
  obtain ⟨g1, g2⟩ := ep_get ds t ht
  have hl := (List.getElem?_eq_some_iff.mp g1).1
  have e := last_cs (ds := ds) (k := ep ds t + 1) (t := t + 1) hl (by rw [count_take_one g1, g2])
  unfold Txt.rfindIn rfV
  have f0 : fromIndex (SX.S (cs ds)).length 0 = 0 := by simp [fromIndex]
  have f1 : toIndexW (SX.S (cs ds)).length ((ds.length - 1 - ep ds t : Nat) : Int) = ds.length - (ep ds t + 1) := by
    rw [SX.S_len, cs_len]
    unfold toIndexW
    rw [if_neg (by omega)]
    omega
  rw [f0, f1, e]
  split <;> rename_i h <;> split at h <;> simp_all
theorem count_cs (ds : List Nat) : Txt.count (SX.S (cs ds)) ("1" : Str) = ((on ds : Nat) : Int) := by
  have e1 : ("1" : Str) = SX.S [1 + 48] := rfl
  rw [e1, SX.count_S, on_count]
  congr 1
  unfold cs
  have go : ∀ l : List Nat, List.count (1 + 48) (l.map fun x => x + 48) = List.count 1 l := by
    intro l
    induction l with
    | nil => rfl
    | cons a r ih =>
      rw [List.map_cons, List.count_cons, List.count_cons, ih]
      by_cases h : a = 1
      · subst h; simp
      · rw [if_neg (by simpa using h), if_neg (by simpa using h)]
  rw [go, List.count_reverse]
end TM

namespace K02
open PySem PySem.Spec PyProof.Rows L2 TM TF
section
variable {P : Program} {w : World} {K : PySem.W.Frag} {mg : Str → Option Value} {base : Heap}
theorem cs_pow (e : Nat) : cs (List.replicate e 0 ++ [1]) = 49 :: List.replicate e 48 := by
  unfold cs
  rw [List.reverse_append, List.reverse_replicate]
  simp
theorem rd_zeros (e : Nat) : rd 3 (List.replicate e 0) = 0 := by
  induction e with
  | zero => rfl
  | succ e ih => rw [List.replicate_succ, rd, ih]
theorem bnum_pow (e : Nat) : bnum 3 (48 :: 49 :: List.replicate e 48) = 3 ^ e := by
  rw [← cs_pow, bnum_zero, rd_append, rd_zeros, List.length_replicate]
  simp [rd]
theorem low_bits {n : Nat} (h : 0 < n) : ((Builtin.Int.intBits (Builtin.bitAnd (n : Int) (-(n : Int))) : Nat) : Int) - 1 = ((ev n : Nat) : Int) := by
  have e1 : Builtin.bitAnd (n : Int) (-(n : Int)) = ((2 ^ ev n : Nat) : Int) := by
    unfold Builtin.bitAnd
    have h1 : (0 : Int) ≤ (n : Int) := by omega
    have h2 : ¬ (0 : Int) ≤ -(n : Int) := by omega
    have h3 : (Builtin.bitNot (-(n : Int))).toNat = n - 1 := by unfold Builtin.bitNot; omega
    simp only [h1, h2, decide_true, decide_false]
    rw [h3, Int.toNat_natCast]
    have := low_bit n h
    omega
  rw [e1]
  unfold Builtin.Int.intBits
  have hp : 0 < 2 ^ ev n := Nat.two_pow_pos _
  rw [if_neg (fun z => absurd (eq_of_beq z) (by omega)), Int.natAbs_natCast, Nat.log2_two_pow]
  omega
/-- the steps so far -/
def stp (ds : List Nat) (t : Nat) : List V := (List.range t).map fun j => V.int (((3 ^ ep ds j : Nat) : Int) - ((ls ds j : Nat) : Int))
theorem stp_len (ds : List Nat) (t : Nat) : (stp ds t).length = t := by simp [stp]
theorem stp_succ (ds : List Nat) (t : Nat) : stp ds (t + 1) = stp ds t ++ [V.int (((3 ^ ep ds t : Nat) : Int) - ((ls ds t : Nat) : Int))] := by
  unfold stp
  rw [List.range_succ, List.map_append]
  rfl
theorem stp_get {ds : List Nat} {t j : Nat} (h : j < t) : (stp ds t)[j]? = some (V.int (((3 ^ ep ds j : Nat) : Int) - ((ls ds j : Nat) : Int))) := by
  unfold stp
  rw [List.getElem?_map, List.getElem?_range h]
  rfl
def Old (H0 B H : Hp) : Prop := ∀ b, H0 b ≠ none → H b = B b
def OldL (H0 B H : Hp) : Prop := Old H0 B H ∧ ∀ b, H0 b ≠ none → B b ≠ none
def sp_sum_count (K : PySem.W.Frag) : Sp := fun vs H Q _ => ∃ m : Nat, vs = [vn m] ∧ m < 2 ^ 600 ∧ ∀ H', Same H H' → Q (vn (2 ^ on (digs 3 m))) H'
theorem ok_sum_count (T : Txt K mg) : FnOk P w K mg base CX0 4 T.f_sum_count T.fd_sum_count ["m"] (sp_sum_count K) := by
  have nd := sc_sum_count.nd
  refine T.F_sum_count.ok sc_sum_count (fun vs H Q E h => ?_) (fun cdv A outer s H vs Q E hr h => ?_)
  · obtain ⟨m, rfl, _⟩ := h
    rfl
  · obtain ⟨m, rfl, hm, q⟩ := h
    refine ⟨_, (pss_cons (ps_expr (pe_call (ok_check_number T) (hr.mono (by decide)) rfl T.g_check_number T.F_check_number.kp T.b_check_number .nil pass0 (pa_cons (pv 0) pa_nil)))
      (pss_one (ps_ret (pe_op op_shlW pe_int (pe_bm PySem.F.plainAttrs_str PySem.F.slot_str_count PySem.F.type_str_count mt_count (pe_call (ok_ternary_text T) (hr.mono (by decide)) rfl T.g_ternary_text T.F_ternary_text.kp T.b_ternary_text .nil pass0 (pa_cons (pv 0) pa_nil)) (pa_cons pe_str pa_nil)))))), ?_⟩
    refine ⟨_, rfl, m, rfl, ?_⟩
    refine ⟨_, rfl, m, rfl, pow_up hm (by decide), fun H1 s1 => ?_⟩
    refine ⟨rfl, _, _, rfl, rfl, ?_⟩
    rw [count_cs]
    refine ⟨_, _, rfl, rfl, ?_, ?_⟩
    · refine shl_ok (n := 1) (by decide) ?_
      have h1 := List.count_le_length (a := 1) (l := digs 3 m)
      have h2 := digs_len (r := 3) (by decide) 600 m hm
      rw [← on_count] at h1
      omega
    · have e : V.int (1 * 2 ^ ((on (digs 3 m) : Nat) : Int).toNat) = vn (2 ^ on (digs 3 m)) := by
        unfold vn
        congr 1
        rw [Int.toNat_natCast, Int.one_mul]
        norm_cast
      show Q (V.int (1 * 2 ^ ((on (digs 3 m) : Nat) : Int).toNat)) H1
      rw [e]
      exact q H1 s1
/-- turn i of sum_pairs(m) -/
def JSP (m : Nat) (H0 : Hp) : GJ where
  go i B := i < 2 ^ on (digs 3 m) ∧ i < 1200 ∧ (i = 0 → B = H0)
  yld i B x H := ∃ t, x = .ref t ∧ H t = some (.tup [vn (LO (digs 3 m) i), vn (HI (digs 3 m) i)]) ∧ Old H0 B H
  back i H H2 := (∀ b, H0 b = none → H b ≠ none → H2 b = H b) ∧ ∀ b, H0 b ≠ none → H2 b ≠ none
  stop i B := i = 2 ^ on (digs 3 m)
  fin i B H := Old H0 B H
  excl i B h h' := by omega
def spj_sum_pairs (K : PySem.W.Frag) : SpJ := fun vs H J => ∃ m : Nat, vs = [vn m] ∧ m < 2 ^ 600 ∧ J = JSP m H
theorem ok_sum_pairs (T : Txt K mg) : GDef P w K mg base 4 T.f_sum_pairs T.fd_sum_pairs ["m"] (spj_sum_pairs K) := by
  have nd := sc_sum_pairs.nd
  refine gdef_ok T.F_sum_pairs sc_sum_pairs pl_sum_pairs (fun vs H J h => ?_) (fun cdv A outer L H vs J hr h => ?_)
  · obtain ⟨n, rfl, _⟩ := h
    rfl
  · obtain ⟨n, rfl, hn, rfl⟩ := h
    refine ⟨_, (qss_cons (qs_ps (fun _ _ => (ps_expr (pe_call (ok_check_number T) (hr.mono (by decide)) rfl T.g_check_number T.F_check_number.kp T.b_check_number .nil pass0 (pa_cons (pv 0) pa_nil)))))
      (qss_cons (qs_ps (fun _ _ => (ps_set (i := 1) nd rfl (.inl rfl) (pe_call (ok_ternary_text T) (hr.mono (by decide)) rfl T.g_ternary_text T.F_ternary_text.kp T.b_ternary_text .nil pass0 (pa_cons (pv 0) pa_nil)))))
      (qss_cons (qs_ps (fun _ _ => (ps_set (i := 2) nd rfl (.inl rfl) (pe_call (ok_number_of_twos T) (hr.mono (by decide)) rfl T.g_number_of_twos T.F_number_of_twos.kp T.b_number_of_twos .nil pass0 (pa_cons (pv 1) pa_nil)))))
      (qss_cons (qs_yield (fun _ _ => (pe_tup (pa_cons (pv 2) (pa_cons (pe_op op_sub (pv 0) (pv 2)) pa_nil)))))
      (qss_cons (qs_ps (fun _ _ => (ps_set (i := 3) nd rfl (.inl rfl) (pe_lst pa_nil))))
      (qss_cons (qs_ps (fun _ _ => (ps_set (i := 4) nd rfl (.inl rfl) pe_int)))
      (qss_cons (qs_ps (fun _ _ => (ps_set (i := 5) nd rfl (.inl rfl) (pe_bm PySem.F.plainAttrs_str PySem.F.slot_str_rfind PySem.F.type_str_rfind mt_rfind (pv 1) (pa_cons pe_str pa_nil)))))
      (qss_cons (qs_while (fun _ _ => (pt_cmpR op_ge (pv 5) pe_int (nomark _))) (qss_cons (qs_ps (fun _ _ => (ps_set (i := 6) nd rfl (.inl rfl) (pe_call (ok_ternary_number T) (hr.mono (by decide)) rfl T.g_ternary_number T.F_ternary_number.kp T.b_ternary_number .nil pass0 (pa_cons (pe_op op_add_str pe_str (pe_op op_mul_str pe_str (pe_op op_sub (pe_op op_sub (pe_callB call_len (by rfl) T.m_len PySem.boot_len (pa_cons (pv 1) pa_nil)) (pv 5)) pe_int))) pa_nil)))))
      (qss_cons (qs_ps (fun _ _ => (ps_expr (pe_bm PySem.F.plainAttrs_list PySem.F.slot_list_append PySem.F.type_list_append mt_append (pv 3) (pa_cons (pe_op op_sub (pv 6) (pv 4)) pa_nil)))))
      (qss_cons (qs_ps (fun _ _ => (ps_aug (i := 4) nd rfl (.inl rfl) (pv 6) ip_add)))
      (qss_cons (qs_for (fun _ _ => (pif_range2 rfl T.m_range (pa_cons (pe_op op_shlW pe_int (pe_op op_sub (pe_callB call_len_seq (by rfl) T.m_len PySem.boot_len (pa_cons (pv 3) pa_nil)) pe_int)) (pa_cons (pe_op op_shlW pe_int (pe_callB call_len_seq (by rfl) T.m_len PySem.boot_len (pa_cons (pv 3) pa_nil))) pa_nil)))) (fun _ _ => (pg_name (i := 7) nd rfl (.inl rfl))) (qss_cons (qs_ps (fun _ _ => (ps_aug (i := 2) nd rfl (.inl rfl) (pe_ix (ix_listK K) (pv 3) (pe_op op_sub (pe_bits (pe_op op_and (pv 7) (pe_un un_neg (pv 7)))) pe_int) (fun _ _ => rfl)) ip_add)))
      (qss_cons (qs_yield (fun _ _ => (pe_tup (pa_cons (pv 2) (pa_cons (pe_op op_sub (pv 0) (pv 2)) pa_nil)))))
      qss_nil)))
      (qss_cons (qs_ps (fun _ _ => (ps_set (i := 5) nd rfl (.inl rfl) (pe_bm PySem.F.plainAttrs_str PySem.F.slot_str_rfind PySem.F.type_str_rfind mt_rfind4 (pv 1) (pa_cons pe_str (pa_cons pe_int (pa_cons (pv 5) pa_nil)))))))
      qss_nil))))))
      qss_nil)))))))), ?_⟩
    intro B0 way
    have hgo : (JSP n H).go 0 B0 := by
      rcases way with z | z
      · exact z
      · have : (0 : Nat) = 2 ^ on (digs 3 n) := z
        have := Nat.two_pow_pos (on (digs 3 n))
        omega
    obtain rfl : B0 = H := hgo.2.2 rfl
    have hlen := digs_len (r := 3) (by decide) 600 n hn
    have hlt := digs_lt3 n
    intro s₀
    refine ⟨_, rfl, n, rfl, ?_⟩
    intro s₁
    refine ⟨_, rfl, n, rfl, pow_up hn (by decide), fun H1 s1 => ?_⟩
    intro s₂
    have hrd : rd 3 (digs 3 n) = n := rd_digs (by decide) n n (Nat.le_refl _)
    have eH : ∀ i, V.int ((n : Int) - ((LO (digs 3 n) i : Nat) : Int)) = vn (HI (digs 3 n) i) := fun i => by
      unfold vn
      congr 1
      have := LO_HI (digs 3 n) i hlt
      omega
    refine ⟨_, rfl, digs 3 n, rfl, by omega, hlt, ?_⟩
    rw [← LO_zero]
    refine ⟨hgo, fun s₃ => ?_⟩
    refine ⟨_, rfl, _, rfl, _, rfl, _, _, rfl, rfl, (by show 2 ≤ sizeLine; decide), fun t ht => ⟨⟨t, rfl, ?_, ?_⟩, fun H2 hbk hway => ?_⟩⟩
    · rw [upd_same]
      exact congrArg (fun z => some (HO.tup [vn (LO (digs 3 n) 0), z])) (eH 0)
    · intro b hb
      have hbt : b ≠ t := fun z => by
        cases q : B0 b with
        | none => exact hb q
        | some o => rw [z] at q; rw [s1 _ _ q] at ht; cases ht
      rw [upd_ne hbt]
      cases q : B0 b with
      | none => exact absurd q hb
      | some o => exact s1 _ _ q
    intro s₄
    refine ⟨(by show 0 ≤ sizeLine; decide), fun p hp => ?_⟩
    have hp0 : B0 p = none := by
      cases q : B0 p with
      | none => rfl
      | some o => exact absurd hp (hbk.2 p (by rw [q]; simp))
    intro s₅
    intro s₆
    refine ⟨_, rfl, rfl, _, _, rfl, rfl, ?_⟩
    rw [rfind_first]
    have hon : on (digs 3 n) ≤ 600 := by
      have h1 := List.count_le_length (a := 1) (l := digs 3 n)
      rw [← on_count] at h1
      omega
    have hold1 : Old B0 H2 (upd H2 p (.lst (stp (digs 3 n) 0))) := fun b hb => upd_ne fun z => hb (z ▸ hp0)
    let SW : Nat → Nat → Hp → L2.St → Hp → Prop := fun t i B σ H' => ∃ (y6 y7 : Option V), i = 2 ^ t ∧ t ≤ on (digs 3 n) ∧ σ = [some (vn n), some (V.str (SX.S (cs (digs 3 n)))), some (vn (LO (digs 3 n) (i - 1))), some (.ref p), some (vn (ls (digs 3 n) t)), some (V.int (rfV (digs 3 n) t)), y6, y7] ∧
      H' p = some (.lst (stp (digs 3 n) t)) ∧ OldL B0 B H' ∧ ((JSP n B0).go i B ∨ (JSP n B0).stop i B)
    refine ⟨fun m i B σ H' => m = 0 ∧ ∃ t, SW t i B σ H', ⟨0, rfl, 0, none, none, rfl, Nat.zero_le _, rfl, upd_same, ⟨hold1, hbk.2⟩, hway⟩, ?_⟩
    rintro m i B σ H' ⟨rfl, t', y6, y7, rfl, hto, rfl, eg, hold, way2⟩ s₇
    refine ⟨_, rfl, _, _, rfl, rfl, _, rfl, ite2 (fun c => ?_) (fun c => ?_)⟩
    · have hr0 : 0 ≤ rfV (digs 3 n) t' := of_decide_eq_true c
      have hton : t' < on (digs 3 n) := by
        unfold rfV at hr0
        split at hr0
        · assumption
        · omega
      have hgo2 : 2 ^ t' < 2 ^ on (digs 3 n) ∧ 2 ^ t' < 1200 := by
        rcases way2 with z | z
        · exact ⟨z.1, z.2.1⟩
        · have h1 : 2 ^ t' = 2 ^ on (digs 3 n) := z
          have h2 := Nat.pow_lt_pow_right (a := 2) (by decide) hton
          omega
      have ht10 : t' ≤ 10 := by
        apply Nat.le_of_not_lt
        intro z
        have := Nat.pow_le_pow_right (n := 2) (by decide) (show 11 ≤ t' from z)
        omega
      obtain ⟨g1, g2⟩ := ep_get (digs 3 n) t' hton
      have hel := (List.getElem?_eq_some_iff.mp g1).1
      have erf : rfV (digs 3 n) t' = (((digs 3 n).length - 1 - ep (digs 3 n) t' : Nat) : Int) := by
        unfold rfV
        rw [if_pos hton]
      refine ⟨fun i' B' σ' H2 => 2 ^ t' < i' ∧ ∃ t, SW t i' B' σ' H2, fun i' B' σ' H2 ⟨h1, h2⟩ => ⟨0, .inl h1, rfl, h2⟩, ?_⟩
      intro s₈
      have ee : V.int ((((SX.S (cs (digs 3 n))).length : Nat) : Int) - rfV (digs 3 n) t' - 1) = V.int ((ep (digs 3 n) t' : Nat) : Int) := by
        rw [erf, SX.S_len, cs_len]
        congr 1
        omega
      have hsl : (SX.S (cs (digs 3 n))).length ≤ 600 := by rw [SX.S_len, cs_len]; exact hlen
      have hcat : ("1" : Str) ++ SX.S (List.replicate (ep (digs 3 n) t') 48) = SX.S (49 :: List.replicate (ep (digs 3 n) t') 48) := SX.S_cat [49] _
      refine ⟨_, rfl, _, _, rfl, ⟨Nat.le_trans hsl (by decide), rfl⟩, _, rfl, _, _, rfl, rfl, _, _, rfl, rfl, 48, ep (digs 3 n) t', rfl, ee, by omega, _, _, rfl, rfl, ?_, 49 :: List.replicate (ep (digs 3 n) t') 48, ?_, ?_, ?_, ?_⟩
      · have h1 : (SX.S (List.replicate (ep (digs 3 n) t') 48)).length ≤ 600 := by
          rw [SX.S_len, List.length_replicate]
          omega
        have h0 : ("1" : Str).length = 1 := rfl
        rw [h0]
        exact Nat.le_trans (Nat.add_le_add_left h1 1) (by decide)
      · rw [hcat]
        rfl
      · rw [List.length_cons, List.length_replicate]
        omega
      · intro c hc
        rcases List.mem_cons.mp hc with e | e
        · rw [e]; exact ⟨by decide, by decide⟩
        · rw [List.eq_of_mem_replicate e]; exact ⟨by decide, by decide⟩
      rw [bnum_pow]
      intro s₉
      refine ⟨_, rfl, .inl ⟨rfl, _, SqL.of eg⟩, _, rfl, _, rfl, _, _, rfl, rfl, p, _, _, rfl, rfl, eg, small_lt (b := 600) (by rw [stp_len]; omega), ?_⟩
      have eg2 : upd H' p (.lst (stp (digs 3 n) t' ++ [V.int (((3 ^ ep (digs 3 n) t' : Nat) : Int) - ((ls (digs 3 n) t' : Nat) : Int))])) p = some (.lst (stp (digs 3 n) (t' + 1))) := by
        rw [upd_same, stp_succ]
      have hold2 : OldL B0 B (upd H' p (.lst (stp (digs 3 n) t' ++ [V.int (((3 ^ ep (digs 3 n) t' : Nat) : Int) - ((ls (digs 3 n) t' : Nat) : Int))]))) := ⟨fun b hb => by
        have hbp : b ≠ p := fun z => hb (by rw [z]; exact hp0)
        rw [upd_ne hbp]
        exact hold.1 b hb, hold.2⟩
      generalize upd H' p (.lst (stp (digs 3 n) t' ++ [V.int (((3 ^ ep (digs 3 n) t' : Nat) : Int) - ((ls (digs 3 n) t' : Nat) : Int))])) = H3 at eg2 hold2
      intro s₁₀
      refine ⟨_, rfl, _, rfl, _, _, rfl, rfl, ?_⟩
      have els : V.int (((ls (digs 3 n) t' : Nat) : Int) + ((3 ^ ep (digs 3 n) t' : Nat) : Int)) = vn (ls (digs 3 n) (t' + 1)) := by
        unfold vn
        congr 1
      intro s₁₁
      have hl1 : (1 : Int) * 2 ^ ((((t' + 1 : Nat) : Int) - 1)).toNat = ((2 ^ t' : Nat) : Int) := by
        rw [show ((t' + 1 : Nat) : Int) - 1 = ((t' : Nat) : Int) by omega, Int.toNat_natCast, Int.one_mul]
        norm_cast
      have hl2 : (1 : Int) * 2 ^ (((t' + 1 : Nat) : Int)).toNat = ((2 ^ (t' + 1) : Nat) : Int) := by
        rw [Int.toNat_natCast, Int.one_mul]
        norm_cast
      have hpw : 2 ^ (t' + 1) = 2 ^ t' + 2 ^ t' := by rw [Nat.pow_succ]; omega
      have hp1 : 0 < 2 ^ t' := Nat.two_pow_pos t'
      refine ⟨_, rfl, p, _, rfl, .inl (SqL.of eg2), _, _, rfl, rfl, _, _, rfl, rfl, ?_, _, rfl, p, _, rfl, .inl (SqL.of eg2), _, _, rfl, rfl, ?_, ((2 ^ t' : Nat) : Int), ((2 ^ (t' + 1) : Nat) : Int), ?_, ⟨by omega, by omega, by omega, by omega⟩, ?_⟩
      · rw [stp_len, show ((t' + 1 : Nat) : Int) - 1 = ((t' : Nat) : Int) by omega]
        exact shl_ok (n := 1) (by decide) (by omega)
      · rw [stp_len]
        exact shl_ok (n := 1) (by decide) (by omega)
      · show [V.int (1 * 2 ^ ((((stp (digs 3 n) (t' + 1)).length : Nat) : Int) - 1).toNat), V.int (1 * 2 ^ ((((stp (digs 3 n) (t' + 1)).length : Nat) : Int)).toNat)] = _
        rw [stp_len, hl1, hl2]
      refine ⟨fun j m i B σ H' => m = 0 ∧ ∃ y7 : Option V, i = 2 ^ t' + j ∧ j ≤ 2 ^ t' ∧ σ = [some (vn n), some (V.str (SX.S (cs (digs 3 n)))), some (vn (LO (digs 3 n) (i - 1))), some (.ref p), some (vn (ls (digs 3 n) (t' + 1))), some (V.int (rfV (digs 3 n) t')), some (vn (3 ^ ep (digs 3 n) t')), y7] ∧
        H' p = some (.lst (stp (digs 3 n) (t' + 1))) ∧ OldL B0 B H' ∧ ((JSP n B0).go i B ∨ (JSP n B0).stop i B), ⟨0, rfl, y7, rfl, Nat.zero_le _, ?_, eg2, hold2, way2⟩, ?_⟩
      · exact congrArg (fun z => [some (vn n), some (V.str (SX.S (cs (digs 3 n)))), some (vn (LO (digs 3 n) (2 ^ t' - 1))), some (V.ref p), some z, some (V.int (rfV (digs 3 n) t')), some (vn (3 ^ ep (digs 3 n) t')), y7]) els
      rintro j m i B σ H' ⟨rfl, y7, rfl, hj, rfl, eg, hold, way⟩
      by_cases hj2 : j < 2 ^ t'
      · refine .inr ⟨?_, fun i' B' σ' H2 => 2 ^ t' + j < i' ∧ ∃ y7 : Option V, i' = 2 ^ t' + (j + 1) ∧ j + 1 ≤ 2 ^ t' ∧ σ' = [some (vn n), some (V.str (SX.S (cs (digs 3 n)))), some (vn (LO (digs 3 n) (i' - 1))), some (.ref p), some (vn (ls (digs 3 n) (t' + 1))), some (V.int (rfV (digs 3 n) t')), some (vn (3 ^ ep (digs 3 n) t')), y7] ∧
          H2 p = some (.lst (stp (digs 3 n) (t' + 1))) ∧ OldL B0 B' H2 ∧ ((JSP n B0).go i' B' ∨ (JSP n B0).stop i' B'), fun i' B' σ' H2 ⟨h1, h2⟩ => ⟨0, .inl h1, rfl, h2⟩, fun x H'' hy s₁₂ => ?_⟩
        · show j < (((2 ^ (t' + 1) : Nat) : Int) - ((2 ^ t' : Nat) : Int)).toNat
          omega
        obtain ⟨rfl, hx⟩ := hy
        rw [show x = vn (2 ^ t' + j) from hx.trans (by unfold vn; congr 1)]
        have hgo3 : (JSP n B0).go (2 ^ t' + j) B := by
          rcases way with z | z
          · exact z
          · have h1 : 2 ^ t' + j = 2 ^ on (digs 3 n) := z
            have h2 := Nat.pow_le_pow_right (n := 2) (by decide) (show t' + 1 ≤ on (digs 3 n) from hton)
            omega
        obtain ⟨st1, st2⟩ := LO_step (digs 3 n) (2 ^ t' + j) (by omega) hgo3.1
        have hev : ev (2 ^ t' + j) < t' + 1 := by
          have h1 := ev_lt (2 ^ t' + j) (by omega)
          exact (Nat.pow_lt_pow_iff_right (a := 2) (by decide)).mp (by omega)
        intro s₁₃
        have hat : atI (stp (digs 3 n) (t' + 1)) (((Builtin.Int.intBits (Builtin.bitAnd ((2 ^ t' + j : Nat) : Int) (-((2 ^ t' + j : Nat) : Int))) : Nat) : Int) - 1) = some (V.int (((3 ^ ep (digs 3 n) (ev (2 ^ t' + j)) : Nat) : Int) - ((ls (digs 3 n) (ev (2 ^ t' + j)) : Nat) : Int))) := by
          rw [low_bits (by omega)]
          exact atI_nat (stp_get hev)
        have hlo : V.int (((LO (digs 3 n) (2 ^ t' + j - 1) : Nat) : Int) + (((3 ^ ep (digs 3 n) (ev (2 ^ t' + j)) : Nat) : Int) - ((ls (digs 3 n) (ev (2 ^ t' + j)) : Nat) : Int))) = vn (LO (digs 3 n) (2 ^ t' + j)) := by
          unfold vn
          congr 1
          omega
        refine ⟨_, rfl, _, rfl, _, rfl, _, rfl, _, rfl, _, _, rfl, rfl, _, rfl, _, _, rfl, rfl, p, _, _, _, rfl, rfl, SqL.of eg, hat, _, _, rfl, rfl, ?_⟩
        refine ⟨hgo3, fun s₁₄ => ?_⟩
        refine ⟨_, rfl, _, rfl, _, rfl, _, _, rfl, hlo, (by show 2 ≤ sizeLine; decide), fun u hu => ⟨⟨u, rfl, ?_, ?_⟩, fun H4 hbk4 hway4 => ?_⟩⟩
        · rw [upd_same, hlo]
          exact congrArg (fun z => some (HO.tup [vn (LO (digs 3 n) (2 ^ t' + j)), z])) (eH _)
        · intro b hb
          have hbu : b ≠ u := fun z => by
            have h1 := hold.1 b hb
            rw [z, hu] at h1
            exact hold.2 b hb (by rw [z]; exact h1.symm)
          rw [upd_ne hbu]
          exact hold.1 b hb
        · refine ⟨by omega, some (vn (2 ^ t' + j)), by omega, by omega, ?_, ?_, ⟨fun b hb => rfl, hbk4.2⟩, hway4⟩
          · rw [show 2 ^ t' + j + 1 - 1 = 2 ^ t' + j by omega, ← hlo]
            rfl
          · have hpu : p ≠ u := fun z => by rw [z, hu] at eg; cases eg
            refine (hbk4.1 p hp0 ?_).trans ?_
            · rw [upd_ne hpu, eg]
              exact fun z => by cases z
            · rw [upd_ne hpu, eg]
      · have ej : j = 2 ^ t' := by omega
        refine .inl ⟨?_, fun s₁₂ => ?_⟩
        · show (((2 ^ (t' + 1) : Nat) : Int) - ((2 ^ t' : Nat) : Int)).toNat ≤ j
          omega
        refine ⟨_, rfl, rfl, _, rfl, _, _, _, _, rfl, rfl, ?_⟩
        rw [erf, rfind_next hton, ← erf]
        refine ⟨by omega, t' + 1, some (vn (3 ^ ep (digs 3 n) t')), y7, by omega, hton, ?_, eg, hold, way⟩
        rfl
    · have hr0 : ¬ 0 ≤ rfV (digs 3 n) t' := fun z => c (decide_eq_true z)
      have hton : t' = on (digs 3 n) := by
        unfold rfV at hr0
        split at hr0
        · omega
        · omega
      refine ⟨?_, hold.1⟩
      show 2 ^ t' = 2 ^ on (digs 3 n)
      rw [hton]
end
end K02

namespace K02
open PySem PySem.Spec PyProof.Rows L2 TM TF
/-- the tuples of the first pairs -/
def Pairs (m : Nat) (ts : List Addr) (H : Hp) : Prop := ∀ (j : Nat) (t : Addr), ts[j]? = some t → H t = some (.tup [vn (LO (digs 3 m) j), vn (HI (digs 3 m) j)])
section
variable {P : Program} {w : World} {K : PySem.W.Frag} {mg : Str → Option Value} {base : Heap}
def sp_l_pairs (K : PySem.W.Frag) : Sp := fun vs H Q _ => ∃ m most : Nat, vs = [vn m, vn most] ∧ m < 2 ^ 600 ∧ 0 < most ∧ most ≤ 1100 ∧ ∀ H' l ts, Same H H' → H' l = some (.lst (ts.map V.ref)) → ts.length = min (2 ^ on (digs 3 m)) most → Pairs m ts H' → Q (.ref l) H'
theorem ok_l_pairs (T : Txt K mg) : FnOk P w K mg base CX0 6 T.f_l_pairs T.fd_l_pairs ["given", "most"] (sp_l_pairs K) := by
  have nd := sc_l_pairs.nd
  refine T.F_l_pairs.ok sc_l_pairs (fun vs H Q E h => ?_) (fun cdv A outer s H vs Q E hr h => ?_)
  · obtain ⟨m, n, rfl, _⟩ := h
    rfl
  · obtain ⟨m, most, rfl, hm, hm0, hm1, q⟩ := h
    refine ⟨_, (pss_cons (ps_set (i := 2) nd rfl (.inl rfl) (pe_lst pa_nil))
      (pss_cons (ps_forJ (fun _ _ z => z) rfl (hr.mono (by decide)) (pj_call (ok_sum_pairs T) (hr.mono (by decide)) rfl T.g_sum_pairs T.F_sum_pairs.kp T.b_sum_pairs .nil (pa_cons (pv 0) pa_nil)) (pg_name (i := 3) nd rfl (.inl rfl)) (pss_cons (ps_expr (pe_bm PySem.F.plainAttrs_list PySem.F.slot_list_append PySem.F.type_list_append mt_append (pv 2) (pa_cons (pv 3) pa_nil)))
      (pss_one (ps_if (pt_cmpR op_eq (pe_callB call_len_seq (by rfl) T.m_len PySem.boot_len (pa_cons (pv 2) pa_nil)) (pv 1) (nomark _)) (pss_one ps_break) pss_nil))))
      (pss_one (ps_ret (pv 2))))), ?_⟩
    refine ⟨Nat.zero_le _, fun p hp => ?_⟩
    have e0 : upd H p (.lst []) p = some (.lst []) := upd_same
    have S0 : Same H (upd H p (.lst [])) := same_new hp
    generalize upd H p (.lst []) = H0 at e0 S0 ⊢
    refine ⟨_, rfl, JSP m H0, ⟨m, rfl, hm, rfl⟩, ?_⟩
    refine ⟨fun i k σ H' => k = 1200 - i ∧ i < most ∧ i ≤ 2 ^ on (digs 3 m) ∧ (i = 0 → H' = H0) ∧ But p H0 H' ∧ ∃ (ts : List Addr) (y3 : Option V), σ = [some (vn m), some (vn most), some (.ref p), y3] ∧ H' p = some (.lst (ts.map V.ref)) ∧ ts.length = i ∧ Pairs m ts H',
      ⟨1200, rfl, hm0, Nat.zero_le _, fun _ => rfl, But.refl _ _, [], none, rfl, e0, rfl, fun j t h => by simp at h⟩, ?_⟩
    rintro i k σ H' ⟨rfl, hi, hi2, hz, bt, ts, y3, rfl, eg, hl, hP⟩
    by_cases hs : i = 2 ^ on (digs 3 m)
    · refine .inl ⟨hs, fun H2 hfin htup => ?_⟩
      have old : ∀ b o, b ≠ p → H0 b = some o → H2 b = some o := fun b o hb e => (hfin b (by rw [e]; exact fun z => by cases z)).trans (bt b o hb e)
      have e2 : H2 p = some (.lst (ts.map V.ref)) := (hfin p (by rw [e0]; exact fun z => by cases z)).trans eg
      exact ⟨_, rfl, q _ p ts (fun b o e => old b o (ne_of_none e hp) (S0 b o e)) e2 (by rw [hl]; omega) fun j t h => htup _ _ (hP j t h)⟩
    · refine .inr ⟨⟨by omega, by omega, hz⟩, fun Bk σ' H2 => (JSP m H0).back i Bk H2 ∧ ∃ k', k' < 1200 - i ∧ (k' = 1200 - (i + 1) ∧ i + 1 < most ∧ i + 1 ≤ 2 ^ on (digs 3 m) ∧ (i + 1 = 0 → H2 = H0) ∧ But p H0 H2 ∧ ∃ (ts : List Addr) (y3 : Option V), σ' = [some (vn m), some (vn most), some (.ref p), y3] ∧ H2 p = some (.lst (ts.map V.ref)) ∧ ts.length = i + 1 ∧ Pairs m ts H2), fun Bk σ' H2 h => h, ?_⟩
      rintro x H2 ⟨t, rfl, et, hold⟩ htup
      have old : ∀ b o, b ≠ p → H0 b = some o → H2 b = some o := fun b o hb e => (hold b (by rw [e]; exact fun z => by cases z)).trans (bt b o hb e)
      have e2 : H2 p = some (.lst (ts.map V.ref)) := (hold p (by rw [e0]; exact fun z => by cases z)).trans eg
      refine ⟨_, rfl, .inl ⟨rfl, _, SqL.of e2⟩, _, rfl, p, _, _, rfl, rfl, e2, small_lt (b := 1200) (by rw [List.length_map]; omega), ?_⟩
      have hts : ts.map V.ref ++ [V.ref t] = (ts ++ [t]).map V.ref := by rw [List.map_append]; rfl
      rw [hts]
      have e4 : upd H2 p (.lst ((ts ++ [t]).map V.ref)) p = some (.lst ((ts ++ [t]).map V.ref)) := upd_same
      have tp : t ≠ p := fun z => by rw [z, e2] at et; cases et
      have b4 : But p H0 (upd H2 p (.lst ((ts ++ [t]).map V.ref))) := fun b o hb e => by rw [upd_ne hb]; exact old b o hb e
      have P4 : Pairs m (ts ++ [t]) (upd H2 p (.lst ((ts ++ [t]).map V.ref))) := by
        intro j u h
        rcases Nat.lt_or_ge j ts.length with z | z
        · rw [List.getElem?_append_left z] at h
          have h1 := htup _ _ (hP j u h)
          rw [upd_ne fun z => by rw [z, e2] at h1; cases h1]
          exact h1
        · rw [List.getElem?_append_right z] at h
          have ej : j = i := by
            have := (List.getElem?_eq_some_iff.mp h).1
            simp only [List.length_singleton] at this
            omega
          subst ej
          rw [hl, Nat.sub_self] at h
          cases h
          rw [upd_ne tp]
          exact et
      have nn : ∀ b, H0 b ≠ none → upd H2 p (.lst ((ts ++ [t]).map V.ref)) b ≠ none := fun b hb => by
        by_cases z : b = p
        · rw [z, upd_same]; exact fun z => by cases z
        · cases e : H0 b with
          | none => exact absurd e hb
          | some o => rw [b4 b o z e]; exact fun z => by cases z
      have nw : ∀ b, H0 b = none → H2 b ≠ none → upd H2 p (.lst ((ts ++ [t]).map V.ref)) b = H2 b := fun b hb _ => upd_ne fun z => by rw [z, e0] at hb; cases hb
      refine ⟨_, rfl, p, _, rfl, .inl (SqL.of e4), _, rfl, rfl, _, rfl, ite2 (fun c => ?_) (fun c => ?_)⟩
      · have hlen : i + 1 = most := by
          have h1 := V.int.inj (of_decide_eq_true c)
          rw [List.length_map, List.length_append, hl] at h1
          have h2 : (i : Int) + 1 = (most : Int) := by simpa using h1
          omega
        exact ⟨_, rfl, q _ p (ts ++ [t]) (fun b o e => b4 b o (ne_of_none e hp) (S0 b o e)) e4 (by rw [List.length_append, hl, List.length_singleton]; omega) P4⟩
      · have hlen : i + 1 ≠ most := fun z => c (decide_eq_true (by
          rw [List.length_map, List.length_append, hl, ← z]
          rfl))
        exact ⟨⟨nw, nn⟩, 1200 - (i + 1), by omega, rfl, by omega, by omega, fun z => by omega, b4, ts ++ [t], some (.ref t), rfl, e4, by rw [List.length_append, hl]; rfl, P4⟩
end
end K02

/-! M25: all sums of two plain numbers, in order -/
namespace TM
theorem sorted_ext : ∀ {a b : List Nat}, a.Pairwise (· < ·) → b.Pairwise (· < ·) → (∀ x, x ∈ a ↔ x ∈ b) → a = b
  | [], [], _, _, _ => rfl
  | [], y :: b, _, _, h => absurd ((h y).mpr List.mem_cons_self) List.not_mem_nil
  | x :: a, [], _, _, h => absurd ((h x).mp List.mem_cons_self) List.not_mem_nil
  | x :: a, y :: b, ha, hb, h => by
    obtain ⟨a1, a2⟩ := List.pairwise_cons.mp ha
    obtain ⟨b1, b2⟩ := List.pairwise_cons.mp hb
    have e : x = y := by
      rcases Nat.lt_trichotomy x y with z | z | z
      · rcases List.mem_cons.mp ((h x).mp List.mem_cons_self) with q | q
        · exact q
        · have := b1 x q
          omega
      · exact z
      · rcases List.mem_cons.mp ((h y).mpr List.mem_cons_self) with q | q
        · exact q.symm
        · have := a1 y q
          omega
    subst e
    congr 1
    refine sorted_ext a2 b2 fun u => ⟨fun hu => ?_, fun hu => ?_⟩
    · rcases List.mem_cons.mp ((h u).mp (List.mem_cons_of_mem _ hu)) with q | q
      · have := a1 u hu
        omega
      · exact q
    · rcases List.mem_cons.mp ((h u).mpr (List.mem_cons_of_mem _ hu)) with q | q
      · have := b1 u hu
        omega
      · exact q
theorem rd_self (m : Nat) : rd 3 (digs 3 m) = m := rd_digs (by decide) m m (Nat.le_refl _)
theorem LO_sum (m i : Nat) : LO (digs 3 m) i + HI (digs 3 m) i = m := by rw [LO_HI _ _ (digs_lt3 m), rd_self]
/-- the first parts, in order -/
def los (m : Nat) : List Nat := (List.range (2 ^ on (digs 3 m))).map (LO (digs 3 m))
theorem los_sorted (m : Nat) : (los m).Pairwise (· < ·) := by
  unfold los
  rw [List.pairwise_map]
  have h : (List.range (2 ^ on (digs 3 m))).Pairwise (· < ·) := List.pairwise_lt_range
  refine List.Pairwise.imp_of_mem (fun {a b} ha hb hab => ?_) h
  exact LO_lt _ a b hab (List.mem_range.mp hb)
theorem los_mem (m x : Nat) : x ∈ los m ↔ x ≤ m ∧ plain x ∧ plain (m - x) := by
  constructor
  · intro h
    obtain ⟨i, _, rfl⟩ := List.mem_map.mp h
    have := LO_sum m i
    refine ⟨by omega, LO_plain _ _, ?_⟩
    rw [show m - LO (digs 3 m) i = HI (digs 3 m) i by omega]
    exact HI_plain _ _
  · rintro ⟨h1, h2, h3⟩
    obtain ⟨i, hi, e1, _⟩ := LO_all (digs 3 m) x (m - x) (digs_lt3 m) h2 h3 (by rw [rd_self]; omega)
    exact List.mem_map.mpr ⟨i, List.mem_range.mpr hi, e1⟩
theorem los_eq (m : Nat) : ((List.range (m + 1)).filter fun a => decide (plain a) && decide (plain (m - a))) = los m := by
  refine sorted_ext ?_ (los_sorted m) fun x => ?_
  · exact List.Pairwise.filter _ List.pairwise_lt_range
  · rw [los_mem, List.mem_filter, List.mem_range]
    simp only [Bool.and_eq_true, decide_eq_true_eq]
    constructor <;> rintro ⟨h1, h2⟩ <;> exact ⟨by omega, h2⟩
end TM

namespace K02
open PySem PySem.Spec PyProof.Rows L2 TM TF
theorem inV_mem (z : Int) (l : List Nat) : inV (.int z) (l.map vn) = decide (∃ m ∈ l, z = (m : Int)) := by
  induction l with
  | nil => simp [inV]
  | cons a l ih =>
    show (eqV (vn a) (.int z) || inV (.int z) (l.map vn)) = _
    rw [ih]
    show ((a : Int) == z || _) = _
    by_cases h : z = (a : Int)
    · subst h; simp
    · have h1 : ((a : Int) == z) = false := by
        simp only [beq_eq_false_iff_ne]
        exact fun w => h w.symm
      simp [h1, h]
theorem inV_nat (g : Nat) (l : List Nat) : inV (.int (g : Int)) (l.map vn) = decide (g ∈ l) := by
  rw [inV_mem]
  refine decide_eq_decide.mpr ⟨?_, fun h => ⟨g, h, rfl⟩⟩
  rintro ⟨m, hm, e⟩
  rw [show g = m by omega]
  exact hm
section
variable {P : Program} {w : World} {K : PySem.W.Frag} {mg : Str → Option Value} {base : Heap}
def sp_l_listed (K : PySem.W.Frag) : Sp := fun vs H Q _ => ∃ m : Nat, vs = [vn m] ∧ m ≤ 4000 ∧ ∀ H' l ts, Same H H' → H' l = some (.lst (ts.map V.ref)) → ts.length = 2 ^ on (digs 3 m) → Pairs m ts H' → Q (.ref l) H'
theorem ok_l_listed (T : Txt K mg) : FnOk P w K mg base CX0 2 T.f_l_listed T.fd_l_listed ["given"] (sp_l_listed K) := by
  have nd := sc_l_listed.nd
  refine T.F_l_listed.ok sc_l_listed (fun vs H Q E h => ?_) (fun cdv A outer s H vs Q E hr h => ?_)
  · obtain ⟨m, rfl, _⟩ := h
    rfl
  · obtain ⟨m, rfl, hm, q⟩ := h
    refine ⟨_, (pss_cons (ps_set (i := 1) nd rfl (.inr rfl) (pe_lc (own := [("one", 2)]) (g := gName 2) (tt := _) rfl nd (pi_range1 rfl T.m_range (pa_cons (pe_op op_add (pv 0) pe_int) pa_nil)) (blkOk_by (own := [("one", 2)]) (N := N_l_listed) (sc := defScope s_l_listed) (by decide +kernel)) (fun _ _ _ _ _ => pg_name (i := 2) nd rfl (Or.inl rfl)) (fun _ _ _ _ _ => (pts_one (pt_cmpR (op_notInK K) pe_int (pe_call (ok_l_digits T) (hr.mono (by decide)) rfl T.g_l_digits T.F_l_digits.kp T.b_l_digits .nil pass0 (pa_cons (pv 2) (pa_cons pe_int pa_nil))) rfl))) (fun _ _ _ _ _ => (pv 2))))
      (pss_one (ps_ret (pe_lc (own := [("one", 2)]) (g := gName 2) (tt := _) rfl nd (pi_list (pv 1)) (blkOk_by (own := [("one", 2)]) (N := N_l_listed) (sc := defScope s_l_listed) (by decide +kernel)) (fun _ _ _ _ _ => pg_name (i := 2) nd rfl (Or.inl rfl)) (fun _ _ _ _ _ => (pts_one (pt_cmpR (op_inK K) (pe_op op_sub (pv 0) (pv 2)) (pv 1) rfl))) (fun _ _ _ _ _ => (pe_tup (pa_cons (pv 2) (pa_cons (pe_op op_sub (pv 0) (pv 2)) pa_nil)))))))), ?_⟩
    have fc : ∀ k, k ≤ m + 1 → ((List.range k).filter fun a => decide (plain a)).length ≤ 4001 := fun k hk => by
      refine Nat.le_trans (List.length_filter_le _ _) ?_
      rw [List.length_range]
      omega
    refine ⟨_, rfl, _, _, rfl, rfl, (m : Int) + 1, rfl, by omega, by omega, fun D hD => ?_⟩
    rw [show ((m : Int) + 1).toNat = m + 1 by omega]
    refine lc_range (fun i H' => H' D = some (.lst (((List.range i).filter fun a => decide (plain a)).map vn)) ∧ But D H H') ⟨upd_same, fun b o hb e => (upd_ne hb).trans e⟩ ?_ ?_
    · rintro i H2 hi ⟨e2, b2⟩
      rw [show (0 : Int) + (i : Int) = ((i : Nat) : Int) by omega]
      refine ⟨rfl, ?_⟩
      refine ⟨_, rfl, i, 3, rfl, pow_up (a := 12) (by omega) (by decide), by decide, by decide, fun H3 l s3 hl3 el => ?_⟩
      have hin : (!inV (.int 2) ((digs 3 i).map vn)) = decide (plain i) := by
        have h1 := inV_nat 2 (digs 3 i)
        have h2 : inV (.int 2) ((digs 3 i).map vn) = decide (2 ∈ digs 3 i) := h1
        rw [h2]
        by_cases h : 2 ∈ digs 3 i
        · rw [decide_eq_true h, decide_eq_false (show ¬ plain i from fun z => z h)]
          rfl
        · rw [decide_eq_false h, decide_eq_true (show plain i from h)]
          rfl
      have ef : (List.range (i + 1)).filter (fun a => decide (plain a)) = (List.range i).filter (fun a => decide (plain a)) ++ (if plain i then [i] else []) := by
        rw [List.range_succ, List.filter_append]
        by_cases h : plain i <;> simp [h]
      refine ⟨_, _, rfl, .inl (SqL.of el), rfl, flat_vn _, _, rfl, ?_⟩
      rw [show (if true = true then !inV (.int 2) ((digs 3 i).map vn) else inV (.int 2) ((digs 3 i).map vn)) = decide (plain i) from hin]
      have e3 : H3 D = some (.lst (((List.range i).filter fun a => decide (plain a)).map vn)) := s3 _ _ e2
      have b3 : But D H H3 := fun b o hb e => s3 b o (b2 b o hb e)
      by_cases h : plain i
      · rw [decide_eq_true h]
        rw [if_pos h] at ef
        refine iteT ⟨_, rfl, _, e3, small_lt (b := 4001) (by rw [List.length_map]; exact fc i (by omega)), ?_, fun b o hb e => (upd_ne hb).trans (b3 b o hb e)⟩
        rw [upd_same, ef, List.map_append]
        rfl
      · rw [decide_eq_false h]
        rw [if_neg h, List.append_nil] at ef
        exact iteF ⟨by rw [ef]; exact e3, b3⟩
    · rintro H2 ⟨e2, b2⟩
      have S2 : Same H H2 := fun b o e => b2 b o (ne_of_none e hD) e
      refine ⟨_, rfl, D, rfl, ⟨_, SqL.of e2⟩, fun D2 hD2 => ?_⟩
      have hpl : ∀ n ∈ (List.range (m + 1)).filter (fun a => decide (plain a)), n ≤ m := fun n hn => by
        have := List.mem_range.mp (List.mem_filter.mp hn).1
        omega
      have hf : ∀ n ∈ (List.range (m + 1)).filter (fun a => decide (plain a)), inV (.int ((m : Int) - (n : Int))) (((List.range (m + 1)).filter fun a => decide (plain a)).map vn) = decide (plain (m - n)) := fun n hn => by
        have h1 := hpl n hn
        rw [show (m : Int) - (n : Int) = ((m - n : Nat) : Int) by omega, inV_nat]
        refine decide_eq_decide.mpr ⟨fun h => of_decide_eq_true (List.mem_filter.mp h).2, fun h => List.mem_filter.mpr ⟨List.mem_range.mpr (by omega), decide_eq_true h⟩⟩
      have hfin : ((List.range (m + 1)).filter fun a => decide (plain a)).filter (fun a => decide (plain (m - a))) = los m := by
        rw [List.filter_filter, ← los_eq]
        refine List.filter_congr fun x _ => ?_
        exact Bool.and_comm _ _
      have hlen := fc (m + 1) (Nat.le_refl _)
      generalize (List.range (m + 1)).filter (fun a => decide (plain a)) = pl at e2 hpl hf hfin hlen
      refine lc_list (K := K) (a := D) (xs := pl.map vn) (fun i H' => ∃ ts : List Addr, H' D2 = some (.lst (ts.map V.ref)) ∧ ts.length = ((pl.take i).filter fun a => decide (plain (m - a))).length ∧
          (∀ (j : Nat) (t : Addr) (n : Nat), ts[j]? = some t → ((pl.take i).filter fun a => decide (plain (m - a)))[j]? = some n → H' t = some (.tup [vn n, .int ((m : Int) - (n : Int))])) ∧ Same H2 H')
        ⟨[], upd_same, rfl, fun j t n h => by simp at h, same_new hD2⟩ (fun i H' _ ⟨ts, _, _, _, sm⟩ => SqL.of (sm _ _ e2)) ?_ ?_
      · rintro i x H6 hx6 ⟨ts, f1, f2, f3, s6⟩
        obtain ⟨n, hn, rfl⟩ : ∃ n, pl[i]? = some n ∧ x = vn n := by
          rw [List.getElem?_map] at hx6
          cases z : pl[i]? with
          | none => rw [z] at hx6; cases hx6
          | some n => rw [z] at hx6; exact ⟨n, rfl, (Option.some.inj hx6).symm⟩
        have hnm := List.mem_of_getElem? hn
        have et : (pl.take (i + 1)).filter (fun a => decide (plain (m - a))) = (pl.take i).filter (fun a => decide (plain (m - a))) ++ (if plain (m - n) then [n] else []) := by
          rw [List.take_add_one, hn, List.filter_append]
          by_cases h : plain (m - n) <;> simp [h]
        refine ⟨rfl, ?_⟩
        refine ⟨_, rfl, _, rfl, _, _, rfl, rfl, _, rfl, D, _, rfl, .inl (SqL.of (s6 _ _ e2)), rfl, flat_vn _, _, rfl, ?_⟩
        rw [show (if false = true then !inV (.int ((m : Int) - (n : Int))) (pl.map vn) else inV (.int ((m : Int) - (n : Int))) (pl.map vn)) = decide (plain (m - n)) from hf n hnm]
        by_cases hok : plain (m - n)
        · rw [decide_eq_true hok]
          rw [if_pos hok] at et
          refine iteT ⟨_, rfl, _, rfl, _, rfl, _, _, rfl, rfl, (by show 2 ≤ sizeLine; decide), fun t ht => ?_⟩
          have nt : D2 ≠ t := ne_of_none f1 ht
          have lt : (ts.map V.ref).length ≤ 4001 := by
            rw [List.length_map, f2]
            refine Nat.le_trans (List.length_filter_le _ _) ?_
            rw [List.length_take]
            omega
          refine ⟨ts.map V.ref, by rw [upd_ne nt]; exact f1, small_lt lt, ts ++ [t], ?_, ?_, ?_, ?_⟩
          · rw [upd_same, List.map_append]
            rfl
          · rw [et, List.length_append, List.length_append, f2]
            rfl
          · intro j t' n' h1 h2
            rcases Nat.lt_trichotomy j ts.length with z | z | z
            · rw [List.getElem?_append_left z] at h1
              rw [et, List.getElem?_append_left (by omega)] at h2
              have a1 := f3 j t' n' h1 h2
              have n1 : t' ≠ t := ne_of_none a1 ht
              have n2 : t' ≠ D2 := ne_of a1 f1 (by intro q; cases q)
              rw [upd_ne n2, upd_ne n1]
              exact a1
            · subst z
              rw [List.getElem?_append_right (Nat.le_refl _), Nat.sub_self] at h1
              rw [et, List.getElem?_append_right (by omega), f2, Nat.sub_self] at h2
              have b1 : t = t' := Option.some.inj h1
              have b2 : n = n' := Option.some.inj h2
              subst b1 b2
              rw [upd_ne nt.symm, upd_same]
            · rw [List.getElem?_eq_none (by rw [List.length_append, List.length_singleton]; omega)] at h1
              cases h1
          · exact Same.mut (s6.trans (same_new ht)) hD2
        · rw [decide_eq_false hok]
          rw [if_neg hok, List.append_nil] at et
          exact iteF ⟨ts, f1, by rw [et]; exact f2, fun j t n h1 h2 => f3 j t n h1 (by rw [et] at h2; exact h2), s6⟩
      · rintro H6 ⟨ts, f1, f2, f3, s6⟩
        rw [List.length_map, List.take_length, hfin] at f2
        rw [List.length_map, List.take_length, hfin] at f3
        have hll : (los m).length = 2 ^ on (digs 3 m) := by
          unfold los
          rw [List.length_map, List.length_range]
        refine q _ D2 ts (S2.trans s6) f1 (f2.trans hll) fun j t h => ?_
        have hj : j < 2 ^ on (digs 3 m) := by
          have := (List.getElem?_eq_some_iff.mp h).1
          omega
        have hlj : (los m)[j]? = some (LO (digs 3 m) j) := by
          unfold los
          rw [List.getElem?_map, List.getElem?_range hj]
          rfl
        rw [f3 j t _ h hlj]
        have hs := LO_sum m j
        refine congrArg (fun z => some (HO.tup [vn (LO (digs 3 m) j), z])) ?_
        unfold vn
        congr 1
        omega
end
end K02

namespace K02
open PySem PySem.Spec PyProof.Rows L2 TM TF
theorem on_few : ∀ n, n < 729 → on (digs 3 n) ≤ 6 := by decide +kernel
/-- the first pairs as numbers -/
def prL (m k : Nat) : List (Int × Int) := (List.range k).map fun j => (((LO (digs 3 m) j : Nat) : Int), ((HI (digs 3 m) j : Nat) : Int))
theorem dp_prL {K : PySem.W.Frag} {H : Hp} {l : Addr} {ts : List Addr} {m : Nat} (el : H l = some (.lst (ts.map V.ref))) (hP : Pairs m ts H) : Dp K H (.ref l) (.list ((prL m ts.length).map fun p => prI p.1 p.2)) := by
  refine .lst (SqL.of el) (dpAll_of _ _ (by rw [List.length_map, List.length_map]; simp [prL]) fun j v d a1 a2 => ?_)
  rw [List.getElem?_map] at a1
  cases b1 : ts[j]? with
  | none => rw [b1] at a1; cases a1
  | some t =>
    have hj := (List.getElem?_eq_some_iff.mp b1).1
    unfold prL at a2
    rw [List.getElem?_map, List.getElem?_map, List.getElem?_range hj] at a2
    rw [b1] at a1
    cases a1
    cases a2
    exact dp_pair (SqT.of (hP j t b1))
theorem prL_any {m k : Nat} {a b : Nat} (ha : plain a) (hb : plain b) (hm : a + b = m) (hk : 2 ^ on (digs 3 m) ≤ k) : (((prL m k).map fun p => prI p.1 p.2).any fun z => PyData.eqv z (prI a b)) = true := by
  obtain ⟨n, h1, h2, h3⟩ := LO_all (digs 3 m) a b (digs_lt3 m) ha hb (by rw [rd_self]; exact hm)
  rw [List.any_map, List.any_eq_true]
  refine ⟨(((LO (digs 3 m) n : Nat) : Int), ((HI (digs 3 m) n : Nat) : Int)), List.mem_map.mpr ⟨n, List.mem_range.mpr (by omega), rfl⟩, ?_⟩
  show PyData.eqv (prI _ _) (prI _ _) = true
  rw [prI_eqv, h2, h3]
  exact decide_eq_true ⟨rfl, rfl⟩
section
variable {P : Program} {w : World} {K : PySem.W.Frag} {mg : Str → Option Value} {base : Heap}
def sp_l_own_right (K : PySem.W.Frag) : Sp := fun vs H Q _ => ∃ (p : Addr) (a b c : Nat), vs = [.ref p] ∧ H p = some (Strm a b c) ∧ b + 600 < 2 ^ 39 ∧ c < 2147483629 ∧
  ∀ H' a' b', But p H H' → H' p = some (Strm a' b' c) → b' ≤ b + 300 → Q (.bl true) H'
theorem ok_l_own_right (T : Txt K mg) : FnOk P w K mg base CX0 7 T.f_l_own_right T.fd_l_own_right ["stream"] (sp_l_own_right K) := by
  have nd := sc_l_own_right.nd
  refine T.F_l_own_right.ok sc_l_own_right (fun vs H Q E h => ?_) (fun cdv A outer s H vs Q E hr h => ?_)
  · obtain ⟨p, a, b, c, rfl, _⟩ := h
    rfl
  · obtain ⟨p, a, b, c, rfl, hp, hb, hc, q⟩ := h
    refine ⟨_, (pss_cons (ps_par (i := 1) (j := 2) (by rfl) nd rfl rfl (by decide) rfl rfl (pa_cons (pe_call (ok_base_member T) (hr.mono (by decide)) rfl T.g_base_member T.F_base_member.kp T.b_base_member .nil pass0 (pa_cons (pe_call (ok_l_draw T) (hr.mono (by decide)) rfl T.g_l_draw T.F_l_draw.kp T.b_l_draw .nil pass0 (pa_cons (pv 0) (pa_cons pe_int pa_nil))) pa_nil)) (pa_cons (pe_call (ok_base_member T) (hr.mono (by decide)) rfl T.g_base_member T.F_base_member.kp T.b_base_member .nil pass0 (pa_cons (pe_call (ok_l_draw T) (hr.mono (by decide)) rfl T.g_l_draw T.F_l_draw.kp T.b_l_draw .nil pass0 (pa_cons (pv 0) (pa_cons pe_int pa_nil))) pa_nil)) pa_nil)) (by rfl))
      (pss_cons (ps_if (PW.pt (pw_or (pt_cmpR (op_notInD (room65 hr)) (pe_tup (pa_cons (pv 1) (pa_cons (pv 2) pa_nil))) (pe_call (ok_l_pairs T) (hr.mono (by decide)) rfl T.g_l_pairs T.F_l_pairs.kp T.b_l_pairs .nil pass0 (pa_cons (pe_op op_add (pv 1) (pv 2)) (pa_cons pe_int pa_nil))) rfl) (pw_or1 (pt_not (pt_val (pe_call (ok_in_base T) (hr.mono (by decide)) rfl T.g_in_base T.F_in_base.kp T.b_in_base .nil pass0 (pa_cons (pv 1) pa_nil))))))) (pss_one (ps_ret pe_bl)) pss_nil)
      (pss_cons (ps_par (i := 3) (j := 4) (by rfl) nd rfl rfl (by decide) rfl rfl (pa_cons (pe_call (ok_base_member T) (hr.mono (by decide)) rfl T.g_base_member T.F_base_member.kp T.b_base_member .nil pass0 (pa_cons (pe_call (ok_l_number T) (hr.mono (by decide)) rfl T.g_l_number T.F_l_number.kp T.b_l_number .nil pass0 (pa_cons (pv 0) pa_nil)) pa_nil)) (pa_cons (pe_call (ok_base_member T) (hr.mono (by decide)) rfl T.g_base_member T.F_base_member.kp T.b_base_member .nil pass0 (pa_cons (pe_call (ok_l_number T) (hr.mono (by decide)) rfl T.g_l_number T.F_l_number.kp T.b_l_number .nil pass0 (pa_cons (pv 0) pa_nil)) pa_nil)) pa_nil)) (by rfl))
      (pss_one (ps_ret (pe_or (pe_cmpR op_eq (pv 3) (pv 4) (nomark _)) (pe_or (pe_not (pe_call (ok_in_base T) (hr.mono (by decide)) rfl T.g_in_base T.F_in_base.kp T.b_in_base .nil pass0 (pa_cons (pe_callB (call_max2 rfl) (by rfl) T.m_max (by decide +kernel) (pa_cons pe_int (pa_cons (pe_op op_sub (pe_op op_mulW pe_int (pv 4)) (pv 3)) pa_nil))) pa_nil))) (pe_one (pe_cmpR op_lt (pe_op op_mulW pe_int (pv 4)) (pv 3) (nomark _)))))))))), ?_⟩
    refine ⟨_, rfl, p, 64, a, b, c, rfl, hp, by decide, by decide, by omega, hc, fun a1 r1 hr1 => ⟨r1, rfl, Nat.lt_trans hr1 (by decide), fun H1 s1 => ?_⟩⟩
    refine ⟨_, rfl, p, 64, a1, b + 1, c, rfl, s1 _ _ upd_same, by decide, by decide, by omega, hc, fun a2 r2 hr2 => ⟨r2, rfl, Nat.lt_trans hr2 (by decide), fun H2 s2 => ?_⟩⟩
    have e2 : H2 p = some (Strm a2 (b + 2) c) := s2 _ _ upd_same
    have b2 : But p H H2 := fun x o hx e => s2 _ _ (by rw [upd_ne hx]; exact s1 _ _ (by rw [upd_ne hx]; exact e))
    clear s1 s2
    have w1 : B r1 < 2 ^ 20 := Nat.lt_of_le_of_lt (B_mono (show r1 ≤ 63 by omega)) (by decide +kernel)
    have w2 : B r2 < 2 ^ 20 := Nat.lt_of_le_of_lt (B_mono (show r2 ≤ 63 by omega)) (by decide +kernel)
    refine ⟨_, _, rfl, _, rfl, _, rfl, (by show 2 ≤ sizeLine; decide), fun t ht => ?_⟩
    refine ⟨_, rfl, _, rfl, _, _, rfl, rfl, B r1 + B r2, 70, rfl, by omega, by decide, by decide, fun H3 l ts s3 el hl hP => ?_⟩
    have st : Same H2 (upd H2 t (.tup [vn (B r1), vn (B r2)])) := same_new ht
    have et : H3 t = some (.tup [vn (B r1), vn (B r2)]) := s3 _ _ upd_same
    have hon : 2 ^ on (digs 3 (B r1 + B r2)) ≤ 64 := by
      have g : ∀ r, r < 64 → B r ≤ 364 := by decide +kernel
      have g1 := g r1 hr1
      have g2 := g r2 hr2
      have := on_few (B r1 + B r2) (by omega)
      exact Nat.le_trans (Nat.pow_le_pow_right (by decide) this) (by decide)
    refine ⟨_, _, dp_pair (SqT.of et), dp_prL el hP, prI_shaped _ _, prs_shaped _, _, rfl, ?_⟩
    rw [prL_any (B_plain r1) (B_plain r2) rfl (by omega)]
    refine ite2 (fun c => nomatch c) (fun _ => ?_)
    refine ⟨_, rfl, B r1, rfl, Nat.lt_trans w1 (by decide +kernel), fun H4 s4 => ?_⟩
    rw [decide_eq_true (B_plain r1)]
    refine ⟨_, rfl, ?_⟩
    refine ite2 (fun c => nomatch c) (fun _ => ?_)
    have e4 : H4 p = some (Strm a2 (b + 2) c) := s4 _ _ (s3 _ _ (st _ _ e2))
    have b4 : But p H H4 := fun x o hx e => s4 _ _ (s3 _ _ (st _ _ (b2 x o hx e)))
    refine ⟨_, rfl, p, a2, b + 2, c, rfl, e4, by omega, hc, fun a3 b3 n1 hb3 hn1 => ⟨n1, rfl, pow_up hn1 (by decide), fun H5 s5 => ?_⟩⟩
    refine ⟨_, rfl, p, a3, b3, c, rfl, s5 _ _ upd_same, by omega, hc, fun a4 b4' n2 hb4 hn2 => ⟨n2, rfl, pow_up hn2 (by decide), fun H6 s6 => ⟨_, _, rfl, ?_⟩⟩⟩
    have e6 : H6 p = some (Strm a4 b4' c) := s6 _ _ upd_same
    have b6 : But p H H6 := fun x o hx e => s6 _ _ (by rw [upd_ne hx]; exact s5 _ _ (by rw [upd_ne hx]; exact b4 x o hx e))
    have fin : ∀ H7, Same H6 H7 → Q (.bl true) H7 := fun H7 s7 => q H7 a4 b4' (fun x o hx e => s7 _ _ (b6 x o hx e)) (s7 _ _ e6) (by omega)
    have wB : B n2 < 2 ^ 600 := B_big (a := 300) (pow_up hn2 (by decide))
    have wB1 : B n1 < 2 ^ 600 := B_big (a := 300) (pow_up hn1 (by decide))
    have cw : CMulW 2 ((B n2 : Nat) : Int) := wide_mul (a := 2) (b := 600) (by decide) (by omega) (by decide) (by decide) (by decide)
    have emax : V.int (if (2 * ((B n2 : Nat) : Int) - ((B n1 : Nat) : Int)) > 0 then 2 * ((B n2 : Nat) : Int) - ((B n1 : Nat) : Int) else 0) = vn (2 * B n2 - B n1) := by
      unfold vn
      congr 1
      split <;> omega
    have p6 : (2 : Nat) ^ 600 * 4 ≤ 2 ^ 4000 := by decide +kernel
    refine ⟨_, rfl, _, rfl, rfl, _, rfl, ite2 (fun c => fin H6 (Same.refl _)) (fun c => ?_)⟩
    refine ⟨_, rfl, _, _, rfl, rfl, cw, _, rfl, _, _, rfl, rfl, _, _, rfl, 2 * B n2 - B n1, ?_, by omega, fun H7 s7 => ⟨_, rfl, _, rfl, ite2 (fun c2 => fin H7 s7) (fun c2 => ?_)⟩⟩
    · exact congrArg (fun z => [z]) emax
    · have hpl : plain (2 * B n2 - B n1) := by
        apply Classical.byContradiction
        intro z
        exact c2 (by rw [decide_eq_false z]; rfl)
      have hlt : 2 * B n2 < B n1 := by
        apply Classical.byContradiction
        intro z
        obtain ⟨r, hr0⟩ := plain_B _ hpl
        have h1 := no_triple n2 n1 r (by omega)
        refine c ?_
        rw [h1.1]
        exact decide_eq_true rfl
      refine ⟨_, rfl, _, _, rfl, rfl, cw, _, rfl, _, _, rfl, rfl, ?_⟩
      have e1 : decide (2 * ((B n2 : Nat) : Int) < ((B n1 : Nat) : Int)) = true := decide_eq_true (by omega)
      show Q (V.bl (decide (2 * ((B n2 : Nat) : Int) < ((B n1 : Nat) : Int)))) H7
      rw [e1]
      exact fin H7 s7
end
end K02

/-! D8: the round of i -> 5 i + 1 for the masks 511 and 2047: the beginning of sets of more than 63 tuples -/
namespace L2
/-- the slot after n steps, and the slots met so far as bits -/
def orb (m : Nat) : Nat → Nat × Nat
  | 0 => (0, 0)
  | n + 1 => (((orb m n).1 * 5 + 1) % (m + 1), (orb m n).2 ||| 1 <<< (orb m n).1)
theorem orb_fst (m : Nat) : ∀ n, (orb m n).1 = lcgN m n
  | 0 => rfl
  | n + 1 => by
    show ((orb m n).1 * 5 + 1) % (m + 1) = (lcgN m n * 5 + 1) % (m + 1)
    rw [orb_fst m n]
theorem orb_met (m j : Nat) : ∀ n, (orb m n).2.testBit j = true → ∃ b, b < n ∧ lcgN m b = j
  | 0, h => by
    have h0 : (orb m 0).2 = 0 := rfl
    rw [h0, Nat.zero_testBit] at h
    cases h
  | n + 1, h => by
    have e : (orb m (n + 1)).2 = (orb m n).2 ||| 1 <<< (orb m n).1 := rfl
    rw [e, Nat.testBit_or, Bool.or_eq_true] at h
    rcases h with h | h
    · obtain ⟨b, h1, h2⟩ := orb_met m j n h
      exact ⟨b, by omega, h2⟩
    · rw [Nat.one_shiftLeft, Nat.testBit_two_pow] at h
      exact ⟨n, by omega, by rw [← orb_fst]; exact of_decide_eq_true h⟩
def orbF (m : Nat) (p : Nat × Nat) : Nat × Nat := ((p.1 * 5 + 1) % (m + 1), p.2 ||| 1 <<< p.1)
/-- k steps on, in halves (the kernel does not go deep) -/
def orbK (m : Nat) : Nat → Nat × Nat → Nat × Nat
  | 0, p => orbF m p
  | k + 1, p => orbK m k (orbK m k p)
theorem orb_add (m : Nat) : ∀ k n, orbK m k (orb m n) = orb m (n + 2 ^ k)
  | 0, n => rfl
  | k + 1, n => by
    show orbK m k (orbK m k (orb m n)) = _
    rw [orb_add m k n, orb_add m k (n + 2 ^ k)]
    congr 1
    rw [Nat.pow_succ]
    omega
theorem orb_all {m k : Nat} (hm : m + 1 = 2 ^ k) (h : (orbK m k (0, 0)).2 = 2 ^ (m + 1) - 1) {j : Nat} (hj : j ≤ m) : ∃ b, b ≤ m ∧ lcgN m b = j := by
  have e : orbK m k (0, 0) = orb m (2 ^ k) := by
    have := orb_add m k 0
    rw [Nat.zero_add] at this
    exact this
  rw [e] at h
  obtain ⟨b, h1, h2⟩ := orb_met m j (2 ^ k) (by rw [h, Nat.testBit_two_pow_sub_one]; exact decide_eq_true (by omega))
  exact ⟨b, by omega, h2⟩
theorem orb_round {m k : Nat} (hm : m + 1 = 2 ^ k) (h : (orbK m k (0, 0)).1 = 0) : lcgN m (m + 1) = 0 := by
  rw [hm, ← orb_fst, ← h]
  have := orb_add m k 0
  rw [Nat.zero_add] at this
  rw [← this]
  rfl
theorem all511 {j : Nat} (hj : j ≤ 511) : ∃ b, b ≤ 511 ∧ lcgN 511 b = j := orb_all (k := 9) rfl (by decide +kernel) hj
theorem round511 : lcgN 511 512 = 0 := orb_round (k := 9) rfl (by decide +kernel)
theorem all2047 {j : Nat} (hj : j ≤ 2047) : ∃ b, b ≤ 2047 ∧ lcgN 2047 b = j := orb_all (k := 11) rfl (by decide +kernel) hj
theorem round2047 : lcgN 2047 2048 = 0 := orb_round (k := 11) rfl (by decide +kernel)
/-- a mask whose round meets every slot -/
structure MaskR (m : Nat) : Prop where
  odd : m % 2 = 1
  all : ∀ j, j ≤ m → ∃ b, b ≤ m ∧ lcgN m b = j
  round : lcgN m (m + 1) = 0
theorem MaskR.of {m : Nat} (h : MaskOk m) : MaskR m := ⟨mask_odd h, fun j hj => lcg_all h hj, lcg_round h⟩
theorem maskR_511 : MaskR 511 := ⟨rfl, fun j hj => all511 hj, round511⟩
theorem maskR_2047 : MaskR 2047 := ⟨rfl, fun j hj => all2047 hj, round2047⟩
theorem MaskR.mod {m : Nat} (M : MaskR m) : ∀ k, lcgN m (m + 1 + k) = lcgN m k
  | 0 => M.round
  | k + 1 => by
    show (lcgN m (m + 1 + k) * 5 + 1) % (m + 1) = (lcgN m k * 5 + 1) % (m + 1)
    rw [M.mod k]
/-- from anywhere each slot is met within a round -/
theorem MaskR.meets {m : Nat} (M : MaskR m) {i j : Nat} (hi : i ≤ m) (hj : j ≤ m) : ∃ k, k ≤ m ∧ lcgI m i k = j := by
  obtain ⟨a, ha, ea⟩ := M.all i hi
  obtain ⟨b, hb, eb⟩ := M.all j hj
  rcases Nat.lt_or_ge b a with c | c
  · refine ⟨b + (m + 1) - a, by omega, ?_⟩
    rw [← ea, lcgN_add, show a + (b + (m + 1) - a) = m + 1 + b by omega, M.mod, eb]
  · refine ⟨b - a, by omega, ?_⟩
    rw [← ea, lcgN_add, show a + (b - a) = b by omega, eb]
/-- each slot begins a run early enough -/
theorem MaskR.run {m : Nat} (M : MaskR m) (h : Int) {j : Nat} (hj : j ≤ m) : ∃ n, n ≤ m + 12 ∧ runI m (PySem.SetTable.bits h) n = j := by
  obtain ⟨k, hk, e⟩ := M.meets (runI_le m (PySem.SetTable.bits h) 12) hj
  refine ⟨12 + k, by omega, ?_⟩
  rw [runI_tail (bits_lt h), e]
/-- each slot is met within the search's bound -/
theorem MaskR.nth {m : Nat} (M : MaskR m) (h : Int) {j : Nat} (hj : j ≤ m) : ∃ k, k < 10 * PySem.SetTable.turns m ∧ (nth m (runAt m (PySem.SetTable.bits h % (m + 1)) (PySem.SetTable.bits h)) k).j = j := by
  obtain ⟨n, hn, e⟩ := M.run h hj
  obtain ⟨k, hk, e2⟩ := run_nth m (PySem.SetTable.bits h) n
  refine ⟨k, ?_, by rw [e2, ← e]; rfl⟩
  unfold PySem.SetTable.turns
  omega
/-- the way by runs meets each slot -/
theorem MaskR.off {m : Nat} (M : MaskR m) (h : Int) {j : Nat} (hj : j ≤ m) : ∃ n, n ≤ m + 12 ∧ way m h (L2.off m (PySem.SetTable.bits h % (m + 1)) (PySem.SetTable.bits h) n) = j := by
  obtain ⟨n, hn, e⟩ := M.run h hj
  refine ⟨n, hn, ?_⟩
  show (L2.nth m (runAt m (PySem.SetTable.bits h % (m + 1)) (PySem.SetTable.bits h)) (L2.off m (PySem.SetTable.bits h % (m + 1)) (PySem.SetTable.bits h) n)).j = j
  rw [nth_off, itL_run, ← e]
  rfl
/-- a free slot is found, at the first free place of the way -/
theorem MaskR.find {m : Nat} (M : MaskR m) (owner : Array (Option Nat)) (h : Int) {j : Nat} (hj : j ≤ m) (hf : oAt owner j = none) :
    ∃ K, PySem.SetTable.layClean.free m owner (PySem.SetTable.turns m) (PySem.SetTable.bits h % (m + 1)) (PySem.SetTable.bits h) = some (way m h K) ∧ oAt owner (way m h K) = none ∧ ∀ k, k < K → oAt owner (way m h k) ≠ none := by
  obtain ⟨n, hn, hw⟩ := M.off h hj
  have hex : (fun k => oAt owner (way m h k) = none) (L2.off m (PySem.SetTable.bits h % (m + 1)) (PySem.SetTable.bits h) n) := by
    show oAt owner (way m h _) = none
    rw [hw]
    exact hf
  obtain ⟨K, k1, k2, k3⟩ := st_least (p := fun k => oAt owner (way m h k) = none) _ hex
  have k2' : oAt owner (way m h K) = none := k2
  refine ⟨K, free_spec m owner (PySem.SetTable.turns m) n _ _ K (by unfold PySem.SetTable.turns; omega) k1 (fun k hk => ?_) ?_, k2', k3⟩
  · have q : oAt owner (L2.nth m (runAt m (PySem.SetTable.bits h % (m + 1)) (PySem.SetTable.bits h)) k).j ≠ none := k3 k hk
    exact Option.isNone_eq_false_iff.mpr (Option.isSome_iff_ne_none.mpr q)
  · have q : oAt owner (L2.nth m (runAt m (PySem.SetTable.bits h % (m + 1)) (PySem.SetTable.bits h)) K).j = none := k2'
    rw [q]
    rfl
end L2

set_option maxHeartbeats 3200000
/-! D9: set(xs) of up to 1,100 different tuples: what the table's slots are in particular is never asked, as no two tuples are equal -/
namespace L2
open PySem PySem.Spec PyProof.Rows
/-- the masks of sets of up to 1,228 -/
def MaskS (m : Nat) : Prop := m = 7 ∨ m = 31 ∨ m = 127 ∨ m = 511 ∨ m = 2047
theorem MaskS.r {m : Nat} (h : MaskS m) : MaskR m := by
  rcases h with rfl | rfl | rfl | rfl | rfl
  · exact MaskR.of (.inl rfl)
  · exact MaskR.of (.inr (.inl rfl))
  · exact MaskR.of (.inr (.inr rfl))
  · exact maskR_511
  · exact maskR_2047
theorem MaskS.le {m : Nat} (h : MaskS m) : m ≤ 2047 := by
  rcases h with rfl | rfl | rfl | rfl | rfl <;> decide
theorem way_in (m : Nat) (h : Int) (k : Nat) : way m h k ≤ m := by
  have hi : SetTable.bits h % (m + 1) ≤ m := Nat.le_of_lt_succ (Nat.mod_lt _ (Nat.succ_pos _))
  have r := (runEnd_bd hi).1
  have q := nth_in (m := m) k (runAt m (SetTable.bits h % (m + 1)) (SetTable.bits h)) (by
    show SetTable.bits h % (m + 1) + (SetTable.runEnd m (SetTable.bits h % (m + 1)) - SetTable.bits h % (m + 1)) ≤ m
    omega)
  exact Nat.le_trans (Nat.le_add_right _ _) q
/-- a table with n seats taken -/
structure Tb (t : SetTable) (n : Nat) : Prop where
  ris : Ris t.place.toList
  dm : t.dummies = #[]
  sz : t.place.size = n
  mok : MaskS t.mask
theorem Tb.first {t : SetTable} {n : Nat} (T : Tb t n) (hl : n ≤ t.mask) (h : Int) : ∃ K, K < 10 * SetTable.turns t.mask ∧ way t.mask h K ∉ t.place.toList ∧ ∀ k, k < K → way t.mask h k ∈ t.place.toList := by
  obtain ⟨j, hj, hn⟩ := st_missing t.place.toList (t.mask + 1) (by rw [Array.length_toList, T.sz]; omega)
  obtain ⟨k, hk, e⟩ := T.mok.r.nth h (Nat.le_of_lt_succ hj)
  obtain ⟨K, h1, h2, h3⟩ := st_least (p := fun k => way t.mask h k ∉ t.place.toList) k (by rw [← e] at hn; exact hn)
  exact ⟨K, Nat.lt_of_le_of_lt h1 hk, h2, fun k' hk' => Classical.byContradiction (h3 k' hk')⟩
theorem Tb.put {t : SetTable} {n j : Nat} (T : Tb t n) (hn : j ∉ t.place.toList) : Tb (t.put j).1 (n + 1) ∧ (t.put j).2 = SetTable.below t.place j ∧ SetTable.below t.place j ≤ n ∧ (t.put j).1.fill = n + 1 := by
  obtain ⟨c1, _, _⟩ := below_cut T.ris j
  have hpp := put_place t j
  have hle : SetTable.below t.place j ≤ t.place.toList.length := by rw [Array.length_toList]; exact c1
  have hsize : (t.put j).1.place.size = n + 1 := by
    rw [← Array.length_toList, hpp, len_ins _ hle, Array.length_toList, T.sz]
  refine ⟨⟨ris_insert T.ris fun e => hn (List.mem_of_getElem? (by rw [Array.getElem?_toList]; exact e)), put_dm T.dm j, hsize, T.mok⟩, rfl, by rw [← T.sz]; exact c1, ?_⟩
  show (t.put j).1.place.size + (t.put j).1.dummies.size = n + 1
  rw [hsize, put_dm T.dm j]
  rfl
/-- the first k have a seat each, and no seat is taken otherwise -/
structure Seats (m k : Nat) (owner : Array (Option Nat)) : Prop where
  sz : owner.size = m + 1
  all : ∀ i, i < k → ∃ j, j ≤ m ∧ oAt owner j = some i
  few : ∃ ps : List Nat, ps.length = k ∧ ∀ j, j ≤ m → oAt owner j ≠ none → j ∈ ps
theorem Seats.next {m k : Nat} (M : MaskR m) {owner : Array (Option Nat)} (W : Seats m k owner) (hk : k ≤ m) (h : Int) :
    ∃ o', stepF m (some (owner, k)) h = some (o', k + 1) ∧ Seats m (k + 1) o' := by
  obtain ⟨ps, hps, hin⟩ := W.few
  obtain ⟨j0, h0, hn0⟩ := st_missing ps (m + 1) (by omega)
  have hj0 : oAt owner j0 = none := Classical.byContradiction fun c => hn0 (hin j0 (Nat.le_of_lt_succ h0) c)
  obtain ⟨K, e1, e2, _⟩ := M.find owner h (Nat.le_of_lt_succ h0) hj0
  have hjm := way_in m h K
  generalize way m h K = j at e1 e2 hjm
  have hself := oAt_set_self (owner := owner) (j := j) (some k) (by rw [W.sz]; omega)
  refine ⟨_, stepF_some e1, by rw [Array.size_setIfInBounds]; exact W.sz, fun i hi => ?_, j :: ps, by rw [List.length_cons, hps], fun i hi e => ?_⟩
  · rcases Nat.lt_succ_iff_lt_or_eq.mp hi with c | rfl
    · obtain ⟨y, a, b⟩ := W.all i c
      refine ⟨y, a, ?_⟩
      rw [oAt_set_ne _ (fun z => by rw [z, e2] at b; cases b)]
      exact b
    · exact ⟨j, hjm, hself⟩
  · by_cases c : i = j
    · rw [c]
      exact List.mem_cons_self
    · rw [oAt_set_ne _ c] at e
      exact List.mem_cons_of_mem _ (hin i hi e)
theorem Seats.run {m : Nat} (M : MaskR m) : ∀ (rest : List Int) (k : Nat) (owner : Array (Option Nat)), Seats m k owner → k + rest.length ≤ m + 1 →
    ∃ o', rest.foldl (stepF m) (some (owner, k)) = some (o', k + rest.length) ∧ Seats m (k + rest.length) o'
  | [], k, owner, W, _ => ⟨owner, rfl, W⟩
  | h :: rest, k, owner, W, hl => by
    rw [List.length_cons] at hl ⊢
    obtain ⟨o1, e, W1⟩ := W.next M (by omega) h
    obtain ⟨o2, f, W2⟩ := Seats.run M rest (k + 1) o1 W1 (by omega)
    rw [show k + (rest.length + 1) = k + 1 + rest.length by omega]
    exact ⟨o2, by rw [List.foldl_cons, e]; exact f, W2⟩
/-- a table laid anew: the same ones in some order -/
theorem relaid_tb (t : SetTable) {hs : Array Int} {wanted M : Nat} (hw : SetTable.sizeAbove wanted - 1 = M) (hM : MaskS M) (hn : hs.size ≤ M) :
    ∃ t' order, t.relaid hs wanted = some (t', order) ∧ order.toList.Perm (List.range hs.size) ∧ Tb t' hs.size ∧ t'.mask = M ∧ t'.led = t.led ∧ t'.plain = t.plain := by
  obtain ⟨owner, f, W⟩ := Seats.run hM.r hs.toList 0 (Array.replicate (M + 1) none) ⟨by simp, fun i hi => absurd hi (Nat.not_lt_zero _), [], rfl, fun j hj e => absurd (oAt_init hj) e⟩ (by rw [Array.length_toList]; omega)
  rw [Nat.zero_add] at W f
  have hr : t.relaid hs wanted = some (tabOf t M owner, ((liveOf M owner).map (·.2)).toArray) := by
    rw [relaid_eq, hw, layClean_eq, f]
    rfl
  have ris := ris_live (fun j => owner.getD j none) (List.range (M + 1)) (by
    unfold Ris
    first | exact List.pairwise_lt_range | exact List.pairwise_lt_range _)
  have r1 : Ris ((liveOf M owner).map (·.1)) := ris.1
  have hz : hs.toList.length = hs.size := rfl
  have hlen : (liveOf M owner).length = hs.size := by
    obtain ⟨ps, p1, p2⟩ := W.few
    have nd : ((liveOf M owner).map (·.1)).Nodup := List.Pairwise.imp (fun h => Nat.ne_of_lt h) r1
    have a := nat_nodup_len ((liveOf M owner).map (·.1)) ps nd fun x hx => by
      obtain ⟨⟨y, k⟩, hq, rfl⟩ := List.mem_map.mp hx
      obtain ⟨b1, b2⟩ := (mem_live W.sz).1 hq
      exact p2 y b1 (by rw [b2]; exact fun z => nomatch z)
    have b := nat_nodup_len (List.range hs.size) ((liveOf M owner).map (·.2)) List.nodup_range fun k hk => by
      obtain ⟨j, b1, b2⟩ := W.all k (List.mem_range.mp hk)
      exact List.mem_map.mpr ⟨(j, k), (mem_live W.sz).2 ⟨b1, b2⟩, rfl⟩
    rw [List.length_map, p1] at a
    rw [List.length_map, List.length_range] at b
    omega
  refine ⟨_, _, hr, perm_range hs.size _ ?_ fun k hk => ?_, ⟨r1, rfl, ?_, hM⟩, rfl, rfl, rfl⟩
  · show ((liveOf M owner).map (·.2)).length = hs.size
    rw [List.length_map]
    exact hlen
  · obtain ⟨j, b1, b2⟩ := W.all k hk
    exact List.mem_map.mpr ⟨(j, k), (mem_live W.sz).2 ⟨b1, b2⟩, rfl⟩
  · show ((liveOf M owner).map (·.1)).toArray.size = hs.size
    rw [List.size_toArray, List.length_map]
    exact hlen
theorem grow_77 : SetTable.sizeAbove (SetTable.grown 77) = 512 := by decide +kernel
theorem grow_307 : SetTable.sizeAbove (SetTable.grown 307) = 2048 := by decide +kernel

section
variable {P : Program} {w : World} {A : Around} {E : Value → Shared → Prop} {s : Shared}
/-- the set of the tuples L, no two of them equal -/
structure SetB (P : Program) (w : World) (h : Heap) (a : Addr) (L : List (Addr × List Int)) (es : Array (Int × Value)) (ep : Nat) (t : SetTable) : Prop where
  ob : ∃ o, h.get? a = some o ∧ o.ExactSet ∧ o.data = .set es ep t
  rows : es.toList = rowsOf P w L
  tab : Tb t L.length
  nd : (L.map (·.2)).Nodup
  tup : ∀ p ∈ L, IsT P w h p.2 p.1
  plain : t.plain = true
  led : w.params.followText "set-order" = true ∨ t.led = true
  room : L.length * 5 < t.mask * 3
variable {a : Addr} {L : List (Addr × List Int)} {es : Array (Int × Value)} {ep : Nat} {t : SetTable}
theorem rows_size (e : es.toList = rowsOf P w L) : es.size = L.length := by
  have h := congrArg List.length e
  unfold rowsOf at h
  rw [Array.length_toList, List.length_map] at h
  exact h
theorem Tb.fits {n m : Nat} (T : Tb t n) (e : m = n) (h : n ≤ t.mask) : t.fits m = true := by
  unfold SetTable.fits SetTable.fill
  rw [T.dm, Bool.and_eq_true, beq_iff_eq, decide_eq_true_eq, T.sz]
  exact ⟨e.symm, h⟩
theorem SetB.fits (R : SetB P w s.heap a L es ep t) : t.fits es.size = true := R.tab.fits (rows_size R.rows) (by have := R.room; omega)
theorem row_at (hr : es.toList = rowsOf P w L) {i : Nat} {p : Addr × List Int} (h : L[i]? = some p) : es[i]? = some (thash P w p.2, Value.ref p.1) := by
  rw [← Array.getElem?_toList, hr]
  unfold rowsOf
  rw [List.getElem?_map, h]
  rfl
theorem nth_dm {m : Nat} : ∀ (n : Nat) (p : SetTable.Probe), p.dummy = none → (nth m p n).dummy = none
  | 0, _, h => h
  | n + 1, p, h => nth_dm n (adv m p) (by unfold adv; split <;> exact h)
/-- the search for what is not in the set comes to the first free slot -/
theorem look_new (R : SetB P w s.heap a L es ep t) {x : Addr} {k : List Int} (hx : IsT P w s.heap k x) (hu : A.units < cLine) (hm : k ∉ L.map (·.2)) {K : Nat} (hKf : K < 10 * SetTable.turns t.mask)
    (hK : way t.mask (thash P w k) K ∉ t.place.toList) (hKb : ∀ c, c < K → way t.mask (thash P w k) c ∈ t.place.toList) {Q : SetFound → Shared → Prop} (hQ : Q (.free (way t.mask (thash P w k) K) false) s) :
    ∀ (f c : Nat) (stand : Option SetTable.Probe), stand.getD (t.probeStart (thash P w k)) = nth t.mask (runAt t.mask (SetTable.bits (thash P w k) % (t.mask + 1)) (SetTable.bits (thash P w k))) c → c ≤ K → K - c < f →
      wpAny (model P w) A (setSearchFrom a (.ref x) (thash P w k) true f stand) Q E s
  | 0, c, stand, _, _, hf => absurd hf (Nat.not_lt_zero _)
  | f + 1, c, stand, hst, hc, hf => by
    obtain ⟨o, ho, hex, hd⟩ := R.ob
    rw [setSearchFrom_succ]
    refine wpAny_bind (wpAny_setState_of ho hd R.fits ?_)
    dsimp only
    refine wp_if_neg (by unfold SetTable.gaveWay; rw [R.tab.mok.r.odd]; decide) ?_
    try refine wpAny_bind (wpAny_pure ?_)
    have hnd := nth_dm (m := t.mask) c (runAt t.mask (SetTable.bits (thash P w k) % (t.mask + 1)) (SetTable.bits (thash P w k))) rfl
    have e0 : ∀ q, nth t.mask (nth t.mask (runAt t.mask (SetTable.bits (thash P w k) % (t.mask + 1)) (SetTable.bits (thash P w k))) c) q = nth t.mask (runAt t.mask (SetTable.bits (thash P w k) % (t.mask + 1)) (SetTable.bits (thash P w k))) (c + q) := fun q => (nth_add t.mask c _ q).symm
    generalize nth t.mask (runAt t.mask (SetTable.bits (thash P w k) % (t.mask + 1)) (SetTable.bits (thash P w k))) c = p0 at hst hnd e0
    have e1 : ∀ q, (nth t.mask p0 q).j = way t.mask (thash P w k) (c + q) := fun q => congrArg SetTable.Probe.j (e0 q)
    have spec := go_spec t R.tab.ris R.tab.dm (fun i => (es[i]?.map (·.1)).getD 0) (thash P w k) (10 * SetTable.turns t.mask) (K - c) p0 hnd (by omega)
      (fun q hq => by rw [e1]; exact hKb (c + q) (by omega)) (by rw [e1, show c + (K - c) = K by omega]; exact hK)
    rcases spec with ⟨q, i, hq, hi, hh, hno, hpr⟩ | ⟨hno, hpr⟩
    · have hpr2 : t.probe (fun i => (es[i]?.map (·.1)).getD 0) (thash P w k) (stand.getD (t.probeStart (thash P w k))) = some (.candidate (nth t.mask p0 q).j i (nth t.mask p0 (q + 1))) := by
        rw [hst]
        exact hpr
      rw [hpr2]
      dsimp only
      have hil : i < L.length := by
        rw [← R.tab.sz, ← Array.length_toList]
        exact (List.getElem?_eq_some_iff.mp hi).1
      obtain ⟨p, hp⟩ : ∃ p, L[i]? = some p := ⟨_, List.getElem?_eq_getElem hil⟩
      have hmem : p ∈ L := List.mem_of_getElem? hp
      have hkk : p.2 ≠ k := fun e => hm (List.mem_map.mpr ⟨p, hmem, e⟩)
      have hsl := slot_live R.tab.ris hi
      have rest : wpAny (model P w) A (searchRest a (.ref x) (thash P w k) true f es t (nth t.mask p0 q).j i (nth t.mask p0 (q + 1))) Q E s := by
        unfold searchRest
        rw [row_at R.rows hp]
        dsimp only
        refine wpAny_bind (wpAny_holding (wpAny_eqBool_tuple hu (R.tup p hmem) hx ?_))
        refine wpAny_bind (wpAny_setState_of ho hd R.fits ?_)
        dsimp only
        refine wp_if_neg (by simp [hkk]) ?_
        try refine wpAny_bind (wpAny_pure ?_)
        rw [sameMem]
        dsimp only
        simp only [if_true, hsl, row_at R.rows hp]
        refine wpAny_bind (wpAny_isSame_ref_self (wpAny_bind (wpAny_pure ?_)))
        simp only [if_true]
        refine wp_if_neg (by simp [hkk]) ?_
        exact look_new R hx hu hm hKf hK hKb hQ f (c + (q + 1)) _ (e0 (q + 1)) (by omega) (by omega)
      by_cases hl : t.led = true
      · refine wp_if_neg (by simp [hl]) ?_
        try refine wpAny_bind (wpAny_pure ?_)
        exact rest
      · refine wp_if_pos (by simp [hl]) ?_
        refine wpAny_bind (seen_tup hx (fun y hy => ?_) ?_)
        · obtain ⟨e, he, ee⟩ := List.mem_map.mp hy
          have he1 : e ∈ es ∧ e.1 = thash P w k := by simpa using he
          have he2 : e ∈ es.toList := by simpa using he1.1
          rw [R.rows] at he2
          obtain ⟨p2, hp2, e2⟩ := List.mem_map.mp he2
          refine ⟨p2.2, p2.1, ?_, R.tup p2 hp2⟩
          rw [← ee, ← e2]
        · refine wp_if_neg (by decide) ?_
          try refine wpAny_bind (wpAny_pure ?_)
          exact rest
    · have e2 := e1 (K - c)
      rw [show c + (K - c) = K by omega] at e2
      have hpr2 : t.probe (fun i => (es[i]?.map (·.1)).getD 0) (thash P w k) (stand.getD (t.probeStart (thash P w k))) = some (.empty (way t.mask (thash P w k) K) none) := by
        rw [hst, ← e2]
        exact hpr
      rw [hpr2]
      dsimp only
      exact wpAny_pure hQ

/-- the table is laid anew, larger -/
theorem lay_at {o : Obj} (ho : s.heap.get? a = some o) (hex : o.ExactSet) (hd : o.data = .set es ep t) (hrows : es.toList = rowsOf P w L) (T : Tb t L.length) (hfl : L.length ≤ t.mask)
    (nd : (L.map (·.2)).Nodup) (tup : ∀ p ∈ L, IsT P w s.heap p.2 p.1) (pl : t.plain = true) (ld : w.params.followText "set-order" = true ∨ t.led = true) {wanted M : Nat}
    (hw : SetTable.sizeAbove wanted - 1 = M) (hM : MaskS M) (hn : L.length * 5 < M * 3) {Q : Unit → Shared → Prop}
    (hQ : ∀ h' L' es' ep' t', Heap.SameBut a s.heap h' → SetB P w h' a L' es' ep' t' → L'.Perm L → Q () { s with heap := h' }) : wpAny (model P w) A (setRelay a wanted) Q E s := by
  have hsl := rows_size hrows
  have hM2 := hM.le
  obtain ⟨t', order, e, hp, T', em, el, ep'⟩ := relaid_tb t (hs := es.map (·.1)) (wanted := wanted) hw hM (by rw [Array.size_map, hsl]; omega)
  rw [Array.size_map, hsl] at hp T'
  obtain ⟨L2, r1, r2, _⟩ := order_rows L es order hrows hp
  have hs2 : (order.filterMap (es[·]?)).size = L.length := by rw [rows_size r1, r2.length_eq]
  rw [setRelay_eq]
  refine wpAny_bind (wpAny_setState_of ho hd (T.fits hsl hfl) ?_)
  dsimp only
  refine wp_if_neg (by rw [sizeLine_eq]; omega) ?_
  try refine wpAny_bind (wpAny_pure ?_)
  rw [e]
  dsimp only
  refine wpAny_bind ?_
  refine wp_if_neg (by rw [hs2, hsl]; simp) ?_
  try refine wpAny_bind (wpAny_pure ?_)
  refine wpAny_pure ?_
  dsimp only
  refine wpAny_storeSet_of ho hd ?_ (by rw [hs2, sizeLine_eq]; omega)
  have sb : Heap.SameBut a s.heap (s.heap.update a (Obj.putSet (order.filterMap (es[·]?)) t')) := Heap.SameBut.update ..
  exact hQ _ L2 (order.filterMap (es[·]?)) (ep + 1) t' sb ⟨⟨_, store_at ho hd, ⟨hex.1, hex.2.1, hex.2.2⟩, rfl⟩, r1, by rw [r2.length_eq]; exact T', (r2.map (·.2)).nodup_iff.mpr nd,
    fun p hpm => isT_same (tup p (r2.mem_iff.mp hpm)) ho hd sb, by rw [ep']; exact pl, by rw [el]; exact ld, by rw [r2.length_eq, em]; exact hn⟩ r2

/-- a further tuple is added -/
theorem put_new (R : SetB P w s.heap a L es ep t) {x : Addr} {k : List Int} (hx : IsT P w s.heap k x) (hu : A.units < cLine) (hm : k ∉ L.map (·.2)) (hfew : L.length < 1200) {Q : Bool → Shared → Prop}
    (hQ : ∀ b h' L' es' ep' t', Heap.SameBut a s.heap h' → SetB P w h' a L' es' ep' t' → L'.Perm ((x, k) :: L) → Q b { s with heap := h' }) :
    wpAny (model P w) A (setAddHashed a (.ref x) (thash P w k)) Q E s := by
  obtain ⟨o, ho, hex, hd⟩ := R.ob
  have hsl := rows_size R.rows
  have hroom := R.room
  have hmask := R.tab.mok.le
  obtain ⟨K, hKf, hK, hKb⟩ := R.tab.first (by omega) (thash P w k)
  unfold setAddHashed
  refine wpAny_holding ?_
  rw [show (100000 : Nat) = 99999 + 1 from rfl, setAddHashedIn_succ]
  refine wpAny_bind (wpAny_setState_of ho hd R.fits ?_)
  dsimp only
  refine wp_if_neg (by simp [byScan, Value.scannable]) ?_
  try refine wpAny_bind (wpAny_pure ?_)
  refine wpAny_bind ?_
  unfold setSearch
  refine look_new R hx hu hm hKf hK hKb ?_ 100000 0 none rfl (Nat.zero_le _) (by unfold SetTable.turns at hKf; omega)
  dsimp only
  refine wpAny_bind (wpAny_setState_of ho hd R.fits ?_)
  dsimp only
  obtain ⟨q1, q2, q3, q4⟩ := R.tab.put hK
  have q5 : (t.put (way t.mask (thash P w k) K)).1.mask = t.mask ∧ (t.put (way t.mask (thash P w k) K)).1.led = t.led ∧ (t.put (way t.mask (thash P w k) K)).1.plain = true := ⟨rfl, rfl, R.plain⟩
  generalize t.put (way t.mask (thash P w k) K) = pt at q1 q2 q4 q5 ⊢
  obtain ⟨t1, p⟩ := pt
  dsimp only at q1 q2 q4 q5 ⊢
  obtain ⟨m1, l1, p1⟩ := q5
  rw [← q2] at q3
  first
    | (refine wpAny_bind ?_; refine wp_if_pos p1 ?_; refine hashBy_tup hx ?_)
    | refine wp_if_pos p1 (wpAny_bind (hashBy_tup hx ?_))
  simp only [if_true]
  have hin : (SetTable.insertAt es p (thash P w k, Value.ref x)).toList = rowsOf P w (L.take p ++ (x, k) :: L.drop p) := by
    rw [SetTable.toList_insertAt, rows_put, R.rows]
  have pm := put_perm L p (x, k)
  generalize SetTable.insertAt es p (thash P w k, Value.ref x) = es1 at hin ⊢
  generalize L.take p ++ (x, k) :: L.drop p = L1 at pm hin
  have hlen : L1.length = L.length + 1 := pm.length_eq
  have hes : es1.size = L.length + 1 := by rw [rows_size hin, hlen]
  have nd1 : (L1.map (·.2)).Nodup := (pm.map (·.2)).nodup_iff.mpr (by rw [List.map_cons]; exact List.nodup_cons.mpr ⟨hm, R.nd⟩)
  rw [← hlen] at q1
  refine wpAny_bind (wpAny_storeSet_of ho hd ?_ (by rw [hes, sizeLine_eq]; omega))
  have sb : Heap.SameBut a s.heap (s.heap.update a (Obj.putSet es1 t1)) := Heap.SameBut.update ..
  have ho1 := store_at (es' := es1) (t' := t1) ho hd
  generalize s.heap.update a (Obj.putSet es1 t1) = h1 at sb ho1 ⊢
  have tup1 : ∀ p ∈ L1, IsT P w h1 p.2 p.1 := fun p hp => by
    rcases List.mem_cons.mp (pm.mem_iff.mp hp) with e | hp
    · rw [e]; exact isT_same hx ho hd sb
    · exact isT_same (R.tup p hp) ho hd sb
  have ld1 : w.params.followText "set-order" = true ∨ t1.led = true := by rw [l1]; exact R.led
  have full : t1.tooFull = decide ((L.length + 1) * 5 ≥ t.mask * 3) := by
    unfold SetTable.tooFull
    rw [q4, m1]
  by_cases hf : t1.tooFull = true
  · first
      | (refine wpAny_bind ?_; refine wp_if_pos (by simp [hf]) ?_)
      | (refine wp_if_pos (by simp [hf]) ?_; refine wpAny_bind ?_)
    rw [full, decide_eq_true_eq] at hf
    rw [hsl]
    have go : ∀ M, SetTable.sizeAbove (SetTable.grown (L.length + 1)) - 1 = M → MaskS M → (L.length + 1) * 5 < M * 3 →
        wpAny (model P w) A (setRelay a (SetTable.grown (L.length + 1))) (fun _ s' => wpAny (model P w) A (pure true) Q E s') E { s with heap := h1 } := fun M c1 c2 c3 => by
      refine lay_at (s := { s with heap := h1 }) ho1 ⟨hex.1, hex.2.1, hex.2.2⟩ rfl hin q1 (by rw [hlen, m1]; omega) nd1 tup1 p1 ld1 c1 c2 (by rw [hlen]; exact c3) ?_
      intro h2 L2 es2 ep2 t2 sb2 R2 pm2
      exact wpAny_pure (hQ true h2 L2 es2 ep2 t2 (sb.trans sb2) R2 (pm2.trans pm))
    rcases R.tab.mok with e | e | e | e | e <;> rw [e] at hf hroom
    · rw [show L.length = 4 by omega] at go ⊢
      exact go 31 (by rw [size_20]) (.inr (.inl rfl)) (by omega)
    · rw [show L.length = 18 by omega] at go ⊢
      exact go 127 (by rw [size_76]) (.inr (.inr (.inl rfl))) (by omega)
    · rw [show L.length = 76 by omega] at go ⊢
      exact go 511 (by rw [grow_77]) (.inr (.inr (.inr (.inl rfl)))) (by omega)
    · rw [show L.length = 306 by omega] at go ⊢
      exact go 2047 (by rw [grow_307]) (.inr (.inr (.inr (.inr rfl)))) (by omega)
    · omega
  · first
      | refine wp_if_neg (by simp [hf]) ?_
      | (refine wpAny_bind ?_; refine wp_if_neg (by simp [hf]) ?_; refine wpAny_pure ?_)
    rw [full, decide_eq_true_eq] at hf
    exact wpAny_pure (hQ true h1 L1 es1 (ep + 1) t1 sb ⟨⟨_, ho1, ⟨hex.1, hex.2.1, hex.2.2⟩, rfl⟩, hin, q1, nd1, tup1, p1, ld1, by rw [hlen, m1]; omega⟩ pm)
end
end L2

/-! D10: set(xs) of up to 1,100 different tuples, and sorted of a set of pairs, as rules -/
namespace L2
open PySem PySem.Spec PyProof.Rows
section
variable {P : Program} {w : World} {A : Around} {E : Value → Shared → Prop} {s : Shared}
theorem SetB.keep {h h' : Heap} {a : Addr} {L : List (Addr × List Int)} {es : Array (Int × Value)} {ep : Nat} {t : SetTable} (R : SetB P w h a L es ep t) (ha : ∀ o, h.get? a = some o → h'.get? a = some o) (ht : ∀ p ∈ L, IsT P w h' p.2 p.1) : SetB P w h' a L es ep t := by
  obtain ⟨o, ho, r⟩ := R.ob
  exact ⟨⟨o, ha o ho, r⟩, R.rows, R.tab, R.nd, ht, R.plain, R.led, R.room⟩
/-- the empty set -/
abbrev setNil (w : World) : Obj := { cls := .type "set", dict := none, data := .set #[] 0 (.fresh 0 0 (!w.params.followText "set-order")) }
theorem setB_0 {h : Heap} {a : Addr} (ho : h.get? a = some (setNil w)) : SetB P w h a [] #[] 0 (.fresh 0 0 (!w.params.followText "set-order")) where
  ob := ⟨_, ho, ⟨rfl, rfl, rfl⟩, rfl⟩
  rows := rfl
  tab := ⟨List.Pairwise.nil, rfl, rfl, .inl rfl⟩
  nd := List.nodup_nil
  tup := fun p hp => (by cases hp)
  plain := rfl
  led := by
    show _ ∨ (!w.params.followText "set-order") = true
    cases w.params.followText "set-order"
    · exact .inr rfl
    · exact .inl rfl
  room := by
    show 0 * 5 < 7 * 3
    decide
/-- the loop of set.update over different tuples: behind i turns the first i are in -/
theorem loop_new {I : Addr} {fp wr : List Addr} {G : Array GenState → Array GenState → Prop} {Pv : Nat → Value → Prop} {St : Nat → Shared → Prop} {R : Result → Shared → Prop} (ks : List (Addr × List Int))
    (W : WalksS P w A.in1 I fp wr G ks.length Pv St) (S : Addr) (hSf : S ∉ fp) (hfew : ks.length ≤ 1200) (hnd : (ks.map (·.2)).Nodup) (hval : ∀ i v, Pv i v → ∃ p, ks[i]? = some p ∧ v = .ref p.1)
    (h0 : Heap) (hk : ∀ p ∈ ks, IsT P w h0 p.2 p.1) (hS0 : h0.get? S = none) (hw0 : ∀ b ∈ wr, h0.get? b = none) (hu : A.in1.units < cLine)
    (hR : ∀ s' L es ep t, SetB P w s'.heap S L es ep t → L.Perm ks → (∀ b o, h0.get? b = some o → s'.heap.get? b = some o) → s'.gens = s.gens → s'.drawn = s.drawn → s'.os = s.os → R (.ok (.ret .none)) s')
    (gen : ∀ g g', G g g' → g' = g) :
    ∀ (k i : Nat) (s1 : Shared), ks.length - i = k → i ≤ ks.length → St i s1 → (∀ b o, h0.get? b = some o → s1.heap.get? b = some o) → (∃ L es ep t, SetB P w s1.heap S L es ep t ∧ L.Perm (ks.take i)) →
      s1.gens = s.gens → s1.drawn = s.drawn → s1.os = s.os →
      codeAny (model P w) A (.builtin "set.update.loop" ⟨[.ref S, .ref I], []⟩) R s1 := by
  have hSw : S ∉ wr := fun h => hSf (W.sub _ h)
  have keepM : ∀ {s s' : Shared}, Moved wr G s s' → (∀ b o, h0.get? b = some o → s.heap.get? b = some o) → ∀ b o, h0.get? b = some o → s'.heap.get? b = some o := fun hm hkp b o e =>
    hm.heap b o (fun hb => by rw [hw0 b hb] at e; cases e) (hkp b o e)
  have at_ : ∀ {s1 s2 : Shared} {i : Nat} {L es ep t}, SetB P w s1.heap S L es ep t → L.Perm (ks.take i) → Moved wr G s1 s2 → (∀ b o, h0.get? b = some o → s2.heap.get? b = some o) → SetB P w s2.heap S L es ep t := fun hS pm hm hkp =>
    hS.keep (fun o e => hm.heap S o hSw e) fun p hp => isT_keep (hk p (List.mem_of_mem_take (pm.mem_iff.mp hp))) hkp
  intro k
  induction k with
  | zero =>
    intro i s1 hk' hi hst hkp ⟨L, es, ep, t, hS, pm⟩ g1 g2 g3
    obtain rfl : i = ks.length := by omega
    refine codeAny_builtin F.entry_set_update_loop ?_
    rw [Around.under_plainId F.plain_set_update_loop _]
    show wpAny _ A.in1 (pyNext (.ref I) >>= _) _ _ s1
    refine wpAny_bind (W.done s1 _ _ hst fun s' hm => ?_)
    have hkp' := keepM hm hkp
    exact wpAny_pure (hR s' L es ep t (at_ hS pm hm hkp') (by rw [List.take_length] at pm; exact pm) hkp' ((gen _ _ hm.gens).trans g1) (hm.drawn.trans g2) (hm.os.trans g3))
  | succ k ih =>
    intro i s1 hk' hi hst hkp ⟨L, es, ep, t, hS, pm⟩ g1 g2 g3
    have hlt : i < ks.length := by omega
    refine codeAny_builtin F.entry_set_update_loop ?_
    rw [Around.under_plainId F.plain_set_update_loop _]
    show wpAny _ A.in1 (pyNext (.ref I) >>= _) _ _ s1
    refine wpAny_bind (W.item i s1 _ _ hlt hst fun v s' hP hst' hm => ?_)
    obtain ⟨p, hp, rfl⟩ := hval i v hP
    have hkp' := keepM hm hkp
    have hS' := at_ hS pm hm hkp'
    have hx : IsT P w s'.heap p.2 p.1 := isT_keep (hk p (List.mem_of_getElem? hp)) hkp'
    have hnew : p.2 ∉ L.map (·.2) := fun hm2 => by
      have h2 : p.2 ∈ (ks.take i).map (·.2) := (pm.map (·.2)).mem_iff.mp hm2
      obtain ⟨j, hj, e⟩ := List.getElem_of_mem h2
      rw [List.getElem_map, List.getElem_take] at e
      rw [List.length_map, List.length_take] at hj
      have h3 := List.pairwise_iff_getElem.mp hnd j i (by rw [List.length_map]; omega) (by rw [List.length_map]; omega) (by omega)
      rw [List.getElem_map, List.getElem_map] at h3
      obtain ⟨_, e2⟩ := List.getElem?_eq_some_iff.mp hp
      rw [e2] at h3
      exact h3 e
    show wpAny _ A.in1 (holding [Value.ref p.1] (setAdd S (.ref p.1)) >>= _) _ _ s'
    refine wpAny_bind (wpAny_holding ?_)
    unfold setAdd
    refine wpAny_holding ?_
    refine wpAny_bind (wpAny_pyHash_tuple hu hx ?_)
    have hl : L.length ≤ i := by rw [pm.length_eq, List.length_take]; omega
    refine put_new (s := { s' with toks := s'.toks + (p.2.length + 1) }) hS' hx hu hnew (by omega) fun b h' L' es' ep' t' hsb hS2 pm2 => ?_
    have hkp2 : ∀ b o, h0.get? b = some o → h'.get? b = some o := fun b o e => (hsb.2 b (fun z => by rw [z, hS0] at e; cases e)).trans (hkp' b o e)
    have pm3 : L'.Perm (ks.take (i + 1)) := by
      rw [take_next hp]
      exact (pm2.trans (pm.cons p)).trans (List.perm_append_singleton p _).symm
    refine wpAny_pure ⟨plainId_quiet F.plain_set_update_loop _, ih (i + 1) _ (by omega) hlt (W.frame _ s' _ _ hst' (Nat.le_add_right _ _) fun b hb o e => ?_) hkp2 ⟨L', es', ep', t', hS2, pm3⟩ ((gen _ _ hm.gens).trans g1) (hm.drawn.trans g2) (hm.os.trans g3)⟩
    rw [hsb.2 b (fun h : b = S => hSf (by rw [← h]; exact hb))]
    exact e
/-- set(xs), if the loop of set.update does so -/
theorem call_set_loop {l : Addr} {items : Array Value} {Q : Value → Shared → Prop} {D : Shared → Prop} (hh : A.handled = none) (hl : s.heap.IsList l items)
    (loop : ∀ (A' : Around) (R : Result → Shared → Prop), A'.handled = none → A'.units ≤ A.units + 3 → (∀ s', D s' → R (.ok (.ret .none)) s') →
      codeAny (model P w) A' (.builtin "set.update.loop" ⟨[.ref s.heap.objs.size, .ref (s.heap.push (setNil w)).objs.size], []⟩) R { s with heap := (s.heap.push (setNil w)).push { cls := .type "list_iterator", data := .fields #[.ref l, .int 0 0] } })
    (h : ∀ s', D s' → Q (.ref s.heap.objs.size) s') :
    wpAny (model P w) A (call (.type "set") [.ref l]) Q E s := by
  obtain ⟨c, tl, hmro⟩ := F.called_set.mro
  have hmade := F.called_set.made
  have hsub := F.called_set.sub
  refine wpAny_call (codeAny_of_tree ?_)
  show wpAny _ _ (callAny (.type "set") _) _ _ _
  refine wpAny_pure ⟨Code.quiet_builtin _ (by decide +kernel), codeAny_builtin F.entry_type_call ?_⟩
  rw [Around.under_plain (weight_type_call_type "set" [.ref l] []) rfl]
  have h1 := F.called_set.notType
  have h2 := F.called_set.canCreate
  have hct := F.typeCall_set_1 (.ref l)
  repeat (any_goals (first | assumption | wp_step))
  refine codeAny_mono (code_set_led1 (.ref l) (E := E) (Q₁ := fun obj s₁ => obj = .ref s.heap.objs.size ∧ s₁ = { s with heap := s.heap.push (setNil w) }) ⟨rfl, rfl⟩) fun r s₁ hr => ?_
  cases r with
  | error e => exact hr
  | ok fl =>
    cases fl with
    | ret obj =>
      obtain ⟨rfl, rfl⟩ := hr
      have hS : (s.heap.push (setNil w)).get? s.heap.objs.size = some (setNil w) := Heap.get?_push_size _ rfl
      have hT : Shared.TypeIs { s with heap := s.heap.push (setNil w) } (.ref s.heap.objs.size) "set" := ⟨_, hS, rfl⟩
      have hli := F.called_set.init.lookup
      have hbi := F.called_set.init.bind (.ref s.heap.objs.size)
      repeat (any_goals (first | assumption | wp_step))
      refine codeAny_mono (codeAny_call_builtin (R := wants (fun r s₂ => r = .none ∧ D s₂) E) F.called_set.init.plain F.entry_set_init (check_set_init_1 hT ?_)) fun r₂ s₂ hr₂ => ?_
      · have hl1 : (s.heap.push (setNil w)).IsList l items := hl.push _
        obtain ⟨⟨ocls, odict, odata, oslots⟩, hol, hcl, nl, hdl⟩ := id hl1
        simp only at hcl hdl
        subst hcl; subst hdl
        have hsls := F.sub_list_set
        have hslf := F.sub_list_frozenset
        have hne : (Value.type "list" == Value.type "dict") = false := by decide
        unfold Builtin.«set.__init__» noKeywords Builtin.Frozenset.updateFrom
        generalize hPI : pyIter = PI
        wp_walk
        subst hPI
        refine wpAny_pyIter_list hl1 ?_
        refine wpAny_bind (wpAny_runValue ?_)
        refine loop _ _ (by simp [hh]) (by show A.units + 2 ≤ A.units + 3; omega) fun s' hD => ?_
        show wpAny _ _ _ _ _ _
        refine wpAny_pure ?_
        show wpAny _ _ (ret Value.none) _ _ _
        exact wpAny_pure ⟨rfl, hD⟩
      · cases r₂ with
        | error e => exact hr₂
        | ok fl₂ =>
          cases fl₂ with
          | ret r =>
            obtain ⟨rfl, hD⟩ := hr₂
            repeat (any_goals (first | assumption | wp_step))
            exact h _ hD
          | _ => exact hr₂.elim
    | _ => exact hr.elim
/-- set(xs), xs different tuples -/
theorem call_set_new {l : Addr} {items : Array Value} (ks : List (Addr × List Int)) {Q : Value → Shared → Prop} (hh : A.handled = none) (hl : s.heap.IsList l items) (hit : items.toList = ks.map fun p => Value.ref p.1)
    (hk : ∀ p ∈ ks, IsT P w s.heap p.2 p.1) (hfew : ks.length ≤ 1200) (hnd : (ks.map (·.2)).Nodup) (hu : A.units + 4 < cLine)
    (h : ∀ s' L es ep t, SetB P w s'.heap s.heap.objs.size L es ep t → L.Perm ks → (∀ b o, s.heap.get? b = some o → s'.heap.get? b = some o) → s'.gens = s.gens → s'.drawn = s.drawn → s'.os = s.os → Q (.ref s.heap.objs.size) s') :
    wpAny (model P w) A (call (.type "set") [.ref l]) Q E s := by
  refine call_set_loop (D := fun s' => ∃ L es ep t, SetB P w s'.heap s.heap.objs.size L es ep t ∧ L.Perm ks ∧ (∀ b o, s.heap.get? b = some o → s'.heap.get? b = some o) ∧ s'.gens = s.gens ∧ s'.drawn = s.drawn ∧ s'.os = s.os) hh hl (fun A' R hA hA2 hR => ?_) fun s' ⟨L, es, ep, t, h1, h2, h3, h4, h5, h6⟩ => h s' L es ep t h1 h2 h3 h4 h5 h6
  have hisz : items.size = ks.length := by
    have q := congrArg List.length hit
    rw [Array.length_toList, List.length_map] at q
    exact q
  have hlS : l < s.heap.objs.size := by
    obtain ⟨o, ho, _⟩ := hl
    exact Heap.lt_size ho
  have hsz := Heap.size_push (h := s.heap) (o := setNil w)
  have none_of : ∀ b, s.heap.objs.size ≤ b → s.heap.get? b = none := fun b hb => by
    cases q : s.heap.get? b with
    | none => rfl
    | some o => exact absurd (Nat.lt_of_lt_of_le (Heap.lt_size q) hb) (Nat.lt_irrefl _)
  have hval : ∀ (i : Nat) (v : Value), items[i]? = some v → ∃ p, ks[i]? = some p ∧ v = .ref p.1 := fun i v hv => by
    have q : items.toList[i]? = some v := by rw [Array.getElem?_toList]; exact hv
    rw [hit, List.getElem?_map] at q
    cases hq : ks[i]? with
    | none => rw [hq] at q; cases q
    | some p =>
      rw [hq] at q
      exact ⟨p, rfl, (Option.some.inj q).symm⟩
  have hneI : l ≠ (s.heap.push (setNil w)).objs.size := by
    rw [Heap.size_push]
    exact fun e => absurd (Nat.lt_succ_of_lt hlS) (by rw [e]; exact Nat.lt_irrefl _)
  have hSf : s.heap.objs.size ∉ [(s.heap.push (setNil w)).objs.size, l] := by
    rw [Heap.size_push]
    simp only [List.mem_cons, List.not_mem_nil, or_false, not_or]
    exact ⟨fun e => Nat.succ_ne_self _ e.symm, fun e => absurd hlS (by rw [e]; exact Nat.lt_irrefl _)⟩
  have W := (Walks.list (prog := P) (w := w) (A := A'.in1) (by simp [hA]) (s.heap.push (setNil w)).objs.size l hneI items).toS
  rw [hisz] at W
  refine loop_new (s := s) ks W s.heap.objs.size hSf hfew hnd hval s.heap hk (none_of _ (Nat.le_refl _)) (fun b hb => none_of b (by
      rw [List.mem_singleton.mp hb, Heap.size_push]
      exact Nat.le_succ _)) (by show A'.units + 1 < cLine; omega)
    (fun s' L es ep t a1 a2 a3 a4 a5 a6 => hR s' ⟨L, es, ep, t, a1, a2, a3, a4, a5, a6⟩) (fun _ _ e => e) (ks.length - 0) 0 _ rfl (Nat.zero_le _)
    ⟨⟨_, Heap.get?_push_size _ rfl, rfl, rfl⟩, ((hl.push _).push _)⟩ (fun b o e => Heap.get?_push_of_some _ (Heap.get?_push_of_some _ e)) ⟨[], #[], 0, _, setB_0 (Heap.get?_push_of_some _ (Heap.get?_push_size _ rfl)), List.Perm.refl _⟩ rfl rfl rfl
/-- a tuple of two ints is a pair -/
theorem pair_of {h : Heap} {b : Addr} {i j : Int} (x : IsT P w h [i, j] b) : Srt.IsPair h (.ref b) i j := by
  obtain ⟨o, items, n, ho, hc, hd, hi⟩ := x
  have e := ints_of_items hi
  generalize hL : items.toList = vs at e
  cases e with
  | cons _ t e2 =>
    cases e2 with
    | cons _ t2 e3 =>
      cases e3
      refine ⟨b, o, t, t2, n, rfl, ho, hc, ?_⟩
      have e4 : items = #[.int i t, .int j t2] := by
        apply Array.toList_inj.mp
        rw [hL]
      rw [hd, e4]
/-- sorted of a set of pairs -/
theorem sorted_setB {a : Addr} {L : List (Addr × List Int)} {es : Array (Int × Value)} {ep : Nat} {t : SetTable} {k : Value → Int × Int} {Q : Value → Shared → Prop} (R : SetB P w s.heap a L es ep t) (hh : A.handled = none) (hfew : L.length ≤ 1200)
    (hk : ∀ p ∈ L, p.2 = [(k (.ref p.1)).1, (k (.ref p.1)).2])
    (hQ : ∀ s' p (out : List Value) (c : Nat), (∀ b o, s.heap.get? b = some o → s'.heap.get? b = some o) → s'.gens = s.gens → s'.os = s.os → s.heap.objs.size ≤ p → s'.heap.get? p = some (seqObj "list" out.toArray c) →
      SrtO.Srtd (fun v u => SrtO.lexB (k v) (k u)) out → out.Perm (L.map fun q => Value.ref q.1) → Q (.ref p) s') :
    wpAny (model P w) A (call (.builtin "sorted") [.ref a]) Q E s := by
  obtain ⟨o, ho, hex, hd⟩ := R.ob
  have hsz := rows_size R.rows
  refine Calls.call_function_entry kind_sorted plain_sorted entry_sorted (args_sorted1 _) ?_
  unfold Builtin.«sorted»
  refine wpAny_bind (m := checkCount "sorted" 1 1 _) (wpAny_pure ?_)
  refine wpAny_bind (collect_set (A := A.in1) hh ⟨o, ho, hex.1, hd⟩ R.fits (by unfold scanBound; omega) R.tab.ris R.led fun s1 vs k1 hz g1 o1 pm => ?_)
  have hes : es.toList.map (·.2) = L.map fun q => Value.ref q.1 := by
    rw [R.rows]
    unfold rowsOf
    rw [List.map_map]
    rfl
  rw [hes] at pm
  have hvl : vs.length ≤ sizeLine := by rw [pm.length_eq, List.length_map, sizeLine_eq]; omega
  refine wpAny_bind (wpAny_newList ?_ hvl)
  have at1 : (s1.heap.push (seqObj "list" vs.toArray 0)).get? s1.heap.objs.size = some (seqObj "list" vs.toArray 0) := Heap.get?_push_size _ rfl
  have old2 : ∀ b u, s.heap.get? b = some u → (s1.heap.push (seqObj "list" vs.toArray 0)).get? b = some u := fun b u e => Heap.get?_push_of_some _ (k1 b u e)
  have hp : ∀ v ∈ vs, Srt.IsPair (s1.heap.push (seqObj "list" vs.toArray 0)) v (k v).1 (k v).2 := fun v hv => by
    obtain ⟨q, hq, e⟩ := List.mem_map.mp (pm.mem_iff.mp hv)
    subst e
    refine pair_of (P := P) (w := w) ?_
    rw [← hk q hq]
    exact isT_keep (R.tup q hq) old2
  refine wpAny_bind (wpAny_holding ?_)
  refine wpAny_call_entry PyProof.Rows.slot_list_sort ⟨_, at1, rfl⟩ PyProof.Rows.entry_list_sort ?_ (PyProof.Rows.args_list_sort _)
  refine SrtO.list_sort_ord (SrtO.swo_lex k) at1 hvl (fun h2 => ?_) fun out hs hb => ⟨_, rfl, ?_⟩
  · refine SrtO.pairs_sortableO (by omega) hp fun o e => ?_
    have e' : some o = some (seqObj "list" vs.toArray 0) := e.symm.trans at1
    cases e'
    intro c
    exact absurd (Value.type.inj c) (by decide)
  · obtain ⟨c, hc⟩ := PyProof.Rows.sortedHeap_at (vs := vs) (out := out.toArray) at1
    refine wpAny_pure ⟨_, rfl, hQ _ s1.heap.objs.size out c (fun b u e => ?_) g1 o1 hz hc hs (hb.perm.trans pm)⟩
    have e1 := k1 b u e
    have lt := Heap.lt_size e1
    show (PyProof.Rows.sortedHeap (s1.heap.push (seqObj "list" vs.toArray 0)) s1.heap.objs.size vs out.toArray).get? b = some u
    rw [PyProof.Rows.sortedHeap_old (Nat.ne_of_lt lt) (by rw [Heap.size_push]; exact Nat.lt_succ_of_lt lt)]
    exact old2 b u e
end
/-- the set at a, without the tuples themselves -/
structure SetB0 (P : Program) (w : World) (h : Heap) (a : Addr) (L : List (Addr × List Int)) : Prop where
  ex : ∃ (es : Array (Int × Value)) (ep : Nat) (t : SetTable), (∃ o, h.get? a = some o ∧ o.ExactSet ∧ o.data = .set es ep t) ∧ es.toList = rowsOf P w L ∧ Tb t L.length ∧ (L.map (·.2)).Nodup ∧ t.plain = true ∧
    (w.params.followText "set-order" = true ∨ t.led = true) ∧ L.length * 5 < t.mask * 3
def SetBO (P : Program) (w : World) (a : Addr) (L : List (Addr × List Int)) : HO := .ext fun h => SetB0 P w h a L
theorem setBO_ok {P : Program} {w : World} {H : Hp} {h : Heap} {a : Addr} {L : List (Addr × List Int)} {es : Array (Int × Value)} {ep : Nat} {t : SetTable} (R : SetB P w h a L es ep t) : ObjOk P w H h a (SetBO P w a L) := by
  obtain ⟨o, ho, r⟩ := id R.ob
  refine ⟨⟨es, ep, t, R.ob, R.rows, R.tab, R.nd, R.plain, R.led, R.room⟩, ⟨o, ho⟩, fun h1 h2 p k => ?_⟩
  have ⟨es', ep', t', ⟨o', ho', r'⟩, q'⟩ := SetB0.ex p
  exact ⟨es', ep', t', ⟨o', k o' ho', r'⟩, q'⟩
section
variable {X : Cx}
/-- set(xs), xs a list of at most 1,200 different tuples of ints -/
def rSetOfB (K : PySem.W.Frag) (P : Program) (w : World) : List V → Hp → VK → Prop := fun xs H Q => ∃ (l : Addr) (ks : List (Addr × List Int)), xs = [V.ref l] ∧ SqL K H l (ks.map fun p => V.ref p.1) ∧ (∀ p ∈ ks, SqT K H p.1 (p.2.map V.int)) ∧ ks.length ≤ 1200 ∧ (ks.map (·.2)).Nodup ∧
  ∀ a L, H a = none → L.Perm ks → Q (.ref a) (upd H a (SetBO P w a L))
theorem cr_setOfB (hc : X.calm = true) (hu : X.A.units + 64 < cLine) : CallR X (.type "set") (rSetOfB X.K X.prog X.w) := by
  intro pins s σ H xs us Q I r h
  obtain ⟨l, ks, rfl, hl, hk, hf, hnd, q⟩ := h
  rw [Vals.ref1 r]
  obtain ⟨its, rv, pl, hz⟩ := I.list hl
  have hn : H s.heap.objs.size = none := I.hok.fresh (Nat.le_refl _)
  refine call_set_new (P := X.prog) (w := X.w) ks (I.ok.hd hc) pl.isList (by simpa using refs_of_vals rv) (fun p hp => I.isT (hk p hp)) hf hnd (by omega) fun s' L es ep t R g k g1 g2 g3 => ?_
  have J : Inv X pins σ (upd H s.heap.objs.size (SetBO X.prog X.w s.heap.objs.size L)) { s with heap := s'.heap, toks := s'.toks } := I.laid (t' := s'.toks) k (Nat.le_refl _) (setBO_ok R)
  have e : s' = { s with heap := s'.heap, toks := s'.toks } := by
    cases s'
    cases s
    cases g1
    cases g2
    cases g3
    rfl
  rw [e]
  exact ⟨.ref s.heap.objs.size, _, J, rfl, q _ L hn g⟩
/-- sorted(set), the set of pairs -/
def rSortedB (K : PySem.W.Frag) (P : Program) (w : World) : List V → Hp → VK → Prop := fun vs H Q => ∃ (a : Addr) (L : List (Addr × List Int)) (k : V → Int × Int), vs = [V.ref a] ∧ H a = some (SetBO P w a L) ∧ (∀ p ∈ L, SqT K H p.1 (p.2.map V.int)) ∧ L.length ≤ 1200 ∧
  (∀ p ∈ L, p.2 = [(k (.ref p.1)).1, (k (.ref p.1)).2]) ∧
  ∀ ys p, SrtO.Srtd (ltP k) ys → ys.Perm (L.map fun q => V.ref q.1) → H p = none → Q (.ref p) (upd H p (.lst ys))
theorem cr_sortedB (hc : X.calm = true) : CallR X (.builtin "sorted") (rSortedB X.K X.prog X.w) := by
  intro pins s σ H vs us Q I r h
  obtain ⟨a, L, k, rfl, ha, hk, hf, hkk, q⟩ := h
  obtain ⟨es, ep, t, h1, h2, h3, h4, h5, h6, h7⟩ := (I.hok a _ ha).1.ex
  rw [Vals.ref1 r]
  have R : SetB X.prog X.w s.heap a L es ep t := ⟨h1, h2, h3, h4, fun p hp => I.isT (hk p hp), h5, h6, h7⟩
  refine sorted_setB (k := fun u => k (backV u)) R (I.ok.hd hc) hf (fun p hp => hkk p hp) fun s' p out c kp g o hp hg hs pm => ?_
  have h3 : ∀ u ∈ out, ∃ a, u = Value.ref a := fun u hu => by
    obtain ⟨q, _, e⟩ := List.mem_map.mp (pm.mem_iff.mp hu)
    exact ⟨q.1, e.symm⟩
  have pm2 : (out.map backV).Perm (L.map fun q => V.ref q.1) := by
    have z := pm.map backV
    rw [List.map_map] at z
    exact z
  have hlen : (out.map backV).length ≤ sizeLine := by rw [pm2.length_eq, List.length_map, sizeLine_eq]; omega
  have hn : H p = none := I.hok.fresh hp
  have J : Inv X pins σ (upd H p (.lst (out.map backV))) { s with heap := s'.heap, gens := s'.gens, drawn := s'.drawn, toks := s'.toks } :=
    I.call (ch := []) (Un.laid kp hp hn) (I.hok.laid kp hp ⟨hlen, out, c, vals_back h3, hg⟩) (by rw [g]; exact I.bare) (fun _ z => nomatch z)
  have e : s' = { s with heap := s'.heap, gens := s'.gens, drawn := s'.drawn, toks := s'.toks } := by
    cases s'
    cases s
    cases o
    rfl
  rw [e]
  exact ⟨.ref p, _, J, rfl, q _ p (SrtO.srtd_map hs) pm2 hn⟩
theorem cr_setOfBK (K : PySem.W.Frag) (P : Program) (w : World) (hc : X.calm = true) (hu : X.A.units + 64 < cLine) (h1 : X.K = K := by rfl) (h2 : X.prog = P := by rfl) (h3 : X.w = w := by rfl) : CallR X (.type "set") (rSetOfB K P w) := by
  subst h1 h2 h3
  exact cr_setOfB hc hu
theorem cr_sortedBK (K : PySem.W.Frag) (P : Program) (w : World) (hc : X.calm = true) (h1 : X.K = K := by rfl) (h2 : X.prog = P := by rfl) (h3 : X.w = w := by rfl) : CallR X (.builtin "sorted") (rSortedB K P w) := by
  subst h1 h2 h3
  exact cr_sortedB hc
end
end L2

namespace K02
open PySem PySem.Spec PyProof.Rows L2 TM TF
/-- a pair's two ints, by the heap -/
def kOf (H : Hp) : V → Int × Int
  | .ref t => match H t with
    | some (.tup [.int a, .int b]) => (a, b)
    | _ => (0, 0)
  | _ => (0, 0)
theorem kOf_at {H : Hp} {t : Addr} {a b : Int} (h : H t = some (.tup [.int a, .int b])) : kOf H (.ref t) = (a, b) := by
  simp only [kOf, h]
theorem kOf_pair {m : Nat} {ts : List Addr} {H : Hp} (hP : Pairs m ts H) {j : Nat} {t : Addr} (h : ts[j]? = some t) : kOf H (.ref t) = (((LO (digs 3 m) j : Nat) : Int), ((HI (digs 3 m) j : Nat) : Int)) := kOf_at (hP j t h)
theorem pr_hx {m : Nat} {ts : List Addr} {H : Hp} (hP : Pairs m ts H) : ∀ x ∈ ts.map V.ref, ∃ t, x = V.ref t ∧ H t = some (.tup [.int (kOf H x).1, .int (kOf H x).2]) := fun x hx => by
  obtain ⟨t, ht, rfl⟩ := List.mem_map.mp hx
  obtain ⟨j, hj⟩ := List.getElem?_of_mem ht
  refine ⟨t, rfl, ?_⟩
  rw [kOf_pair hP hj]
  exact hP j t hj
theorem pr_lt {m : Nat} {ts : List Addr} {H : Hp} (hP : Pairs m ts H) (hl : ts.length ≤ 2 ^ on (digs 3 m)) : ts.Pairwise fun a b => (kOf H (.ref a)).1 < (kOf H (.ref b)).1 := by
  refine List.pairwise_iff_getElem.mpr fun i j hi hj hij => ?_
  rw [kOf_pair hP (List.getElem?_eq_getElem hi), kOf_pair hP (List.getElem?_eq_getElem hj)]
  have := LO_lt (digs 3 m) i j hij (by omega)
  show ((LO (digs 3 m) i : Nat) : Int) < ((LO (digs 3 m) j : Nat) : Int)
  omega
theorem pr_srtd {m : Nat} {ts : List Addr} {H : Hp} (hP : Pairs m ts H) (hl : ts.length ≤ 2 ^ on (digs 3 m)) : SrtO.Srtd (ltP (kOf H)) (ts.map V.ref) := by
  unfold SrtO.Srtd
  rw [List.pairwise_map]
  refine (pr_lt hP hl).imp fun {a b} h => ?_
  refine SrtO.lexB_no.mpr ?_
  omega
def ksOf (H : Hp) (ts : List Addr) : List (Addr × List Int) := ts.map fun t => (t, [(kOf H (.ref t)).1, (kOf H (.ref t)).2])
theorem ksOf_refs (H : Hp) (ts : List Addr) : (ksOf H ts).map (fun p => V.ref p.1) = ts.map V.ref := by
  unfold ksOf
  rw [List.map_map]
  rfl
theorem ksOf_len (H : Hp) (ts : List Addr) : (ksOf H ts).length = ts.length := by
  unfold ksOf
  rw [List.length_map]
theorem ksOf_nd {m : Nat} {ts : List Addr} {H : Hp} (hP : Pairs m ts H) (hl : ts.length ≤ 2 ^ on (digs 3 m)) : ((ksOf H ts).map (·.2)).Nodup := by
  unfold ksOf
  rw [List.map_map]
  refine List.pairwise_map.mpr ((pr_lt hP hl).imp fun {a b} h e => ?_)
  have e2 := congrArg (fun l : List Int => l.headD 0) e
  have e3 : (kOf H (.ref a)).1 = (kOf H (.ref b)).1 := e2
  omega
theorem ksOf_mem {m : Nat} {ts : List Addr} {H : Hp} (hP : Pairs m ts H) {p : Addr × List Int} (hp : p ∈ ksOf H ts) : p.2 = [(kOf H (.ref p.1)).1, (kOf H (.ref p.1)).2] ∧ H p.1 = some (.tup (p.2.map V.int)) := by
  obtain ⟨t, ht, rfl⟩ := List.mem_map.mp hp
  obtain ⟨t', e, h⟩ := pr_hx hP (V.ref t) (List.mem_map.mpr ⟨t, ht, rfl⟩)
  cases e
  exact ⟨rfl, h⟩
theorem sort_one {α : Type} {lt : α → α → Bool} (O : SrtO.Swo lt) : ∀ {l m : List α}, SrtO.Srtd lt l → SrtO.Srtd lt m → l.Perm m → (∀ x ∈ l, ∀ y ∈ l, lt x y = false → lt y x = false → x = y) → l = m
  | [], m, _, _, h, _ => (List.Perm.eq_nil h.symm).symm
  | x :: l, [], _, _, h, _ => absurd h.length_eq (by simp)
  | x :: l, y :: m, hl, hm, h, ha => by
    have hy : y ∈ x :: l := h.mem_iff.mpr List.mem_cons_self
    have h1 : lt x y = false := by
      rcases List.mem_cons.mp (h.mem_iff.mp (List.mem_cons_self (a := x) (l := l))) with e | hx
      · rw [e]
        exact O.refl y
      · exact SrtO.srtd_head hm x hx
    have h2 : lt y x = false := by
      rcases List.mem_cons.mp hy with e | hy
      · rw [e]
        exact O.refl x
      · exact SrtO.srtd_head hl y hy
    have e : x = y := ha x List.mem_cons_self y hy h1 h2
    subst e
    rw [sort_one O (List.pairwise_cons.mp hl).2 (List.pairwise_cons.mp hm).2 h.cons_inv fun a ha' b hb => ha a (List.mem_cons_of_mem _ ha') b (List.mem_cons_of_mem _ hb)]
theorem pr_anti {m : Nat} {ts : List Addr} {H : Hp} (hP : Pairs m ts H) (hl : ts.length ≤ 2 ^ on (digs 3 m)) : ∀ x ∈ ts.map V.ref, ∀ y ∈ ts.map V.ref, ltP (kOf H) x y = false → ltP (kOf H) y x = false → x = y := by
  intro x hx y hy h1 h2
  have a := SrtO.lexB_no.mp h1
  have b := SrtO.lexB_no.mp h2
  obtain ⟨t, ht, rfl⟩ := List.mem_map.mp hx
  obtain ⟨u, hu, rfl⟩ := List.mem_map.mp hy
  obtain ⟨i, hi, rfl⟩ := List.getElem_of_mem ht
  obtain ⟨j, hj, rfl⟩ := List.getElem_of_mem hu
  have P := List.pairwise_iff_getElem.mp (pr_lt hP hl)
  rcases Nat.lt_trichotomy i j with c | c | c
  · have := P i j hi hj c
    omega
  · subst c
    rfl
  · have := P j i hj hi c
    omega
theorem prs_refl (l : List (Int × Int)) : PyData.eqv (.list (l.map fun p => prI p.1 p.2)) (.list (l.map fun p => prI p.1 p.2)) = true := SeqAt.eqv_refl _ (by simp only [PyData.canLay0]; exact prs_lay l)
theorem prL_refl (m k : Nat) : PyData.eqv (.list ((prL m k).map fun p => prI p.1 p.2)) (.list ((prL m k).map fun p => prI p.1 p.2)) = true := prs_refl _
theorem twice_repr {x : Nat} (h : x < 2 ^ 1000) : ∀ {D : PyData}, D = .list [.int (x : Int), .int (x : Int)] → D.showable = true ∧ D.hasDict = false ∧ D.depth ≤ 60 ∧ D.shown.length ≤ sizeLine := by
  rintro D rfl
  have lx : ((x : Nat) : Int).natAbs.log2 < 1920 := log_of h (by decide) (by decide)
  exact ints_repr (l := [(x : Int), (x : Int)]) (fun i hi => by
    have e : i = (x : Int) := by
      rcases List.mem_cons.mp hi with e | hi
      · exact e
      · exact List.mem_singleton.mp hi
    rw [e]
    exact lx) (by show 2 ≤ 200; decide)
theorem dp_twice {K : PySem.W.Frag} {H : Hp} {l : Addr} {x : Nat} (e : H l = some (.lst [vn x, vn x])) : Dp K H (.ref l) (.list [.int (x : Int), .int (x : Int)]) :=
  .lst (SqL.of e) (.cons (.int _) (.cons (.int _) .nil))
section
variable {P : Program} {w : World} {K : PySem.W.Frag} {mg : Str → Option Value} {base : Heap}
def sp_l_sums_right (K : PySem.W.Frag) : Sp := fun vs H Q _ => ∃ m : Nat, vs = [vn m] ∧ m < 2 ^ 600 ∧ ∀ H', Same H H' → Q (.bl true) H'
theorem ok_l_sums_right (T : Txt K mg) : GOk P w K mg base 7 T.f_l_sums_right T.fd_l_sums_right ["given"] (sp_l_sums_right K) := by
  have nd := sc_l_sums_right.nd
  refine gok T.F_l_sums_right sc_l_sums_right (fun vs H Q E h => ?_) (fun cdv A outer s H vs Q E hr hG h => ?_)
  · obtain ⟨m, rfl, _⟩ := h
    rfl
  · obtain ⟨m, rfl, hm, q⟩ := h
    refine ⟨_, (pss_cons (ps_set (i := 1) nd rfl (.inl rfl) pe_int)
      (pss_cons (ps_for PassesOwn.never rfl (pi_list (pe_call (ok_l_digits T) (hr.mono (by decide)) rfl T.g_l_digits T.F_l_digits.kp T.b_l_digits .nil pass0 (pa_cons (pv 0) (pa_cons pe_int pa_nil)))) (pg_name (i := 2) nd rfl (.inl rfl)) (pss_one (ps_set (i := 1) nd rfl (.inl rfl) (pe_op op_mulW (pv 1) (pe_ifExp (pt_cmpR op_eq (pv 2) pe_int (nomark _)) pe_int pe_int)))))
      (pss_cons (ps_if (pt_cmpR op_ne (pe_callB (call_rep hG hr.units) (by rfl) T.m_repr (by decide +kernel) (pa_cons (pe_lst (pa_cons (pe_call (ok_sum_count T) (hr.mono (by decide)) rfl T.g_sum_count T.F_sum_count.kp T.b_sum_count .nil pass0 (pa_cons (pv 0) pa_nil)) (pa_cons (pe_callK0 (ok_sum_count T) (hr.mono (by decide)) rfl T.g_sum_count T.F_sum_count.kp T.kb_sum_count pass0 (pk_cons (pv 0) pk_nil)) pa_nil))) pa_nil)) (pe_callB (call_rep hG hr.units) (by rfl) T.m_repr (by decide +kernel) (pa_cons (pe_lst (pa_cons (pv 1) (pa_cons (pv 1) pa_nil))) pa_nil)) (nomark _)) (pss_one (ps_ret pe_bl)) pss_nil)
      (pss_cons (ps_set (i := 3) nd rfl (.inl rfl) (pe_call (ok_l_pairs T) (hr.mono (by decide)) rfl T.g_l_pairs T.F_l_pairs.kp T.b_l_pairs .nil pass0 (pa_cons (pv 0) (pa_cons pe_int pa_nil))))
      (pss_cons (ps_forJ (fun _ _ z => z) rfl (hr.mono (by decide)) (pj_callK0 (ok_sum_pairs T) (hr.mono (by decide)) rfl T.g_sum_pairs T.F_sum_pairs.kp T.kb_sum_pairs (pk_cons (pv 0) pk_nil)) (pg_name (i := 4) nd rfl (.inl rfl)) (pss_cons (ps_if (pt_cmpR (op_neK K hr.units) (pv 4) (pe_ix (ix_listK K) (pv 3) pe_int (fun _ _ => rfl)) (nomark _)) (pss_one (ps_ret pe_bl)) pss_nil)
      (pss_one ps_break)))
      (pss_cons (ps_if (PW.pt (pw_or (pt_cmpR op_ne (pe_callB call_len_seq (by rfl) T.m_len PySem.boot_len (pa_cons (pv 3) pa_nil)) (pe_callB (call_min2 rfl) (by rfl) T.m_min (by decide +kernel) (pa_cons (pv 1) (pa_cons pe_int pa_nil))) (nomark _)) (pw_or (pt_cmpR (op_neK K hr.units) (pv 3) (pe_callB cr_sortedPO (by rfl) T.m_sorted (by decide +kernel) (pa_cons (pv 3) pa_nil)) (nomark _)) (pw_or1 (pt_cmpR op_ne (pe_callB call_len_seq (by rfl) T.m_len PySem.boot_len (pa_cons (pe_callB (cr_sortedBK K P w rfl) (by rfl) T.m_sorted (by decide +kernel) (pa_cons (pe_callTy (cr_setOfBK K P w rfl hr.units) (by rfl) T.m_set (by decide +kernel) (pa_cons (pv 3) pa_nil)) pa_nil)) pa_nil)) (pe_callB call_len_seq (by rfl) T.m_len PySem.boot_len (pa_cons (pv 3) pa_nil)) (nomark _)))))) (pss_one (ps_ret pe_bl)) pss_nil)
      (pss_cons (ps_set (i := 5) nd rfl (.inl rfl) pe_int)
      (pss_cons (ps_for PassesOwn.never rfl (pi_list (pe_revL (pe_call (ok_l_digits T) (hr.mono (by decide)) rfl T.g_l_digits T.F_l_digits.kp T.b_l_digits .nil pass0 (pa_cons (pv 0) (pa_cons pe_int pa_nil))))) (pg_name (i := 2) nd rfl (.inl rfl)) (pss_one (ps_set (i := 5) nd rfl (.inl rfl) (pe_op op_add (pe_op op_mulW pe_int (pv 5)) (pe_callTy call_int1 (by rfl) T.m_int (by decide +kernel) (pa_cons (pe_cmpR op_eq (pv 2) pe_int (nomark _)) pa_nil))))))
      (pss_cons (ps_if (pt_cmpR (op_neK K hr.units) (pe_ix (ix_listK K) (pv 3) pe_int (fun _ _ => rfl)) (pe_tup (pa_cons (pv 5) (pa_cons (pe_op op_sub (pv 0) (pv 5)) pa_nil))) (nomark _)) (pss_one (ps_ret pe_bl)) pss_nil)
      (pss_cons (ps_for PassesOwn.never rfl (pi_list (pv 3)) (pg_tup rfl (pgs_cons (pg_name (i := 6) nd rfl (.inl rfl)) (pgs_cons (pg_name (i := 7) nd rfl (.inl rfl)) pgs_nil))) (pss_one (ps_if (PW.pt (pw_or (pt_cmpR op_ne (pe_op op_add (pv 6) (pv 7)) (pv 0) (nomark _)) (pw_or (pt_cmpR (op_inK K) pe_int (pe_call (ok_l_digits T) (hr.mono (by decide)) rfl T.g_l_digits T.F_l_digits.kp T.b_l_digits .nil pass0 (pa_cons (pv 6) (pa_cons pe_int pa_nil))) rfl) (pw_or1 (pt_cmpR (op_inK K) pe_int (pe_call (ok_l_digits T) (hr.mono (by decide)) rfl T.g_l_digits T.F_l_digits.kp T.b_l_digits .nil pass0 (pa_cons (pv 7) (pa_cons pe_int pa_nil))) rfl))))) (pss_one (ps_ret pe_bl)) pss_nil)))
      (pss_one (ps_ret (pe_or (pe_cmpR op_gt (pv 0) pe_int (nomark _)) (pe_one (pe_cmpR (op_eqK K hr.units) (pv 3) (pe_slice (sl_listK K) (pe_call (ok_l_listed T) (hr.mono (by decide)) rfl T.g_l_listed T.F_l_listed.kp T.b_l_listed .nil pass0 (pa_cons (pv 0) pa_nil)) po_none (po_some pe_int)) (nomark _)))))))))))))))), ?_⟩
    have hlen := digs_len (r := 3) (by decide) 600 m hm
    have hon : on (digs 3 m) ≤ 600 := by
      rw [on_count]
      exact Nat.le_trans List.count_le_length hlen
    refine ⟨_, rfl, m, 3, rfl, pow_up hm (by decide), by decide, by decide, fun H1 l s1 hl el => ?_⟩
    refine ⟨l, rfl, ⟨_, SqL.of el⟩, ?_⟩
    refine for_list (K := K) (a := l) (xs := (digs 3 m).map vn) (fun i σ H' => H' = H1 ∧ ∃ y2, σ = [some (vn m), some (vn (2 ^ on ((digs 3 m).take i))), y2, none, none, none, none, none]) ⟨rfl, _, rfl⟩ (fun i σ H' _ h => by rw [h.1]; exact SqL.of el) ?_ ?_
    · rintro i x σ H' hx ⟨rfl, y2, rfl⟩
      obtain ⟨d, hd, rfl⟩ : ∃ d, (digs 3 m)[i]? = some d ∧ x = vn d := by
        rw [List.getElem?_map] at hx
        cases z : (digs 3 m)[i]? with
        | none => rw [z] at hx; cases hx
        | some n => rw [z] at hx; exact ⟨n, rfl, (Option.some.inj hx).symm⟩
      have et : on ((digs 3 m).take (i + 1)) = on ((digs 3 m).take i) + (if d = 1 then 1 else 0) := by
        rw [on_count, on_count, List.take_add_one, hd, List.count_append]
        by_cases h : d = 1 <;> simp [h]
      refine ⟨_, rfl, ?_⟩
      have wb : (2 : Nat) ^ on ((digs 3 m).take i) < 2 ^ 1000 := Nat.pow_lt_pow_right (by decide) (by
        have h1 := List.count_le_length (a := 1) (l := (digs 3 m).take i)
        rw [List.length_take] at h1
        rw [on_count]
        omega)
      obtain ⟨z, hz⟩ : ∃ z, z = 2 ^ on ((digs 3 m).take i) := ⟨_, rfl⟩
      rw [← hz] at wb ⊢
      refine ⟨_, rfl, rfl, _, rfl, ite2 (fun c => ?_) (fun c => ?_)⟩
      · have ed : d = 1 := by
          have := V.int.inj (of_decide_eq_true c)
          omega
        rw [if_pos ed] at et
        refine ⟨_, _, rfl, rfl, wide_mul (a := 1000) (b := 2) (by rw [Int.natAbs_natCast]; exact wb) (by decide) (by decide) (by decide) (by decide), rfl, some (vn d), ?_⟩
        have e6 : V.int ((z : Int) * 2) = vn (2 ^ (on ((digs 3 m).take i) + 1)) := by
          unfold vn
          rw [Nat.pow_succ, ← hz]
          congr 1
        rw [et, ← e6]
        rfl
      · have ed : d ≠ 1 := fun e => c (by rw [e]; rfl)
        rw [if_neg ed] at et
        refine ⟨_, _, rfl, rfl, wide_mul (a := 1000) (b := 2) (by rw [Int.natAbs_natCast]; exact wb) (by decide) (by decide) (by decide) (by decide), rfl, some (vn d), ?_⟩
        have e6 : V.int ((z : Int) * 1) = vn (2 ^ (on ((digs 3 m).take i) + 0)) := by
          unfold vn
          rw [Nat.add_zero, ← hz, Int.mul_one]
        rw [et, ← e6]
        rfl
    · rintro σ H' ⟨rfl, y2, rfl⟩
      rw [List.length_map, List.take_length]
      have xb : 2 ^ on (digs 3 m) < 2 ^ 1000 := Nat.pow_lt_pow_right (by decide) (by omega)
      obtain ⟨g1, g2, g3, g4⟩ := twice_repr xb rfl
      have hm6 := hm
      refine ⟨_, rfl, m, rfl, hm6, fun H2 s2 => ⟨_, rfl, rfl, m, rfl, hm6, fun H3 s3 => ⟨(by show 2 ≤ sizeLine; decide), fun l4 hl4 => ⟨l4, _, rfl, dp_twice upd_same, g1, g2, g3, g4, ?_⟩⟩⟩⟩
      refine ⟨_, rfl, _, rfl, (by show 2 ≤ sizeLine; decide), fun l5 hl5 => ⟨l5, _, rfl, dp_twice upd_same, g1, g2, g3, g4, rfl, _, rfl, ite2 (fun c => (ne_no rfl c).elim) (fun _ => ?_)⟩⟩
      have sA : Same H (upd (upd H3 l4 (.lst [vn (2 ^ on (digs 3 m)), vn (2 ^ on (digs 3 m))])) l5 (.lst [vn (2 ^ on (digs 3 m)), vn (2 ^ on (digs 3 m))])) := ((s1.trans s2).trans s3).trans ((same_new hl4).trans (same_new hl5))
      generalize upd (upd H3 l4 (.lst [vn (2 ^ on (digs 3 m)), vn (2 ^ on (digs 3 m))])) l5 (.lst [vn (2 ^ on (digs 3 m)), vn (2 ^ on (digs 3 m))]) = H5 at sA ⊢
      refine ⟨_, rfl, m, 70, rfl, hm, by decide, by decide, fun H6 lf ts s6 ef hlf hP => ?_⟩
      have sB := sA.trans s6
      refine ⟨_, rfl, rfl, JSP m H6, ⟨m, rfl, hm, rfl⟩, ?_⟩
      refine ⟨fun i k σ H' => i = 0 ∧ H' = H6 ∧ σ = [some (vn m), some (vn (2 ^ on (digs 3 m))), y2, some (.ref lf), none, none, none, none], ⟨0, rfl, rfl, rfl⟩, ?_⟩
      rintro i k σ H' ⟨rfl, rfl, rfl⟩
      refine .inr ⟨⟨Nat.pow_pos (by decide), by decide, fun _ => rfl⟩, fun _ _ _ => False, fun _ _ _ z => z.elim, ?_⟩
      rintro x H7 ⟨t, rfl, et, hold⟩ htup
      have s7 : Same H' H7 := fun b o e => (hold b (by rw [e]; exact fun z => by cases z)).trans e
      have h0 : 0 < ts.length := by
        have : 0 < 2 ^ on (digs 3 m) := Nat.pow_pos (by decide)
        omega
      obtain ⟨t0, ht0⟩ : ∃ t0, ts[0]? = some t0 := ⟨_, List.getElem?_eq_getElem h0⟩
      have e0 := hP 0 t0 ht0
      have a0 : atI (ts.map V.ref) ((0 : Nat) : Int) = some (V.ref t0) := atI_nat (by rw [List.getElem?_map, ht0]; rfl)
      refine ⟨_, rfl, _, rfl, lf, ts.map V.ref, 0, V.ref t0, rfl, rfl, SqL.of (s7 _ _ ef), a0, ?_⟩
      refine ⟨_, _, dp_pair (SqT.of et), dp_pair (SqT.of (htup _ _ e0)), prI_shaped _ _, prI_shaped _ _, _, rfl, ?_⟩
      rw [prI_eqv, decide_eq_true ⟨rfl, rfl⟩]
      refine ite2 (fun c => nomatch c) (fun _ => ?_)
      have sC := sB.trans s7
      have ef7 := s7 _ _ ef
      have hP7 : Pairs m ts H7 := fun j u h => htup _ _ (hP j u h)
      clear hold htup
      have hll : ts.length ≤ 2 ^ on (digs 3 m) := by omega
      have hl70 : ts.length ≤ 70 := by omega
      have emin : V.int (((ts.map V.ref).length : Nat) : Int) = V.int (if (70 : Int) < ((2 ^ on (digs 3 m) : Nat) : Int) then 70 else ((2 ^ on (digs 3 m) : Nat) : Int)) := by
        rw [List.length_map, hlf]
        congr 1
        split <;> omega
      refine ⟨_, rfl, lf, ts.map V.ref, rfl, .inl (SqL.of ef7), _, rfl, _, _, rfl, rfl, _, rfl, ite2 (fun c => (ne_no emin c).elim) (fun _ => ?_)⟩
      refine ⟨_, rfl, _, rfl, lf, ts.map V.ref, kOf H7, rfl, SqL.of ef7, pr_hx hP7, fun ys p hys hst hp => ?_⟩
      obtain rfl : ys = ts.map V.ref := SrtO.stb_uniq (ltP_swo _) hys (pr_srtd hP7 hll) hst
      have s8 : Same H7 (upd H7 p (.lst (ts.map V.ref))) := same_new hp
      have e8 : upd H7 p (.lst (ts.map V.ref)) p = some (.lst (ts.map V.ref)) := upd_same
      generalize upd H7 p (.lst (ts.map V.ref)) = H8 at s8 e8 ⊢
      have ef8 := s8 _ _ ef7
      have hP8 : Pairs m ts H8 := fun j u h => s8 _ _ (hP7 j u h)
      refine ⟨_, _, dp_prL ef8 hP8, dp_prL e8 hP8, prs_shaped _, prs_shaped _, _, rfl, ?_⟩
      rw [prL_refl]
      refine ite2 (fun c => nomatch c) (fun _ => ?_)
      have sD := sC.trans s8
      clear s8 e8 hys hst
      refine ⟨_, rfl, lf, ksOf H8 ts, rfl, by rw [ksOf_refs]; exact SqL.of ef8, fun p hp => SqT.of (ksOf_mem hP8 hp).2, by rw [ksOf_len]; omega, ksOf_nd hP8 hll, fun a L ha pm => ?_⟩
      have s9 : Same H8 (upd H8 a (SetBO P w a L)) := same_new ha
      refine ⟨a, L, kOf H8, rfl, upd_same, fun p hp => SqT.of (s9 _ _ (ksOf_mem hP8 (pm.mem_iff.mp hp)).2), by rw [pm.length_eq, ksOf_len]; omega, fun p hp => (ksOf_mem hP8 (pm.mem_iff.mp hp)).1, fun ys b hys hpm hb => ?_⟩
      have hyl : ys.length = ts.length := by rw [hpm.length_eq, List.length_map, pm.length_eq, ksOf_len]
      generalize upd H8 a (SetBO P w a L) = H9 at s9 hb ⊢
      have s10 : Same H9 (upd H9 b (.lst ys)) := same_new hb
      refine ⟨b, ys, rfl, .inl (SqL.of upd_same), ?_⟩
      generalize upd H9 b (.lst ys) = H10 at s10 ⊢
      have ef10 := s10 _ _ (s9 _ _ ef8)
      have hP10 : Pairs m ts H10 := fun j u h => s10 _ _ (s9 _ _ (hP8 j u h))
      have sE := (sD.trans s9).trans s10
      refine ⟨_, rfl, lf, ts.map V.ref, rfl, .inl (SqL.of ef10), rfl, _, rfl, ite2 (fun c => (ne_no (by rw [hyl, List.length_map]) c).elim) (fun _ => ?_)⟩
      clear sA sB sC sD hP hP7 hP8 ef ef7 ef8
      refine ⟨_, rfl, m, 3, rfl, pow_up hm (by decide), by decide, by decide, fun H11 l2 s11 hl2 el2 => ?_⟩
      have ef11 := s11 _ _ ef10
      have hP11 : Pairs m ts H11 := fun j u h => s11 _ _ (hP10 j u h)
      have sF := sE.trans s11
      clear s11 ef10 hP10 sE
      refine ⟨l2, _, rfl, SqL.of el2, fun l3 hl3 => ?_⟩
      have s12 : Same H11 (upd H11 l3 (.lst ((digs 3 m).map vn).reverse)) := same_new hl3
      have e12 : upd H11 l3 (.lst ((digs 3 m).map vn).reverse) l3 = some (.lst ((digs 3 m).map vn).reverse) := upd_same
      generalize upd H11 l3 (.lst ((digs 3 m).map vn).reverse) = H12 at s12 e12 ⊢
      have ef12 := s12 _ _ ef11
      have hP12 : Pairs m ts H12 := fun j u h => s12 _ _ (hP11 j u h)
      have sG := sF.trans s12
      refine ⟨l3, rfl, ⟨_, SqL.of e12⟩, ?_⟩
      rw [← List.map_reverse] at e12
      clear s12 ef11 hP11 sF el2 hl2 hl3
      refine for_list (K := K) (a := l3) (xs := (digs 3 m).reverse.map vn) (fun i σ H' => H' = H12 ∧ ∃ y2, σ = [some (vn m), some (vn (2 ^ on (digs 3 m))), y2, some (.ref lf), some (.ref t), some (vn (rd 3 (((digs 3 m).reverse.take i).reverse.map tw))), none, none]) ⟨rfl, _, rfl⟩ (fun i σ H' _ h => by rw [h.1]; exact SqL.of e12) ?_ ?_
      · rintro i x σ H' hx ⟨rfl, y2, rfl⟩
        obtain ⟨d, hd, rfl⟩ : ∃ d, (digs 3 m).reverse[i]? = some d ∧ x = vn d := by
          rw [List.getElem?_map] at hx
          cases z : (digs 3 m).reverse[i]? with
          | none => rw [z] at hx; cases hx
          | some n => rw [z] at hx; exact ⟨n, rfl, (Option.some.inj hx).symm⟩
        have et : rd 3 (((digs 3 m).reverse.take (i + 1)).reverse.map tw) = tw d + 3 * rd 3 (((digs 3 m).reverse.take i).reverse.map tw) := by
          rw [List.take_add_one, hd, List.reverse_append]
          rfl
        have bd : rd 3 (((digs 3 m).reverse.take i).reverse.map tw) < 2 ^ 1200 := by
          refine Nat.lt_of_lt_of_le (rd_lt3 _ fun e he => ?_) (Nat.le_trans (Nat.pow_le_pow_right (by decide) (show _ ≤ 600 from ?_)) (by decide +kernel))
          · obtain ⟨e', _, rfl⟩ := List.mem_map.mp he
            unfold tw
            split <;> omega
          · rw [List.length_map, List.length_reverse, List.length_take, List.length_reverse]
            omega
        obtain ⟨z, hz⟩ : ∃ z, z = rd 3 (((digs 3 m).reverse.take i).reverse.map tw) := ⟨_, rfl⟩
        rw [← hz] at bd et ⊢
        refine ⟨_, rfl, _, _, rfl, rfl, wide_mul (a := 2) (b := 1200) (by decide) (by rw [Int.natAbs_natCast]; exact bd) (by decide) (by decide) (by decide), _, rfl, rfl, .inr ⟨_, rfl, _, _, rfl, rfl, rfl, some (vn d), ?_⟩⟩
        have e6 : V.int (3 * (z : Int) + (if decide (vn d = V.int 2) = true then 1 else 0)) = vn (rd 3 (((digs 3 m).reverse.take (i + 1)).reverse.map tw)) := by
          rw [et]
          unfold vn tw
          congr 1
          by_cases h : d = 2
          · subst h
            rw [if_pos rfl, if_pos (by decide)]
            omega
          · rw [if_neg h, if_neg (fun c => h (by have := V.int.inj (of_decide_eq_true c); omega))]
            omega
        rw [← e6]
        rfl
      · rintro σ H13 ⟨rfl, y2, rfl⟩
        rw [List.length_map, List.take_length, List.reverse_reverse, ← LO_zero]
        have et12 := hP12 0 t0 ht0
        have hs0 := LO_sum m 0
        refine ⟨_, rfl, lf, ts.map V.ref, 0, V.ref t0, rfl, rfl, SqL.of ef12, a0, _, rfl, _, rfl, _, rfl, _, _, rfl, rfl, (by show 2 ≤ sizeLine; decide), fun u hu => ?_⟩
        have s13 : Same H13 (upd H13 u (.tup [vn (LO (digs 3 m) 0), .int ((m : Int) - ((LO (digs 3 m) 0 : Nat) : Int))])) := same_new hu
        refine ⟨_, _, dp_pair (SqT.of (s13 _ _ et12)), dp_pair (SqT.of upd_same), prI_shaped _ _, prI_shaped _ _, _, rfl, ?_⟩
        rw [prI_eqv, decide_eq_true ⟨rfl, by omega⟩]
        refine ite2 (fun c => nomatch c) (fun _ => ?_)
        generalize upd H13 u (.tup [vn (LO (digs 3 m) 0), .int ((m : Int) - ((LO (digs 3 m) 0 : Nat) : Int))]) = H14 at s13 ⊢
        have ef14 := s13 _ _ ef12
        have hP14 : Pairs m ts H14 := fun j u h => s13 _ _ (hP12 j u h)
        have sH := sG.trans s13
        clear s13 ef12 hP12 sG e12 et12
        refine ⟨_, rfl, lf, rfl, ⟨_, SqL.of ef14⟩, ?_⟩
        refine for_list (K := K) (a := lf) (xs := ts.map V.ref) (fun i σ H' => Same H14 H' ∧ ∃ y6 y7, σ = [some (vn m), some (vn (2 ^ on (digs 3 m))), y2, some (.ref lf), some (.ref t), some (vn (LO (digs 3 m) 0)), y6, y7]) ⟨Same.refl _, _, _, rfl⟩ (fun i σ H' _ h => SqL.of (h.1 _ _ ef14)) ?_ ?_
        · rintro i x σ H15 hx ⟨s15, y6, y7, rfl⟩
          obtain ⟨u, hu, rfl⟩ : ∃ u, ts[i]? = some u ∧ x = V.ref u := by
            rw [List.getElem?_map] at hx
            cases z : ts[i]? with
            | none => rw [z] at hx; cases hx
            | some n => rw [z] at hx; exact ⟨n, rfl, (Option.some.inj hx).symm⟩
          have eu := s15 _ _ (hP14 i u hu)
          have hsi := LO_sum m i
          refine ⟨u, _, rfl, SqT.of eu, rfl, ?_⟩
          have wL : LO (digs 3 m) i < 2 ^ 1000 := by
            have := pow_up (b := 1000) hm (by decide)
            omega
          have wH : HI (digs 3 m) i < 2 ^ 1000 := by
            have := pow_up (b := 1000) hm (by decide)
            omega
          have esum : V.int (((LO (digs 3 m) i : Nat) : Int) + ((HI (digs 3 m) i : Nat) : Int)) = vn m := by
            unfold vn
            congr 1
            omega
          refine ⟨_, _, rfl, _, _, rfl, rfl, ?_⟩
          refine ⟨_, rfl, _, rfl, _, _, rfl, rfl, _, rfl, rfl, _, rfl, ite2 (fun c => (ne_no esum c).elim) (fun _ => ?_)⟩
          refine ⟨_, rfl, _, 3, rfl, wL, by decide, by decide, fun H16 l6 s16 hl6 e6 => ⟨_, _, rfl, .inl (SqL.of e6), rfl, flat_vn _, _, rfl, ite2 (fun c => (two_no (LO_plain _ _) c).elim) (fun _ => ?_)⟩⟩
          refine ⟨_, rfl, _, 3, rfl, wH, by decide, by decide, fun H17 l7 s17 hl7 e7 => ⟨_, _, rfl, .inl (SqL.of e7), rfl, flat_vn _, _, rfl, ite2 (fun c => (two_no (HI_plain _ _) c).elim) (fun _ => ?_)⟩⟩
          exact ⟨(s15.trans s16).trans s17, _, _, rfl⟩
        · rintro σ H15 ⟨s15, y6, y7, rfl⟩
          have sI := sH.trans s15
          refine ⟨_, rfl, _, _, rfl, rfl, _, rfl, ite2 (fun c => ?_) (fun c => ?_)⟩
          · exact q _ sI
          · have hm150 : m ≤ 150 := by
              apply Classical.byContradiction
              intro z
              exact c (decide_eq_true (by omega))
            have ho := on_few m (by omega)
            have hpow : 2 ^ on (digs 3 m) ≤ 2 ^ 6 := Nat.pow_le_pow_right (by decide) ho
            refine ⟨_, rfl, _, rfl, m, rfl, by omega, fun H16 l7 us s16 e7 hl7 hP7 => ?_⟩
            have ecut : cutV (us.map V.ref) none (some 70) = us.map V.ref := by
              unfold cutV
              rw [HT.sIx_none, show (70 : Int) = ((70 : Nat) : Int) from rfl, HT.sIx_nat, List.drop_zero, Nat.sub_zero, List.length_map]
              exact List.take_of_length_le (by rw [List.length_map]; omega)
            refine ⟨_, rfl, l7, _, rfl, SqL.of e7, fun p hp => ?_⟩
            rw [ecut]
            have s17 : Same H16 (upd H16 p (.lst (us.map V.ref))) := same_new hp
            have e17 : upd H16 p (.lst (us.map V.ref)) p = some (.lst (us.map V.ref)) := upd_same
            generalize upd H16 p (.lst (us.map V.ref)) = H17 at s17 e17 ⊢
            have el : ts.length = us.length := by omega
            refine ⟨_, _, dp_prL (m := m) (s17 _ _ (s16 _ _ (s15 _ _ ef14))) (fun j u h => s17 _ _ (s16 _ _ (s15 _ _ (hP14 j u h)))), dp_prL (m := m) e17 (fun j u h => s17 _ _ (hP7 j u h)), prs_shaped _, prs_shaped _, ?_⟩
            rw [el, prL_refl]
            exact q _ ((sI.trans s16).trans s17)
end
end K02

set_option maxHeartbeats 8000000
namespace K02
open PySem PySem.Spec PyProof.Rows L2 TM TF
section
variable {P : Program} {w : World} {K : PySem.W.Frag} {mg : Str → Option Value} {base : Heap}
theorem cut_mem {xs : List V} {lo hi : Option Int} {x : V} (h : x ∈ cutV xs lo hi) : x ∈ xs := List.mem_of_mem_drop (List.mem_of_mem_take h)
theorem cut_len (xs : List V) (lo hi : Option Int) : (cutV xs lo hi).length ≤ xs.length := cutV_length xs lo hi
theorem on_29524 : 2 ^ on (digs 3 29524) = 1024 := by decide +kernel
theorem on_3280 : 2 ^ on (digs 3 3280) = 256 := by decide +kernel
def sp_law (K : PySem.W.Frag) : Sp := fun vs H Q _ => ∃ (a : Addr) (ns : List Int), vs = [.ref a] ∧ SqL K H a (ns.map V.int) ∧ ns.length ≤ 63 ∧ ∀ H', Q (.bl true) H'
theorem ok_law (T : Txt K mg) : GOk P w K mg base 8 T.f_law T.fd_law ["script"] (sp_law K) := by
  have nd := sc_law.nd
  refine gok T.F_law sc_law (fun vs H Q E h => ?_) (fun cdv A outer s H vs Q E hr hG h => ?_)
  · obtain ⟨a, ns, rfl, _⟩ := h
    rfl
  · obtain ⟨a, ns, rfl, hS, hlen, q⟩ := h
    refine ⟨_, (pss_cons (ps_for PassesOwn.never rfl (pi_enum rfl T.m_enumerate (pa_cons (pe_slice (sl_listK K) (pe_op op_catS (pv 0) (pe_lst (pa_cons pe_int pa_nil))) po_none (po_some pe_int)) pa_nil)) (pg_tup rfl (pgs_cons (pg_name (i := 1) nd rfl (.inl rfl)) (pgs_cons (pg_name (i := 2) nd rfl (.inl rfl)) pgs_nil))) (pss_cons (ps_set (i := 3) nd rfl (.inl rfl) (pe_call (ok_l_stream T) (hr.mono (by decide)) rfl T.g_l_stream T.F_l_stream.kp T.b_l_stream .nil pass0 (pa_cons (pv 2) (pa_cons (pv 1) pa_nil))))
      (pss_cons (ps_for PassesOwn.never rfl (pi_range1 rfl T.m_range (pa_cons pe_int pa_nil)) (pg_name (i := 4) nd rfl (.inl rfl)) (pss_one (ps_if (PW.pt (pw_or (pt_not (pt_val (pe_callG (ok_l_sums_right T) hG (hr.mono (by decide)) rfl T.g_l_sums_right T.F_l_sums_right.kp T.b_l_sums_right .nil pass0 (pa_cons (pe_call (ok_l_number T) (hr.mono (by decide)) rfl T.g_l_number T.F_l_number.kp T.b_l_number .nil pass0 (pa_cons (pv 3) pa_nil)) pa_nil)))) (pw_or1 (pt_not (pt_val (pe_call (ok_l_own_right T) (hr.mono (by decide)) rfl T.g_l_own_right T.F_l_own_right.kp T.b_l_own_right .nil pass0 (pa_cons (pv 3) pa_nil))))))) (pss_one (ps_ret pe_bl)) pss_nil)))
      (pss_one (ps_if (pt_not (pt_val (pe_callG (ok_l_sums_right T) hG (hr.mono (by decide)) rfl T.g_l_sums_right T.F_l_sums_right.kp T.b_l_sums_right .nil pass0 (pa_cons (pe_call (ok_l_draw T) (hr.mono (by decide)) rfl T.g_l_draw T.F_l_draw.kp T.b_l_draw .nil pass0 (pa_cons (pv 3) (pa_cons pe_int pa_nil))) pa_nil)))) (pss_one (ps_ret pe_bl)) pss_nil)))))
      (pss_cons (ps_set (i := 5) nd rfl (.inl rfl) (pe_call (ok_l_pairs T) (hr.mono (by decide)) rfl T.g_l_pairs T.F_l_pairs.kp T.b_l_pairs .nil pass0 (pa_cons pe_int (pa_cons pe_int pa_nil))))
      (pss_cons (ps_if (PW.pt (pw_or (pt_cmpR op_ne (pe_callB call_len_seq (by rfl) T.m_len PySem.boot_len (pa_cons (pv 5) pa_nil)) pe_int (nomark _)) (pw_or (pt_cmpR (op_neK K hr.units) (pv 5) (pe_callB (cr_sortedBK K P w rfl) (by rfl) T.m_sorted (by decide +kernel) (pa_cons (pe_callTy (cr_setOfBK K P w rfl hr.units) (by rfl) T.m_set (by decide +kernel) (pa_cons (pv 5) pa_nil)) pa_nil)) (nomark _)) (pw_or1 (pt_cmpR (op_neK K hr.units) (pe_lc (own := [("one", 6), ("two", 7)]) (g := (gTup K 2 (gCons (gName 6) (gCons (gName 7) gNil)))) (tt := tYes) rfl nd (pi_list (pv 5)) (blkOk_by (own := [("one", 6), ("two", 7)]) (N := N_law) (sc := defScope s_law) (by decide +kernel)) (fun _ _ _ _ _ => pg_tup rfl (pgs_cons (pg_name (i := 6) nd rfl (.inl rfl)) (pgs_cons (pg_name (i := 7) nd rfl (.inl rfl)) pgs_nil))) (fun _ _ _ _ _ => pts_nil) (fun _ _ _ _ _ => (pe_op op_add (pv 6) (pv 7)))) (pe_op op_rep (pe_lst (pa_cons pe_int pa_nil)) pe_int) (nomark _)))))) (pss_one (ps_ret pe_bl)) pss_nil)
      (pss_cons (ps_if (pt_cmpR (op_neK K hr.units) (pe_lc (own := [("one", 6), ("two", 7)]) (g := (gTup K 2 (gCons (gName 6) (gCons (gName 7) gNil)))) (tt := _) rfl nd (pi_list (pv 5)) (blkOk_by (own := [("one", 6), ("two", 7)]) (N := N_law) (sc := defScope s_law) (by decide +kernel)) (fun _ _ _ _ _ => pg_tup rfl (pgs_cons (pg_name (i := 6) nd rfl (.inl rfl)) (pgs_cons (pg_name (i := 7) nd rfl (.inl rfl)) pgs_nil))) (fun _ _ _ _ _ => (pts_one (PW.pt (pw_or (pt_cmpR (op_inK K) pe_int (pe_call (ok_l_digits T) (hr.mono (by decide)) rfl T.g_l_digits T.F_l_digits.kp T.b_l_digits .nil pass0 (pa_cons (pv 6) (pa_cons pe_int pa_nil))) rfl) (pw_or1 (pt_cmpR (op_inK K) pe_int (pe_call (ok_l_digits T) (hr.mono (by decide)) rfl T.g_l_digits T.F_l_digits.kp T.b_l_digits .nil pass0 (pa_cons (pv 7) (pa_cons pe_int pa_nil))) rfl)))))) (fun _ _ _ _ _ => (pv 6))) (pe_lst pa_nil) (nomark _)) (pss_one (ps_ret pe_bl)) pss_nil)
      (pss_one (ps_ret (pe_and (pe_cmpR (op_eqK K hr.units) (pe_call (ok_l_pairs T) (hr.mono (by decide)) rfl T.g_l_pairs T.F_l_pairs.kp T.b_l_pairs .nil pass0 (pa_cons pe_int (pa_cons pe_int pa_nil))) (pe_call (ok_l_listed T) (hr.mono (by decide)) rfl T.g_l_listed T.F_l_listed.kp T.b_l_listed .nil pass0 (pa_cons pe_int pa_nil)) (nomark _)) (pe_one (pe_cmpR op_eq (pe_call (ok_sum_count T) (hr.mono (by decide)) rfl T.g_sum_count T.F_sum_count.kp T.b_sum_count .nil pass0 (pa_cons pe_int pa_nil)) pe_int (nomark _)))))))))), ?_⟩
    refine ⟨_, rfl, (by show 1 ≤ sizeLine; decide), fun l hl => ?_⟩
    refine ⟨a, l, _, _, rfl, rfl, (same_new hl).seq hS, SqL.of upd_same, ?_, fun pc hpc => ?_⟩
    · rw [List.length_map]
      show ns.length + 1 ≤ sizeLine
      exact small_ok (b := 64) (by omega)
    refine ⟨8, rfl, pc, _, rfl, SqL.of upd_same, fun pz hpz => ?_⟩
    have hxs : ∀ (i : Nat) (x : V), (cutV (ns.map V.int ++ [.int 0]) none (some 8))[i]? = some x → ∃ z, x = V.int z := by
      intro i x hx
      have := cut_mem (List.mem_of_getElem? hx)
      rcases List.mem_append.mp this with h | h
      · obtain ⟨z, _, rfl⟩ := List.mem_map.mp h
        exact ⟨z, rfl⟩
      · exact ⟨0, List.mem_singleton.mp h⟩
    have hxl : (cutV (ns.map V.int ++ [.int 0]) none (some 8)).length ≤ 64 := by
      refine Nat.le_trans (cut_len _ _ _) ?_
      rw [List.length_append, List.length_map, List.length_singleton]
      omega
    generalize cutV (ns.map V.int ++ [.int 0]) none (some 8) = xs at hxs hxl ⊢
    refine ⟨pz, xs, rfl, SqL.of upd_same, ?_⟩
    refine for_it walk_enum (fun i σ H' => ∃ y1 y2 y3 y4 : Option V, σ = [some (.ref a), y1, y2, y3, y4, none, none, none] ∧ H' pz = some (.lst xs)) ⟨none, none, none, none, rfl, upd_same⟩
      (fun i σ H' _ ⟨_, _, _, _, _, e⟩ => SqL.of e) ?_ ?_
    · rintro i x σ H1 H2 hi ⟨y1, y2, y3, y4, rfl, e1⟩ ⟨t, x1, x2, rfl, nt, rfl, f1, f2⟩
      obtain ⟨z, rfl⟩ := hxs i x2 f2
      obtain rfl : x1 = .int (i : Int) := (Option.some.inj f1).symm
      refine ⟨t, [.int (i : Int), .int z], rfl, SqT.of upd_same, rfl, _, [_], rfl, _, [], rfl, rfl, ?_⟩
      have e2 := same_new (o := .tup [.int (i : Int), .int z]) nt _ _ e1
      generalize upd H1 t (.tup [.int (i : Int), .int z]) = H2 at e2 ⊢
      refine ⟨_, rfl, _, rfl, z, i, rfl, by omega, fun H3 ps a0 c s3 n3 e3 hc => ?_⟩
      have hne : pz ≠ ps := ne_of_none e2 n3
      refine ⟨4, rfl, by decide, by decide, ?_⟩
      refine for_it (walk_range (lo := 0) (n := 4)) (fun j σ H' => ∃ (y4 : Option V) (a' b' : Nat), σ = [some (.ref a), some (.int (i : Int)), some (.int z), some (.ref ps), y4, none, none, none] ∧ b' ≤ j * 1000 ∧
          H' ps = some (Strm a' b' c) ∧ H' pz = some (.lst xs)) ⟨y4, a0, 0, rfl, by omega, e3, s3 _ _ e2⟩ (fun _ _ _ _ _ => trivial) ?_ ?_
      · rintro j x σ H4 H5 hj ⟨y4, a', b', rfl, hb, g1, g2⟩ ⟨rfl, rfl⟩
        refine ⟨_, rfl, ps, a', b', c, rfl, g1, by omega, hc, fun a2 b2 r hb2 hr2 => ?_⟩
        have k1 : upd H5 ps (Strm a2 b2 c) ps = some (Strm a2 b2 c) := upd_same
        have k2 : upd H5 ps (Strm a2 b2 c) pz = some (.lst xs) := by rw [upd_ne hne]; exact g2
        generalize upd H5 ps (Strm a2 b2 c) = H6 at k1 k2 ⊢
        refine ⟨r, rfl, pow_up hr2 (by decide), fun H7 s7 => ⟨true, rfl, iteF ?_⟩⟩
        refine ⟨_, rfl, ps, a2, b2, c, rfl, s7 _ _ k1, by omega, hc, fun H8 a3 b3 bt k3 hb3 => ⟨true, rfl, iteF ?_⟩⟩
        exact ⟨_, a3, b3, rfl, by omega, k3, bt _ _ hne (s7 _ _ k2)⟩
      · rintro σ H4 ⟨y4, a', b', rfl, hb, g1, g2⟩
        refine ⟨_, rfl, ps, 150, a', b', c, rfl, g1, by decide, by decide, by omega, hc, fun a2 r h2 => ⟨r, rfl, Nat.lt_trans h2 (by decide), fun H5 s5 => ⟨true, rfl, iteF ?_⟩⟩⟩
        refine ⟨_, _, _, _, rfl, s5 _ _ ?_⟩
        rw [upd_ne hne]
        exact g2
    · rintro σ H1 ⟨y1, y2, y3, y4, rfl, e1⟩
      refine ⟨29524, 1100, rfl, by decide, by decide, by decide, fun H2 lf ts s2 ef hlf hP => ?_⟩
      rw [on_29524] at hlf
      have hll : ts.length ≤ 2 ^ on (digs 3 29524) := by rw [on_29524]; omega
      have hl4 : ts.length = 1024 := by omega
      have elen : V.int (((ts.map V.ref).length : Nat) : Int) = V.int 1024 := by rw [List.length_map, hl4]; rfl
      refine ⟨_, rfl, lf, _, rfl, .inl (SqL.of ef), rfl, _, rfl, ite2 (fun c => (ne_no elen c).elim) (fun _ => ?_)⟩
      refine ⟨_, rfl, _, rfl, lf, ksOf H2 ts, rfl, by rw [ksOf_refs]; exact SqL.of ef, fun p hp => SqT.of (ksOf_mem hP hp).2, by rw [ksOf_len]; omega, ksOf_nd hP hll, fun aS L ha pm => ?_⟩
      have s3 : Same H2 (upd H2 aS (SetBO P w aS L)) := same_new ha
      refine ⟨aS, L, kOf H2, rfl, upd_same, fun p hp => SqT.of (s3 _ _ (ksOf_mem hP (pm.mem_iff.mp hp)).2), by rw [pm.length_eq, ksOf_len]; omega, fun p hp => (ksOf_mem hP (pm.mem_iff.mp hp)).1, fun ys b hys hpm hb => ?_⟩
      have pm2 : ys.Perm (ts.map V.ref) := by
        rw [← ksOf_refs H2 ts]
        exact hpm.trans (pm.map _)
      obtain rfl := sort_one (ltP_swo (kOf H2)) (pr_srtd hP hll) hys pm2.symm (pr_anti hP hll)
      generalize upd H2 aS (SetBO P w aS L) = H3 at s3 hb ⊢
      have s4 : Same H3 (upd H3 b (.lst (ts.map V.ref))) := same_new hb
      have e4 : upd H3 b (.lst (ts.map V.ref)) b = some (.lst (ts.map V.ref)) := upd_same
      generalize upd H3 b (.lst (ts.map V.ref)) = H4 at s4 e4 ⊢
      have ef4 := s4 _ _ (s3 _ _ ef)
      have hP4 : Pairs 29524 ts H4 := fun j u h => s4 _ _ (s3 _ _ (hP j u h))
      refine ⟨_, _, dp_prL ef4 hP4, dp_prL e4 hP4, prs_shaped _, prs_shaped _, _, rfl, ?_⟩
      rw [prL_refl]
      refine ite2 (fun c => nomatch c) (fun _ => ?_)
      clear s3 s4 hys hpm pm pm2 hb e4 ha hP ef e1
      refine ⟨_, rfl, lf, rfl, ⟨_, SqL.of ef4⟩, fun D hD => ?_⟩
      refine lc_list (K := K) (a := lf) (xs := ts.map V.ref) (fun i H' => H' D = some (.lst (List.replicate i (V.int 29524))) ∧ Same H4 H') ⟨upd_same, same_new hD⟩ (fun i H' _ h => SqL.of (h.2 _ _ ef4)) ?_ ?_
      · rintro i x H6 hx ⟨g1, g2⟩
        obtain ⟨u, hu, rfl⟩ : ∃ u, ts[i]? = some u ∧ x = V.ref u := by
          rw [List.getElem?_map] at hx
          cases z : ts[i]? with
          | none => rw [z] at hx; cases hx
          | some n => rw [z] at hx; exact ⟨n, rfl, (Option.some.inj hx).symm⟩
        have hi : i < 1024 := by
          have := (List.getElem?_eq_some_iff.mp hu).1
          omega
        have hsi := LO_sum 29524 i
        refine ⟨u, _, rfl, SqT.of (g2 _ _ (hP4 i u hu)), rfl, _, _, rfl, _, _, rfl, rfl, ?_⟩
        have hD2 : D ≠ lf := fun e => by rw [e, ef4] at hD; cases hD
        refine ⟨rfl, yesC ⟨_, rfl, _, rfl, _, _, rfl, rfl, _, g1, small_lt (b := 1024) (by rw [List.length_replicate]; omega), ?_, Same.mut g2 hD⟩⟩
        rw [upd_same, List.replicate_succ']
        have e5 : V.int (((LO (digs 3 29524) i : Nat) : Int) + ((HI (digs 3 29524) i : Nat) : Int)) = V.int 29524 := congrArg V.int (by omega)
        exact congrArg (fun z => some (HO.lst (List.replicate i (V.int 29524) ++ [z]))) e5
      · rintro H6 ⟨g1, g2⟩
        rw [List.length_map, hl4] at g1
        refine ⟨(by show 1 ≤ sizeLine; decide), fun l8 hl8 => ?_⟩
        refine ⟨l8, 1024, _, rfl, rfl, upd_same, by decide, by decide, (by show 1 * 1024 ≤ sizeLine; decide), fun p hp => ?_⟩
        have erep : (List.replicate (1024 : Int).toNat [V.int 29524]).flatten = (List.replicate 1024 (29524 : Int)).map V.int := by
          rw [List.flatten_replicate_singleton, List.map_replicate]
          rfl
        rw [erep]
        have s5 : Same H6 (upd H6 l8 (.lst [.int 29524])) := same_new hl8
        generalize upd H6 l8 (.lst [.int 29524]) = H7 at s5 hp ⊢
        have s6 : Same H7 (upd H7 p (.lst ((List.replicate 1024 (29524 : Int)).map V.int))) := same_new hp
        have g3 : SqL K (upd H7 p (.lst ((List.replicate 1024 (29524 : Int)).map V.int))) D ((List.replicate 1024 (29524 : Int)).map V.int) := SqL.of (by rw [List.map_replicate] at s6 ⊢; exact s6 _ _ (s5 _ _ g1))
        refine ⟨_, _, dp_ints g3, dp_ints (SqL.of upd_same), ints_shaped _, ints_shaped _, _, rfl, ?_⟩
        rw [ints_eqv]
        refine ite2 (fun c => nomatch c) (fun _ => ?_)
        clear g3
        generalize upd H7 p (.lst ((List.replicate 1024 (29524 : Int)).map V.int)) = H8 at s6 ⊢
        have sA := (g2.trans s5).trans s6
        have ef8 := sA _ _ ef4
        have hP8 : Pairs 29524 ts H8 := fun j u h => sA _ _ (hP4 j u h)
        clear s5 s6 sA g2 hP4 ef4
        refine ⟨_, rfl, lf, rfl, ⟨_, SqL.of ef8⟩, fun D2 hD2 => ?_⟩
        refine lc_list (K := K) (a := lf) (xs := ts.map V.ref) (fun i H' => H' D2 = some (.lst []) ∧ Same H8 H') ⟨upd_same, same_new hD2⟩ (fun i H' _ h => SqL.of (h.2 _ _ ef8)) ?_ ?_
        · rintro i x H9 hx ⟨f1, f2⟩
          obtain ⟨u, hu, rfl⟩ : ∃ u, ts[i]? = some u ∧ x = V.ref u := by
            rw [List.getElem?_map] at hx
            cases z : ts[i]? with
            | none => rw [z] at hx; cases hx
            | some n => rw [z] at hx; exact ⟨n, rfl, (Option.some.inj hx).symm⟩
          have hsi := LO_sum 29524 i
          have eu := f2 _ _ (hP8 i u hu)
          have pL := LO_plain (digs 3 29524) i
          have pH := HI_plain (digs 3 29524) i
          generalize LO (digs 3 29524) i = lo at hsi eu pL
          generalize HI (digs 3 29524) i = hi at hsi eu pH
          have bl : lo < 2 ^ 1000 := Nat.lt_of_le_of_lt (show lo ≤ 29524 by omega) (by decide +kernel)
          have bh : hi < 2 ^ 1000 := Nat.lt_of_le_of_lt (show hi ≤ 29524 by omega) (by decide +kernel)
          refine ⟨u, _, rfl, SqT.of eu, rfl, _, _, rfl, _, _, rfl, rfl, ?_⟩
          refine ⟨rfl, ?_⟩
          refine ⟨_, rfl, lo, 3, rfl, bl, by decide, by decide, fun H10 l6 s10 hl6 e6 => ⟨_, _, rfl, .inl (SqL.of e6), rfl, flat_vn _, _, rfl, ?_⟩⟩
          refine ite2 (fun c => (two_no pL c).elim) (fun _ => ?_)
          refine ⟨_, rfl, hi, 3, rfl, bh, by decide, by decide, fun H11 l7 s11 hl7 e7 => ⟨_, _, rfl, .inl (SqL.of e7), rfl, flat_vn _, _, rfl, ?_⟩⟩
          exact ite2 (fun c => (two_no pH c).elim) (fun _ => ⟨s11 _ _ (s10 _ _ f1), (f2.trans s10).trans s11⟩)
        · rintro H9 ⟨f1, f2⟩
          refine ⟨Nat.zero_le _, fun p9 hp9 => ?_⟩
          refine ⟨_, _, dp_ints (l := []) (SqL.of (same_new hp9 _ _ f1)), dp_ints (l := []) (SqL.of upd_same), ints_shaped _, ints_shaped _, _, rfl, ?_⟩
          rw [ints_eqv]
          refine ite2 (fun c => nomatch c) (fun _ => ?_)
          refine ⟨3280, 300, rfl, by decide, by decide, by decide, fun H10 l10 us s10 e10 hl10 hP10 => ?_⟩
          refine ⟨3280, rfl, by decide, fun H11 l11 vs s11 e11 hl11 hP11 => ?_⟩
          rw [on_3280] at hl10 hl11
          have el : us.length = vs.length := by omega
          refine ⟨_, _, dp_prL (m := 3280) (s11 _ _ e10) (fun j u h => s11 _ _ (hP10 j u h)), dp_prL e11 hP11, prs_shaped _, prs_shaped _, ?_⟩
          rw [el, prL_refl]
          refine ⟨true, rfl, ite2 (fun _ => ?_) (fun c => absurd rfl c)⟩
          refine ⟨3280, rfl, by decide, fun H12 s12 => ?_⟩
          rw [on_3280]
          refine ⟨rfl, ?_⟩
          rw [show decide (vn 256 = V.int 256) = true from decide_eq_true rfl]
          exact q _
end
end K02

/-! own head: the facts of a program's names, told by one run of its top -/
namespace HX
open PySem PySem.W PySem.Calls PyProof.Rows He L2
section
variable {K : Frag} {C D : Addr}
/-- the def that a property asks -/
def gt (K : Frag) (C : Addr) (x : PySem.Str) : Addr := match recIn K (ma K C x) "property" with
  | some (.ref g :: _) => g
  | _ => 0
def propB (K : Frag) (C : Addr) (x : PySem.Str) : Bool :=
  eqO (findIn K (.ref C) x) (some (some (.ref (ma K C x)))) && (eqO (specialIn K (.ref (ma K C x)) "__get__") (some (some (.builtin "property.__get__"))) &&
    (decide (takesIn K (.ref (ma K C x)) = some true) && (match recIn K (ma K C x) "property" with
      | some (.ref _ :: _) => true
      | _ => false)))
theorem propB_ok {x : PySem.Str} (h : propB K C x = true) : PropOf K C x (ma K C x) (gt K C x) := by
  obtain ⟨h1, h⟩ := ba h
  obtain ⟨h2, h⟩ := ba h
  obtain ⟨h3, h4⟩ := ba h
  refine ⟨eqO_ok h1, eqO_ok h2, of_decide_eq_true h3, ?_⟩
  unfold gt
  split at h4
  · rename_i g r e
    exact ⟨r, by rw [e]⟩
  · cases h4
/-- a class's constant -/
def constB (K : Frag) (C : Addr) (x : PySem.Str) (i : Int) : Bool := match findCls K (.ref C) (.type "type") x with
  | some (.val (.int j _)) => decide (j = i)
  | _ => false
theorem constB_ok {x : PySem.Str} {i : Int} (h : constB K C x i = true) : ∃ u, ClX.CVal K C (.type "type") x (.int i) u := by
  unfold constB at h
  split at h
  · rename_i j t e
    obtain rfl := of_decide_eq_true h
    exact ⟨_, e, ⟨t, rfl⟩⟩
  · cases h
def readB (K : Frag) (C : Addr) : Bool := readsIn K C (.type "type") && eqO (specialIn K (.ref C) "__getattribute__") (some (some (.builtin "type.__getattribute__")))
theorem readB_ok (h : readB K C = true) : ClX.CRead K C (.type "type") := by
  obtain ⟨h1, h2⟩ := ba h
  exact ⟨h1, eqO_ok h2⟩
/-- a class method -/
def cmB (K : Frag) (C : Addr) (m : PySem.Str) : Bool := He5.wrapB K C "classmethod" "classmethod.__get__" m && fnIn K (He5.wf K C "classmethod" m)
theorem cmB_ok {m : PySem.Str} (h : cmB K C m = true) : ClX.CMet K C (.type "type") m (ma K C m) (He5.wf K C "classmethod" m) := by
  obtain ⟨h1, h2⟩ := ba h
  exact He5.cmet_of h1 h2
/-- what isinstance asks of a class -/
def isiB (K : Frag) (C : Addr) : Bool := eqO (findIn K (.ref C) "__class__") (some (some (.builtin "object.__class__"))) && (eqO (specialIn K (.builtin "object.__class__") "__get__") (some (some (.builtin "getset_descriptor.__get__"))) &&
  (decide (takesIn K (.builtin "object.__class__") = some true) && decide (mroIn K C (.type "object") = some true)))
theorem isiB_ok (h : isiB K C = true) : findIn K (.ref C) "__class__" = some (some (.builtin "object.__class__")) ∧ specialIn K (.builtin "object.__class__") "__get__" = some (some (.builtin "getset_descriptor.__get__")) ∧
    takesIn K (.builtin "object.__class__") = some true ∧ mroIn K C (.type "object") = some true := by
  obtain ⟨h1, h⟩ := ba h
  obtain ⟨h2, h⟩ := ba h
  obtain ⟨h3, h4⟩ := ba h
  exact ⟨eqO_ok h1, eqO_ok h2, of_decide_eq_true h3, of_decide_eq_true h4⟩
/-- an own == -/
def eqB (K : Frag) (C : Addr) : Bool := eqO (findIn K (.ref C) "__eq__") (some (some (.ref (ma K C "__eq__")))) && (isFn K (.ref (ma K C "__eq__")) && eqO (findIn K (.ref C) "__ne__") (some (some (.builtin "object.__ne__"))))
theorem eqB_ok (h : eqB K C = true) : findIn K (.ref C) "__eq__" = some (some (.ref (ma K C "__eq__"))) ∧ isFn K (.ref (ma K C "__eq__")) = true ∧ findIn K (.ref C) "__ne__" = some (some (.builtin "object.__ne__")) := by
  obtain ⟨h1, h⟩ := ba h
  obtain ⟨h2, h3⟩ := ba h
  exact ⟨eqO_ok h1, h2, eqO_ok h3⟩
/-- C below D or not -/
def subB (K : Frag) (C D : Addr) (v : Bool) : Bool := decide (mroIn K C (.ref D) = some v) && (isClsIn K D && decide (typeIn K (.ref D) = some (.type "type")))
theorem subB_ok {v : Bool} (h : subB K C D v = true) : mroIn K C (.ref D) = some v ∧ isClsIn K D = true ∧ typeIn K (.ref D) = some (.type "type") := by
  obtain ⟨h1, h⟩ := ba h
  obtain ⟨h2, h3⟩ := ba h
  exact ⟨of_decide_eq_true h1, h2, of_decide_eq_true h3⟩
/-- a method that is there -/
def mthB (K : Frag) (C : Addr) (m : PySem.Str) : Bool := eqO (findIn K (.ref C) m) (some (some (.ref (ma K C m)))) && (isFn K (.ref (ma K C m)) && keepIn K (.ref (ma K C m)))
theorem mthB_ok {m : PySem.Str} (h : mthB K C m = true) : Meth K C m (ma K C m) := by
  obtain ⟨h1, h⟩ := ba h
  obtain ⟨h2, h3⟩ := ba h
  exact ⟨eqO_ok h1, h2, h3⟩
/-- a written tuple of texts -/
def strsB (K : Frag) (x : PySem.Str) (ss : List PySem.Str) : Bool := match K.lookup (ga K x) with
  | some ⟨.type c, _, .seq its _, _⟩ => decide (c = "tuple") && KTD.strsLook its.toList ss
  | _ => false
theorem strsB_ok {x : PySem.Str} {ss : List PySem.Str} (h : strsB K x ss = true) (hz : ss.length ≤ 1000) (H : Hp) : SqT K H (ga K x) (ss.map V.str) := by
  unfold strsB at h
  split at h
  · rename_i c od its n sl e
    obtain ⟨h1, h2⟩ := ba h
    obtain rfl := of_decide_eq_true h1
    exact tup_written e h2 hz H
  · cases h
end
/-- the interpreter's limit on digits stands -/
def digB (K : Frag) : Bool := match K.lookup cStatics with
  | some ⟨_, _, .dict es _, _⟩ => es.all (fun e => match e.key with
    | .str _ _ => true
    | _ => false) && (nsFind es "sys.int_max_str_digits").isNone
  | _ => false
theorem digB_ok {K : Frag} {h : Heap} (X : K.In h) (d : digB K = true) : h.NoDigits := by
  unfold digB at d
  split at d
  · rename_i oc od es ep sl e
    obtain ⟨h1, h2⟩ := ba d
    have hg := X _ _ e
    refine ⟨h.nsMap cStatics, Heap.Ns.of_isNs ?_, ?_⟩
    · unfold Heap.isNs
      rw [hg]
      exact h1
    · unfold Heap.nsMap
      rw [hg]
      exact Option.isNone_iff_eq_none.mp h2
  · cases d
/-! ### the hook -/
def obsB (fs : List (Frag → Bool)) (fn : List He5.DefA) (K : Frag) : AlD := ((fs.all fun t => t K) && fn.all (He5.DefA.ok K), fn.map fun t => He5.fnA K (t.at_ K))
def Told (fs : List (Frag → Bool)) (fn : List He5.DefA) (K : Frag) : Prop := obsB fs fn K = (true, fn.map He5.DefA.val)
/-! ### what is looked at is reckoned first, part by part -/
abbrev fN {α : Type} (n : Nat) (k : Nat → α) : α := HandSHeadRun.frNat n k
def fV {α : Type} (v : Value) (k : Value → α) : α := match v with
  | .ref a => fN a fun a => k (.ref a)
  | v => k v
theorem fN_eq {α : Type} (n : Nat) (k : Nat → α) : fN n k = k n := HandSHeadRun.frNat_eq n k
theorem fV_eq {α : Type} (v : Value) (k : Value → α) : fV v k = k v := by
  cases v <;> simp only [fV, fN_eq]
def fVs {α : Type} : List Value → (List Value → α) → α
  | [], k => k []
  | v :: r, k => fV v fun v => fVs r fun r => k (v :: r)
theorem fVs_eq {α : Type} : ∀ (l : List Value) (k : List Value → α), fVs l k = k l
  | [], _ => rfl
  | v :: r, k => by
    show fV v (fun v => fVs r fun r => k (v :: r)) = _
    rw [fV_eq, fVs_eq r]
def fNs {α : Type} : List Addr → (List Addr → α) → α
  | [], k => k []
  | a :: r, k => fN a fun a => fNs r fun r => k (a :: r)
theorem fNs_eq {α : Type} : ∀ (l : List Addr) (k : List Addr → α), fNs l k = k l
  | [], _ => rfl
  | a :: r, k => by
    show fN a (fun a => fNs r fun r => k (a :: r)) = _
    rw [show fN a (fun a => fNs r fun r => k (a :: r)) = fNs r fun r => k (a :: r) from HandSHeadRun.frNat_eq _ _, fNs_eq r]
def fE {α : Type} (e : DictEntry) (k : DictEntry → α) : α := match e with
  | ⟨x, y, z⟩ => fV z fun z => k ⟨x, y, z⟩
theorem fE_eq {α : Type} (e : DictEntry) (k : DictEntry → α) : fE e k = k e := by
  cases e
  simp only [fE, fV_eq]
def fEs {α : Type} : List DictEntry → (List DictEntry → α) → α
  | [], k => k []
  | e :: r, k => fE e fun e => fEs r fun r => k (e :: r)
theorem fEs_eq {α : Type} : ∀ (l : List DictEntry) (k : List DictEntry → α), fEs l k = k l
  | [], _ => rfl
  | e :: r, k => by
    show fE e (fun e => fEs r fun r => k (e :: r)) = _
    rw [fE_eq, fEs_eq r]
def fD {α : Type} (d : Data) (k : Data → α) : α := match d with
  | .seq ⟨l⟩ n => fVs l fun l => k (.seq ⟨l⟩ n)
  | .dict ⟨l⟩ n => fEs l fun l => k (.dict ⟨l⟩ n)
  | .fields ⟨l⟩ => fVs l fun l => k (.fields ⟨l⟩)
  | .func ⟨a1, a2, a3, a4, a5, a6, a7, a8, a9, a10, a11, a12, a13, a14, a15⟩ => fV a8 fun a8 => fV a9 fun a9 => fV a13 fun a13 => fN a6 fun a6 => fN a15 fun a15 => k (.func ⟨a1, a2, a3, a4, a5, a6, a7, a8, a9, a10, a11, a12, a13, a14, a15⟩)
  | .cls ⟨a1, a2, a3, a4, a5, a6, a7, a8, a9, a10, a11⟩ => fVs a2 fun a2 => fVs a3 fun a3 => fN a4 fun a4 => k (.cls ⟨a1, a2, a3, a4, a5, a6, a7, a8, a9, a10, a11⟩)
  | d => k d
theorem fD_eq {α : Type} (d : Data) (k : Data → α) : fD d k = k d := by
  cases d with
  | seq its n => cases its; simp only [fD, fVs_eq]
  | dict es n => cases es; simp only [fD, fEs_eq]
  | fields vs => cases vs; simp only [fD, fVs_eq]
  | func f => cases f; simp only [fD, fV_eq, fN_eq]
  | cls c => cases c; simp only [fD, fVs_eq, fN_eq]
  | _ => simp only [fD]
def fO {α : Type} (o : Obj) (k : Obj → α) : α := match o with
  | ⟨c, some d, b, s⟩ => fV c fun c => fN d fun d => fD b fun b => k ⟨c, some d, b, s⟩
  | ⟨c, none, b, s⟩ => fV c fun c => fD b fun b => k ⟨c, none, b, s⟩
theorem fO_eq {α : Type} (o : Obj) (k : Obj → α) : fO o k = k o := by
  obtain ⟨c, d, b, s⟩ := o
  cases d <;> simp only [fO, fV_eq, fN_eq, fD_eq]
def fG {α : Type} (g : Addr → Option Obj) : List Addr → (Frag → α) → α
  | [], k => k []
  | a :: r, k => match g a with
    | some o => fO o fun o => fG g r fun K => k ((a, o) :: K)
    | none => fG g r k
theorem fG_eq {α : Type} (g : Addr → Option Obj) : ∀ (l : List Addr) (k : Frag → α), fG g l k = k (frG g l)
  | [], _ => rfl
  | a :: r, k => by
    unfold frG
    rw [List.filterMap_cons]
    unfold fG
    cases e : g a with
    | none => exact fG_eq g r k
    | some o =>
      show fO o (fun o => fG g r fun K => k ((a, o) :: K)) = _
      rw [fO_eq, fG_eq g r]
      rfl
/-- what an object names: a table's values, a def's code and defaults, a class's table and line, a property's defs -/
def refX (o : Obj) : List Addr := match o.data with
  | .dict es _ => es.toList.flatMap fun e => refV e.val
  | .func fd => refV fd.code ++ (refV fd.defaults ++ refV fd.kwdefaults)
  | .cls cd => cd.ns :: cd.mro.flatMap refV
  | .fields vs => (match o.cls with
    | .type c => (match decide (c = "code") with
      | true => []
      | false => vs.toList.flatMap refV)
    | _ => [])
  | _ => []
def seen (m a : Nat) : Bool := Nat.beq (Nat.land (Nat.shiftRight m a) 1) 1
def goX {α : Type} (g : Addr → Option Obj) : Nat → List Addr → Nat → (Frag → α) → α
  | 0, _, _, k => k []
  | n + 1, todo, m, k => match todo with
    | [] => k []
    | a :: r => match seen m a with
      | true => goX g n r m k
      | false => fN (Nat.lor m (Nat.shiftLeft 1 a)) fun m => match g a with
        | none => goX g n r m k
        | some o => fO o fun o => fNs (refX o) fun l => goX g n (l ++ r) m fun K => k ((a, o) :: K)
theorem goX_ex (g : Addr → Option Obj) : ∀ (n : Nat) (todo : List Addr) (m : Nat), ∃ as, ∀ (α : Type) (k : Frag → α), goX g n todo m k = k (frG g as)
  | 0, _, _ => ⟨[], fun _ _ => rfl⟩
  | n + 1, [], _ => ⟨[], fun _ _ => rfl⟩
  | n + 1, a :: r, m => by
    cases e : seen m a with
    | true =>
      obtain ⟨x, h⟩ := goX_ex g n r m
      refine ⟨x, fun α k => ?_⟩
      simp only [goX, e]
      exact h α k
    | false =>
      cases e2 : g a with
      | none =>
        obtain ⟨x, h⟩ := goX_ex g n r (Nat.lor m (Nat.shiftLeft 1 a))
        refine ⟨x, fun α k => ?_⟩
        simp only [goX, e, e2, fN_eq]
        exact h α k
      | some o =>
        obtain ⟨x, h⟩ := goX_ex g n (refX o ++ r) (Nat.lor m (Nat.shiftLeft 1 a))
        refine ⟨a :: x, fun α k => ?_⟩
        simp only [goX, e, e2, fN_eq, fO_eq, fNs_eq]
        rw [h]
        unfold frG
        rw [List.filterMap_cons, e2]
        rfl
def lookB (n : Nat) (fs : List (Frag → Bool)) (fn : List He5.DefA) (g : Addr → Option Obj) : AlD :=
  goX g n [mainGlobals] (Nat.shiftLeft 1 cStatics) fun K => fG g [cStatics] fun S => obsB fs fn (K ++ S)
theorem lookB_ex (n : Nat) (fs : List (Frag → Bool)) (fn : List He5.DefA) (g : Addr → Option Obj) : ∃ as, lookB n fs fn g = obsB fs fn (frG g as) := by
  obtain ⟨x, h⟩ := goX_ex g n [mainGlobals] (Nat.shiftLeft 1 cStatics)
  refine ⟨x ++ [cStatics], ?_⟩
  unfold lookB
  rw [h, fG_eq]
  unfold frG
  rw [List.filterMap_append]
def hookB (n : Nat) (fs : List (Frag → Bool)) (fn : List He5.DefA) : Hook where
  α := AlD
  obs := fun s => lookB n fs fn s.heap.get?
  val := fun _ => (true, fn.map He5.DefA.val)
  says := fun _ h => ∃ K : Frag, K.In h ∧ Told fs fn K
  of := fun _ s e => by
    obtain ⟨as, h⟩ := lookB_ex n fs fn s.heap.get?
    exact ⟨_, frG_in, h.symm.trans e⟩
  keeps := fun _ _ _ ⟨K, z, c⟩ k => ⟨K, Frag.In.keeps z k, c⟩
theorem lookB_eq {n : Nat} {fs : List (Frag → Bool)} {fn : List He5.DefA} {g : Addr → Option Obj} {s : Shared} (h : ∀ a, g a = s.heap.get? a) : lookB n fs fn g = (hookB n fs fn).obs s := by
  rw [show g = s.heap.get? from funext h] <;> rfl
section
variable {fs : List (Frag → Bool)} {fn : List He5.DefA} {K : Frag}
theorem Told.fact (c : Told fs fn K) (i : Nat) {t : Frag → Bool} (h : fs[i]? = some t := by rfl) : t K = true := by
  have e := congrArg (fun z : AlD => z.1) c
  have e1 := (ba (show ((fs.all fun t => t K) && fn.all (He5.DefA.ok K)) = true from e)).1
  exact List.all_eq_true.mp e1 t (List.mem_of_getElem? h)
theorem Told.fn_ (c : Told fs fn K) (i : Nat) {t : He5.DefA} (h : fn[i]? = some t := by rfl) : ∃ fd, FunD K t.name t.qual t.params t.body t.scope (t.dvs K) (t.kws K) (t.at_ K) fd := by
  have e := congrArg (fun z : AlD => z.1) c
  have e1 := (ba (show ((fs.all fun t => t K) && fn.all (He5.DefA.ok K)) = true from e)).2
  have e2 : (fn.map fun t => He5.fnA K (t.at_ K))[i]? = (fn.map He5.DefA.val)[i]? := congrArg (fun z : AlD => z.2[i]?) c
  rw [List.getElem?_map, List.getElem?_map, h] at e2
  exact He5.DefA.funD (Option.some.inj e2) (List.all_eq_true.mp e1 t (List.mem_of_getElem? h))
end
/-- the end of a law over such a head -/
theorem walk_told {l : OpenLaw} {n k : Nat} {q : Program} {loose : List PySem.Str} {XP : (PySem.Str → Option Value) → Heap → Prop} {YP : World → Heap → Prop} {d : DefRec} {x : PySem.Str}
    (hn : l.most = some n) (hn2 : n ≤ sizeLine) (hdf : d.params.defaults = []) (hr : Room k callerA)
    (F : ∀ (w : World) (mg : PySem.Str → Option Value) (fa : Addr) (h : Heap), YP w h → h.Ns mainGlobals mg → mg d.name = some (.ref fa) →
      ∃ (K : Frag) (fd : FuncData) (sp : Sp), K.In h ∧ (∀ (s : Shared) (u : Value), BindsTo s fd ⟨[u], []⟩ [(x, u)]) ∧
        (∀ (H : Hp) (a : Addr) (ns : List Int), ns.length ≤ n → Only H → SqL K H a (ns.map V.int) → sp [.ref a] H (fun v _ => v = .bl true) fun _ _ _ => False) ∧
        ∀ base : Heap, K.In base → base.Ns mainGlobals mg → TF.GOk l.prog w K mg base k fa fd [x] sp) :
    WalkO q loose XP YP l.row.toRowW d [] (fun f vs => PySem.call f vs) := by
  refine Att.attach_call hn hdf fun w s₀ s₁ mg mb fa o pm cd doc a vs ns G Y ho hd hcd hmg hobj hints hlen hg => ?_
  obtain ⟨K, fd, sp, KX, hb, hsp, hF⟩ := F w mg fa _ Y G.T.g hmg
  exact TF.law_callG KX G.T.g G.T.b G.T.builtins G.T.nolimit hg hobj hints (Nat.le_trans hlen hn2) hr hF hb fun H hO hS => hsp H a ns hlen hO hS
end HX

namespace K02
open PySem PySem.Spec PyProof.Rows L2 TM TF
/-- sum_pairs(m=..) -/
theorem gkb_sum_pairs {K : PySem.W.Frag} {f : Addr} {fd : FuncData} (F : FunD K "sum_pairs" "sum_pairs" (defArgs s_sum_pairs) (defBody s_sum_pairs) (defScope s_sum_pairs) [] [] f fd) : KB0 K fd ["m"] ["m"] (fun l => l) := by
  obtain ⟨oc, od, dV, kV, doc, pm, an, cdv, ct, osl, rfl, lk, hcd, hD, hK⟩ := F.ex
  rcases hD with ⟨_, rfl⟩ | ⟨e, _⟩
  · exact ⟨fun s ws _ hl => .of_eq (match ws, hl with | [_], _ => rfl), fun r => r⟩
  · exact absurd rfl e
def d_0 : He5.DefA := ⟨fun K => He.ga K "is_whole", "is_whole", "is_whole", defArgs s_is_whole, defBody s_is_whole, defScope s_is_whole, [], []⟩
def d_1 : He5.DefA := ⟨fun K => He.ga K "is_number", "is_number", "is_number", defArgs s_is_number, defBody s_is_number, defScope s_is_number, [], []⟩
def d_2 : He5.DefA := ⟨fun K => He.ga K "check_number", "check_number", "check_number", defArgs s_check_number, defBody s_check_number, defScope s_check_number, [], []⟩
def d_3 : He5.DefA := ⟨fun K => He.ga K "ternary_text", "ternary_text", "ternary_text", defArgs s_ternary_text, defBody s_ternary_text, defScope s_ternary_text, [], []⟩
def d_4 : He5.DefA := ⟨fun K => He.ga K "ternary_number", "ternary_number", "ternary_number", defArgs s_ternary_number, defBody s_ternary_number, defScope s_ternary_number, [], []⟩
def d_5 : He5.DefA := ⟨fun K => He.ga K "base_member", "base_member", "base_member", defArgs s_base_member, defBody s_base_member, defScope s_base_member, [], []⟩
def d_6 : He5.DefA := ⟨fun K => He.ga K "in_base", "in_base", "in_base", defArgs s_in_base, defBody s_in_base, defScope s_in_base, [], []⟩
def d_7 : He5.DefA := ⟨fun K => He.ga K "number_of_twos", "number_of_twos", "number_of_twos", defArgs s_number_of_twos, defBody s_number_of_twos, defScope s_number_of_twos, [], []⟩
def d_8 : He5.DefA := ⟨fun K => He.ga K "sum_count", "sum_count", "sum_count", defArgs s_sum_count, defBody s_sum_count, defScope s_sum_count, [], []⟩
def d_9 : He5.DefA := ⟨fun K => He.ga K "sum_pairs", "sum_pairs", "sum_pairs", defArgs s_sum_pairs, defBody s_sum_pairs, defScope s_sum_pairs, [], []⟩
def d_10 : He5.DefA := ⟨fun K => He.ga K "_law_mixed", "_law_mixed", "_law_mixed", defArgs s_l_mixed, defBody s_l_mixed, defScope s_l_mixed, [], []⟩
def d_11 : He5.DefA := ⟨fun K => He.ga K "_law_stream", "_law_stream", "_law_stream", defArgs s_l_stream, defBody s_l_stream, defScope s_l_stream, [], []⟩
def d_12 : He5.DefA := ⟨fun K => He.ga K "_law_draw", "_law_draw", "_law_draw", defArgs s_l_draw, defBody s_l_draw, defScope s_l_draw, [], []⟩
def d_13 : He5.DefA := ⟨fun K => He.ga K "_law_number", "_law_number", "_law_number", defArgs s_l_number, defBody s_l_number, defScope s_l_number, [], []⟩
def d_14 : He5.DefA := ⟨fun K => He.ga K "_law_digits", "_law_digits", "_law_digits", defArgs s_l_digits, defBody s_l_digits, defScope s_l_digits, [], []⟩
def d_15 : He5.DefA := ⟨fun K => He.ga K "_law_pairs", "_law_pairs", "_law_pairs", defArgs s_l_pairs, defBody s_l_pairs, defScope s_l_pairs, [], []⟩
def d_16 : He5.DefA := ⟨fun K => He.ga K "_law_listed", "_law_listed", "_law_listed", defArgs s_l_listed, defBody s_l_listed, defScope s_l_listed, [], []⟩
def d_17 : He5.DefA := ⟨fun K => He.ga K "_law_sums_right", "_law_sums_right", "_law_sums_right", defArgs s_l_sums_right, defBody s_l_sums_right, defScope s_l_sums_right, [], []⟩
def d_18 : He5.DefA := ⟨fun K => He.ga K "_law_own_right", "_law_own_right", "_law_own_right", defArgs s_l_own_right, defBody s_l_own_right, defScope s_l_own_right, [], []⟩
def d_19 : He5.DefA := ⟨fun K => He.ga K "law", "law", "law", defArgs s_law, defBody s_law, defScope s_law, [], []⟩
def fs_0 : List (PySem.W.Frag → Bool) := [fun K => (He.Fa.glo "is_whole").ok K,
  fun K => (He.Fa.glo "is_number").ok K,
  fun K => (He.Fa.glo "check_number").ok K,
  fun K => (He.Fa.glo "ternary_text").ok K,
  fun K => (He.Fa.glo "ternary_number").ok K,
  fun K => (He.Fa.glo "base_member").ok K,
  fun K => (He.Fa.glo "in_base").ok K,
  fun K => (He.Fa.glo "number_of_twos").ok K,
  fun K => (He.Fa.glo "sum_count").ok K,
  fun K => (He.Fa.glo "sum_pairs").ok K,
  fun K => (He.Fa.glo "_law_mixed").ok K,
  fun K => (He.Fa.glo "_law_stream").ok K,
  fun K => (He.Fa.glo "_law_draw").ok K,
  fun K => (He.Fa.glo "_law_number").ok K,
  fun K => (He.Fa.glo "_law_digits").ok K,
  fun K => (He.Fa.glo "_law_pairs").ok K,
  fun K => (He.Fa.glo "_law_listed").ok K,
  fun K => (He.Fa.glo "_law_sums_right").ok K,
  fun K => (He.Fa.glo "_law_own_right").ok K,
  fun K => (He.Fa.glo "law").ok K,
  fun K => (He.Fa.free "isinstance").ok K,
  fun K => (He.Fa.free "int").ok K,
  fun K => (He.Fa.free "bool").ok K,
  fun K => (He.Fa.free "divmod").ok K,
  fun K => (He.Fa.free "reversed").ok K]
def fs_1 : List (PySem.W.Frag → Bool) := [fun K => (He.Fa.free "len").ok K,
  fun K => (He.Fa.free "range").ok K,
  fun K => (He.Fa.free "max").ok K,
  fun K => (He.Fa.free "repr").ok K,
  fun K => (He.Fa.free "min").ok K,
  fun K => (He.Fa.free "sorted").ok K,
  fun K => (He.Fa.free "set").ok K,
  fun K => (He.Fa.free "enumerate").ok K,
  fun K => (He.Fa.glo "FOURS").ok K,
  fun K => HX.strsB K "FOURS" fours,
  fun K => (He.Fa.int "BLOCK_POWER" 43046721).ok K,
  fun K => (He.Fa.int "PIECE" 1024).ok K,
  fun K => (He.Fa.glo "law").ok K]
def fs_ : List (PySem.W.Frag → Bool) := fs_0 ++ (fs_1)
def dn_ : List He5.DefA := [d_0, d_1, d_2, d_3, d_4, d_5, d_6, d_7, d_8, d_9, d_10, d_11, d_12, d_13, d_14, d_15, d_16, d_17, d_18, d_19]
theorem facts {P : Program} {w : World} {K : PySem.W.Frag} {h : Heap} {mg : Str → Option Value} {fa : Addr} (X : K.In h) (G : h.Ns mainGlobals mg) (hfa : mg "law" = some (.ref fa)) (c : HX.Told fs_ dn_ K) :
    ∃ fd : FuncData, (∀ (s : Shared) (v : Value), BindsTo s fd ⟨[v], []⟩ [("script", v)]) ∧ ∀ base : Heap, K.In base → base.Ns mainGlobals mg → GOk P w K mg base 8 fa fd ["script"] (sp_law K) := by
  obtain ⟨fd0, G0⟩ := c.fn_ 0 (t := d_0) rfl
  have F0 : Fun K "is_whole" "is_whole" s_is_whole (He.ga K "is_whole") fd0 := He5.fun_of (st := s_is_whole) G0
  have b0 := F0.binds (ps := ["value"]) fun _ _ _ _ _ _ us hl => match us, hl with | [_], _ => rfl
  obtain ⟨fd1, G1⟩ := c.fn_ 1 (t := d_1) rfl
  have F1 : Fun K "is_number" "is_number" s_is_number (He.ga K "is_number") fd1 := He5.fun_of (st := s_is_number) G1
  have b1 := F1.binds (ps := ["value"]) fun _ _ _ _ _ _ us hl => match us, hl with | [_], _ => rfl
  obtain ⟨fd2, G2⟩ := c.fn_ 2 (t := d_2) rfl
  have F2 : Fun K "check_number" "check_number" s_check_number (He.ga K "check_number") fd2 := He5.fun_of (st := s_check_number) G2
  have b2 := F2.binds (ps := ["value"]) fun _ _ _ _ _ _ us hl => match us, hl with | [_], _ => rfl
  obtain ⟨fd3, G3⟩ := c.fn_ 3 (t := d_3) rfl
  have F3 : Fun K "ternary_text" "ternary_text" s_ternary_text (He.ga K "ternary_text") fd3 := He5.fun_of (st := s_ternary_text) G3
  have b3 := F3.binds (ps := ["number"]) fun _ _ _ _ _ _ us hl => match us, hl with | [_], _ => rfl
  obtain ⟨fd4, G4⟩ := c.fn_ 4 (t := d_4) rfl
  have F4 : Fun K "ternary_number" "ternary_number" s_ternary_number (He.ga K "ternary_number") fd4 := He5.fun_of (st := s_ternary_number) G4
  have b4 := F4.binds (ps := ["text"]) fun _ _ _ _ _ _ us hl => match us, hl with | [_], _ => rfl
  obtain ⟨fd5, G5⟩ := c.fn_ 5 (t := d_5) rfl
  have F5 : Fun K "base_member" "base_member" s_base_member (He.ga K "base_member") fd5 := He5.fun_of (st := s_base_member) G5
  have b5 := F5.binds (ps := ["number"]) fun _ _ _ _ _ _ us hl => match us, hl with | [_], _ => rfl
  obtain ⟨fd6, G6⟩ := c.fn_ 6 (t := d_6) rfl
  have F6 : Fun K "in_base" "in_base" s_in_base (He.ga K "in_base") fd6 := He5.fun_of (st := s_in_base) G6
  have b6 := F6.binds (ps := ["x"]) fun _ _ _ _ _ _ us hl => match us, hl with | [_], _ => rfl
  obtain ⟨fd7, G7⟩ := c.fn_ 7 (t := d_7) rfl
  have F7 : Fun K "number_of_twos" "number_of_twos" s_number_of_twos (He.ga K "number_of_twos") fd7 := He5.fun_of (st := s_number_of_twos) G7
  have b7 := F7.binds (ps := ["text"]) fun _ _ _ _ _ _ us hl => match us, hl with | [_], _ => rfl
  obtain ⟨fd8, G8⟩ := c.fn_ 8 (t := d_8) rfl
  have F8 : Fun K "sum_count" "sum_count" s_sum_count (He.ga K "sum_count") fd8 := He5.fun_of (st := s_sum_count) G8
  have b8 := F8.binds (ps := ["m"]) fun _ _ _ _ _ _ us hl => match us, hl with | [_], _ => rfl
  obtain ⟨fd9, G9⟩ := c.fn_ 9 (t := d_9) rfl
  have F9 : FunD K "sum_pairs" "sum_pairs" (defArgs s_sum_pairs) (defBody s_sum_pairs) (defScope s_sum_pairs) [] [] (He.ga K "sum_pairs") fd9 := G9
  have b9 := F9.bindsN (ps := ["m"]) fun _ _ _ _ _ _ us hl => match us, hl with | [_], _ => rfl
  obtain ⟨fd10, G10⟩ := c.fn_ 10 (t := d_10) rfl
  have F10 : Fun K "_law_mixed" "_law_mixed" s_l_mixed (He.ga K "_law_mixed") fd10 := He5.fun_of (st := s_l_mixed) G10
  have b10 := F10.binds (ps := ["number", "k"]) fun _ _ _ _ _ _ us hl => match us, hl with | [_, _], _ => rfl
  obtain ⟨fd11, G11⟩ := c.fn_ 11 (t := d_11) rfl
  have F11 : Fun K "_law_stream" "_law_stream" s_l_stream (He.ga K "_law_stream") fd11 := He5.fun_of (st := s_l_stream) G11
  have b11 := F11.binds (ps := ["item", "k"]) fun _ _ _ _ _ _ us hl => match us, hl with | [_, _], _ => rfl
  obtain ⟨fd12, G12⟩ := c.fn_ 12 (t := d_12) rfl
  have F12 : Fun K "_law_draw" "_law_draw" s_l_draw (He.ga K "_law_draw") fd12 := He5.fun_of (st := s_l_draw) G12
  have b12 := F12.binds (ps := ["stream", "top"]) fun _ _ _ _ _ _ us hl => match us, hl with | [_, _], _ => rfl
  obtain ⟨fd13, G13⟩ := c.fn_ 13 (t := d_13) rfl
  have F13 : Fun K "_law_number" "_law_number" s_l_number (He.ga K "_law_number") fd13 := He5.fun_of (st := s_l_number) G13
  have b13 := F13.binds (ps := ["stream"]) fun _ _ _ _ _ _ us hl => match us, hl with | [_], _ => rfl
  obtain ⟨fd14, G14⟩ := c.fn_ 14 (t := d_14) rfl
  have F14 : Fun K "_law_digits" "_law_digits" s_l_digits (He.ga K "_law_digits") fd14 := He5.fun_of (st := s_l_digits) G14
  have b14 := F14.binds (ps := ["given", "radix"]) fun _ _ _ _ _ _ us hl => match us, hl with | [_, _], _ => rfl
  obtain ⟨fd15, G15⟩ := c.fn_ 15 (t := d_15) rfl
  have F15 : Fun K "_law_pairs" "_law_pairs" s_l_pairs (He.ga K "_law_pairs") fd15 := He5.fun_of (st := s_l_pairs) G15
  have b15 := F15.binds (ps := ["given", "most"]) fun _ _ _ _ _ _ us hl => match us, hl with | [_, _], _ => rfl
  obtain ⟨fd16, G16⟩ := c.fn_ 16 (t := d_16) rfl
  have F16 : Fun K "_law_listed" "_law_listed" s_l_listed (He.ga K "_law_listed") fd16 := He5.fun_of (st := s_l_listed) G16
  have b16 := F16.binds (ps := ["given"]) fun _ _ _ _ _ _ us hl => match us, hl with | [_], _ => rfl
  obtain ⟨fd17, G17⟩ := c.fn_ 17 (t := d_17) rfl
  have F17 : Fun K "_law_sums_right" "_law_sums_right" s_l_sums_right (He.ga K "_law_sums_right") fd17 := He5.fun_of (st := s_l_sums_right) G17
  have b17 := F17.binds (ps := ["given"]) fun _ _ _ _ _ _ us hl => match us, hl with | [_], _ => rfl
  obtain ⟨fd18, G18⟩ := c.fn_ 18 (t := d_18) rfl
  have F18 : Fun K "_law_own_right" "_law_own_right" s_l_own_right (He.ga K "_law_own_right") fd18 := He5.fun_of (st := s_l_own_right) G18
  have b18 := F18.binds (ps := ["stream"]) fun _ _ _ _ _ _ us hl => match us, hl with | [_], _ => rfl
  obtain ⟨fd19, G19⟩ := c.fn_ 19 (t := d_19) rfl
  have F19 : Fun K "law" "law" s_law (He.ga K "law") fd19 := He5.fun_of (st := s_law) G19
  have b19 := F19.binds (ps := ["script"]) fun _ _ _ _ _ _ us hl => match us, hl with | [_], _ => rfl
  obtain ⟨t0, y0⟩ := He.int_ok X G (x := "BLOCK_POWER") (i := 43046721) (c.fact 35 rfl)
  obtain ⟨t1, y1⟩ := He.int_ok X G (x := "PIECE") (i := 1024) (c.fact 36 rfl)
  have e := hfa.symm.trans (He.glo_ok X G (x := "law") (c.fact 37 rfl))
  cases e
  have bl := FunD.bindsA (ps := ["script"]) G19 fun _ _ _ _ _ _ us hl => match us, hl with | [_], _ => rfl
  exact ⟨fd19, fun s v => bl s [v] rfl, fun base KB _ => ok_law ({ f_is_whole := _, fd_is_whole := _, F_is_whole := F0, b_is_whole := b0, g_is_whole := He.glo_ok X G (c.fact 0 rfl), f_is_number := _, fd_is_number := _, F_is_number := F1, b_is_number := b1, g_is_number := He.glo_ok X G (c.fact 1 rfl), f_check_number := _, fd_check_number := _, F_check_number := F2, b_check_number := b2, g_check_number := He.glo_ok X G (c.fact 2 rfl), f_ternary_text := _, fd_ternary_text := _, F_ternary_text := F3, b_ternary_text := b3, g_ternary_text := He.glo_ok X G (c.fact 3 rfl), f_ternary_number := _, fd_ternary_number := _, F_ternary_number := F4, b_ternary_number := b4, g_ternary_number := He.glo_ok X G (c.fact 4 rfl), f_base_member := _, fd_base_member := _, F_base_member := F5, b_base_member := b5, g_base_member := He.glo_ok X G (c.fact 5 rfl), f_in_base := _, fd_in_base := _, F_in_base := F6, b_in_base := b6, g_in_base := He.glo_ok X G (c.fact 6 rfl), f_number_of_twos := _, fd_number_of_twos := _, F_number_of_twos := F7, b_number_of_twos := b7, g_number_of_twos := He.glo_ok X G (c.fact 7 rfl), f_sum_count := _, fd_sum_count := _, F_sum_count := F8, b_sum_count := b8, g_sum_count := He.glo_ok X G (c.fact 8 rfl), kb_sum_count := kb_mk F8 fun _ _ _ _ _ _ us hl => match us, hl with | [_], _ => rfl, f_sum_pairs := _, fd_sum_pairs := _, F_sum_pairs := F9, b_sum_pairs := b9, g_sum_pairs := He.glo_ok X G (c.fact 9 rfl), kb_sum_pairs := gkb_sum_pairs F9, f_l_mixed := _, fd_l_mixed := _, F_l_mixed := F10, b_l_mixed := b10, g_l_mixed := He.glo_ok X G (c.fact 10 rfl), f_l_stream := _, fd_l_stream := _, F_l_stream := F11, b_l_stream := b11, g_l_stream := He.glo_ok X G (c.fact 11 rfl), f_l_draw := _, fd_l_draw := _, F_l_draw := F12, b_l_draw := b12, g_l_draw := He.glo_ok X G (c.fact 12 rfl), f_l_number := _, fd_l_number := _, F_l_number := F13, b_l_number := b13, g_l_number := He.glo_ok X G (c.fact 13 rfl), f_l_digits := _, fd_l_digits := _, F_l_digits := F14, b_l_digits := b14, g_l_digits := He.glo_ok X G (c.fact 14 rfl), f_l_pairs := _, fd_l_pairs := _, F_l_pairs := F15, b_l_pairs := b15, g_l_pairs := He.glo_ok X G (c.fact 15 rfl), f_l_listed := _, fd_l_listed := _, F_l_listed := F16, b_l_listed := b16, g_l_listed := He.glo_ok X G (c.fact 16 rfl), f_l_sums_right := _, fd_l_sums_right := _, F_l_sums_right := F17, b_l_sums_right := b17, g_l_sums_right := He.glo_ok X G (c.fact 17 rfl), f_l_own_right := _, fd_l_own_right := _, F_l_own_right := F18, b_l_own_right := b18, g_l_own_right := He.glo_ok X G (c.fact 18 rfl), f_law := _, fd_law := _, F_law := F19, b_law := b19, g_law := He.glo_ok X G (c.fact 19 rfl), m_isinstance := He.free_ok X G (c.fact 20 rfl), m_int := He.free_ok X G (c.fact 21 rfl), m_bool := He.free_ok X G (c.fact 22 rfl), m_divmod := He.free_ok X G (c.fact 23 rfl), m_reversed := He.free_ok X G (c.fact 24 rfl), m_len := He.free_ok X G (c.fact 25 rfl), m_range := He.free_ok X G (c.fact 26 rfl), m_max := He.free_ok X G (c.fact 27 rfl), m_repr := He.free_ok X G (c.fact 28 rfl), m_min := He.free_ok X G (c.fact 29 rfl), m_sorted := He.free_ok X G (c.fact 30 rfl), m_set := He.free_ok X G (c.fact 31 rfl), m_enumerate := He.free_ok X G (c.fact 32 rfl), a_FOURS := _, g_FOURS := He.glo_ok X G (c.fact 33 rfl), x_FOURS := HX.strsB_ok (c.fact 34 rfl) (by decide +kernel), t_BLOCK_POWER := t0, g_BLOCK_POWER := y0, t_PIECE := t1, g_PIECE := y1 } : Txt K mg)⟩
def nm_0 : List PySem.Str := ["SetError", "InvalidNumber", "is_whole", "is_number", "check_number", "BLOCK_POWER", "FOURS", "PIECE", "PIECE_POWER", "ternary_text", "ternary_number", "base_member", "in_base", "number_of_twos", "sum_count", "sum_pairs", "_law_mixed", "_law_stream", "_law_draw", "_law_number", "_law_digits", "_law_pairs", "_law_listed", "_law_sums_right", "_law_own_right"]
def nm_ : List PySem.Str := nm_0
abbrev hk_ : PySem.W.Hook := HX.hookB 4000 fs_ dn_
def ob_ (s : PySem.W.SharedT) : He.AlD := HX.lookB 4000 fs_ dn_ (HandSHeadRun.getT s)
theorem ob_eq (s : PySem.W.SharedT) : ob_ s = hk_.obs s.abs := HX.lookB_eq (HandSHeadRun.getT_eq s)
set_option maxHeartbeats 0 in
theorem run_ (w : World) : HandSHeadRun.RunEq (PySem.W.OpenLaw.row PySem.Challenge.rw_triplefree_k02_whole_ordered_sums) (PySem.W.view (PySem.W.OpenLaw.row PySem.Challenge.rw_triplefree_k02_whole_ordered_sums).prog [29]) hk_ ob_ 60000 nm_ w := by
  intro os
  kernel_rfl
end K02
open PySem PySem.W PySem.Calls PyProof.Rows
set_option maxHeartbeats 0 in
theorem PySem.Challenge.cw_triplefree_k02_whole_ordered_sums_holds : PySem.Challenge.rw_triplefree_k02_whole_ordered_sums.Holds := by
  w_on; o_law
  refine HandSHeadRun.head_any (r := PySem.W.OpenLaw.row PySem.Challenge.rw_triplefree_k02_whole_ordered_sums) (q := view (PySem.W.OpenLaw.row PySem.Challenge.rw_triplefree_k02_whole_ordered_sums).prog [29]) (H := K02.hk_) (ob := K02.ob_) (M := 60000) (loose := K02.nm_) (d := HandSHeadRun.topDef (PySem.W.OpenLaw.row PySem.Challenge.rw_triplefree_k02_whole_ordered_sums).prog 29) (kwd := []) K02.ob_eq
    (by kernel_rfl) (fun s => by kernel_rfl) K02.run_ (by kernel_rfl) (by kernel_rfl) (by kernel_rfl) (by rfl) (by first | assumption | decide +kernel) (by decide +kernel) ⟨rfl, rfl, rfl, rfl, rfl, by decide +kernel⟩ ?hw ?hc
  case hw => w_witness2
  case hc =>
    refine HX.walk_told (l := PySem.Challenge.rw_triplefree_k02_whole_ordered_sums) (n := 63) (k := 8) (x := "script") rfl (by decide) (by kernel_rfl) ⟨rfl, by decide, by decide⟩ ?F
    intro w mg fa h Y G hm0
    obtain ⟨K, KX, c⟩ := Y
    have hm : mg ("law" : PySem.Str) = some (.ref fa) := by
      have e : (HandSHeadRun.topDef (PySem.W.OpenLaw.row PySem.Challenge.rw_triplefree_k02_whole_ordered_sums).prog 29).name = ("law" : PySem.Str) := by kernel_rfl
      rw [← e]
      exact hm0
    obtain ⟨fd, hb, hF⟩ := K02.facts (P := (PySem.Challenge.rw_triplefree_k02_whole_ordered_sums).prog) (w := w) KX G hm c
    exact ⟨K, fd, K02.sp_law K, KX, hb, fun H a ns hl _ hS => ⟨a, ns, rfl, hS, hl, fun _ => rfl⟩, hF⟩

