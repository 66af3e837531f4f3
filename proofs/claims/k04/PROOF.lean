import PyProof.Rows.All
import Wide.All
import OpenK.AllK
import Wide.FinOn
import HandS.ForMost
import HandS.ForSpec
import HandS.Zip
import HandS.Rev
import HandS.RevRange
import HandS.ExcInit
import HandS.Deep
import HandS.IsInst
import HandS.Wide
import HandS.Style
import HandS.Ends
import HandS.EndBits
import HandS.ExcField
import HandS.Codes
import KE.KExcIs
import KE.KExcInit
import PyProof.FitsInt
import PySem.Challenge.RW_looporder_k04_walks_and_their_lengths
set_option Elab.async false
set_option linter.all false
set_option maxRecDepth 100000
set_option maxHeartbeats 4000000
section
set_option Elab.async false
set_option linter.all false
set_option maxRecDepth 100000
set_option maxHeartbeats 2000000
namespace VF
open PySem PySem.Spec PyProof.Rows L2
abbrev D := PyData
abbrev Fg := PySem.W.Frag

/-- an exception of the class at C, caught, its own dict at dd -/
def exH (a C : Addr) (dd : Option Addr) : HO := .ext fun h => ∃ (oe : Obj) (vs : Array Value), h.get? a = some oe ∧ Zc (.ref C) dd oe ∧ oe.data = .fields vs
/-- how an exception's data are written: its class, its field -/
abbrev dExc (c n : Str) (d : D) : D := .dict [(.tuple [.str c, .str n], d)]
/-- .. of a class without a field -/
abbrev dExn (c : Str) : D := .dict [(.tuple [.str c], .none)]
abbrev dRng (lo hi : Int) : D := .dict [(.int lo, .int hi)]
/-! ### what a value is worth, in a heap that stands still -/
mutual
inductive DA (K : Fg) (R : Hp) : V → D → Prop
  | non : DA K R .non .none
  | bl (b : Bool) : DA K R (.bl b) (.bool b)
  | int (i : Int) : DA K R (.int i) (.int i)
  | str (x : Str) : DA K R (.str x) (.str x)
  | lst {a : Addr} {xs : List V} {ds : List D} : SqL K R a xs → xs.length ≤ sizeLine → DAs K R xs ds → DA K R (.ref a) (.list ds)
  | tup {a : Addr} {xs : List V} {ds : List D} : SqT K R a xs → xs.length ≤ sizeLine → DAs K R xs ds → DA K R (.ref a) (.tuple ds)
  | dic {a : Addr} : R a = some (.dK []) → DA K R (.ref a) (.dict [])
  | rng {a : Addr} {lo hi : Int} : R a = some (.rng lo hi) → DA K R (.ref a) (dRng lo hi)
  | exc {a C dd : Addr} {c n : Str} {v : V} {d : D} : PySem.W.nsIn K mainGlobals c = some (some (.ref C)) → R a = some (exH a C (some dd)) → R dd = some (.xd [(n, v)]) → DA K R v d → DA K R (.ref a) (dExc c n d)
  | exn {a C : Addr} {c : Str} : PySem.W.nsIn K mainGlobals c = some (some (.ref C)) → R a = some (exH a C none) → DA K R (.ref a) (dExn c)
inductive DAs (K : Fg) (R : Hp) : List V → List D → Prop
  | nil : DAs K R [] []
  | cons {v : V} {vs : List V} {d : D} {ds : List D} : DA K R v d → DAs K R vs ds → DAs K R (v :: vs) (d :: ds)
end
theorem Same.sqt {K : Fg} {H H' : Hp} {a : Addr} {xs : List V} (e : Same H H') (h : SqT K H a xs) : SqT K H' a xs := by
  rcases h with (h | ⟨o, h⟩) | h
  · exact .inl (.inl (e _ _ h))
  · exact .inl (.inr ⟨o, e _ _ h⟩)
  · exact .inr h
section
variable {K : Fg} {R R' H H' : Hp}
mutual
theorem DA.mono (s : Same R R') : ∀ {v : V} {d : D}, DA K R v d → DA K R' v d
  | _, _, .non => .non
  | _, _, .bl b => .bl b
  | _, _, .int i => .int i
  | _, _, .str x => .str x
  | _, _, .lst h z a => .lst (s.seq h) z (DAs.mono s a)
  | _, _, .tup h z a => .tup (Same.sqt s h) z (DAs.mono s a)
  | _, _, .dic h => .dic (s _ _ h)
  | _, _, .rng h => .rng (s _ _ h)
  | _, _, .exc g h h2 a => .exc g (s _ _ h) (s _ _ h2) (DA.mono s a)
  | _, _, .exn g h => .exn g (s _ _ h)
theorem DAs.mono (s : Same R R') : ∀ {vs : List V} {ds : List D}, DAs K R vs ds → DAs K R' vs ds
  | _, _, .nil => .nil
  | _, _, .cons h t => .cons (DA.mono s h) (DAs.mono s t)
end
theorem DAs.length : ∀ {vs : List V} {ds : List D}, DAs K R vs ds → vs.length = ds.length
  | _, _, .nil => rfl
  | _, _, .cons _ t => by rw [List.length_cons, List.length_cons, DAs.length t]
theorem DAs.get : ∀ {vs : List V} {ds : List D} {i : Nat} {v : V}, DAs K R vs ds → vs[i]? = some v → ∃ d, ds[i]? = some d ∧ DA K R v d
  | _, _, _, _, .nil, e => by simp at e
  | _, _, 0, _, .cons h _, e => by simp at e; subst e; exact ⟨_, rfl, h⟩
  | _, _, i + 1, v, .cons _ t, e => by
    obtain ⟨d, h1, h2⟩ := DAs.get (i := i) (v := v) t (by simpa using e)
    exact ⟨d, by simpa using h1, h2⟩
theorem DAs.getD : ∀ {vs : List V} {ds : List D} {i : Nat} {d : D}, DAs K R vs ds → ds[i]? = some d → ∃ v, vs[i]? = some v ∧ DA K R v d
  | _, _, _, _, .nil, e => by simp at e
  | _, _, 0, _, .cons h _, e => by simp at e; subst e; exact ⟨_, rfl, h⟩
  | _, _, i + 1, d, .cons _ t, e => by
    obtain ⟨v, h1, h2⟩ := DAs.getD (i := i) (d := d) t (by simpa using e)
    exact ⟨v, by simpa using h1, h2⟩
theorem DAs.append : ∀ {vs ws : List V} {ds es : List D}, DAs K R vs ds → DAs K R ws es → DAs K R (vs ++ ws) (ds ++ es)
  | _, _, _, _, .nil, s => s
  | _, _, _, _, .cons h t, s => .cons h (DAs.append t s)
theorem DAs.take : ∀ {vs : List V} {ds : List D} (n : Nat), DAs K R vs ds → DAs K R (vs.take n) (ds.take n)
  | _, _, 0, _ => .nil
  | _, _, _ + 1, .nil => .nil
  | _, _, n + 1, .cons h t => .cons h (DAs.take n t)
theorem DAs.drop : ∀ {vs : List V} {ds : List D} (n : Nat), DAs K R vs ds → DAs K R (vs.drop n) (ds.drop n)
  | _, _, 0, s => s
  | _, _, _ + 1, .nil => .nil
  | _, _, n + 1, .cons _ t => DAs.drop n t
theorem DAs.reverse : ∀ {vs : List V} {ds : List D}, DAs K R vs ds → DAs K R vs.reverse ds.reverse
  | _, _, .nil => .nil
  | _, _, .cons h t => by rw [List.reverse_cons, List.reverse_cons]; exact (DAs.reverse t).append (.cons h .nil)
theorem DAs.dropLast {vs : List V} {ds : List D} (h : DAs K R vs ds) : DAs K R vs.dropLast ds.dropLast := by
  rw [List.dropLast_eq_take, List.dropLast_eq_take, h.length]; exact h.take _
theorem DAs.set : ∀ {vs : List V} {ds : List D} {v : V} {d : D} (i : Nat), DA K R v d → DAs K R vs ds → DAs K R (vs.set i v) (ds.set i d)
  | _, _, _, _, _, _, .nil => .nil
  | _, _, _, _, 0, q, .cons _ t => .cons q t
  | _, _, _, _, i + 1, q, .cons h t => .cons h (DAs.set i q t)
end

/-! ### scalars: they lean on no heap -/
def scal : D → Bool
  | .none => true
  | .bool _ => true
  | .int _ => true
  | .str _ => true
  | _ => false
theorem DA.scal {K : Fg} {R R' : Hp} {v : V} {d : D} (h : DA K R v d) (s : scal d = true) : DA K R' v d := by
  cases h with
  | non => exact .non
  | bl b => exact .bl b
  | int i => exact .int i
  | str x => exact .str x
  | lst => cases s
  | tup => cases s
  | dic => cases s
  | rng => cases s
  | exc => cases s
  | exn => cases s

/-! ### levels: how far a value's lists are one's own -/
/-- none: all of it; some n: n levels at least -/
abbrev Lv := Option Nat
def pd : Lv → Lv
  | none => none
  | some n => some (n - 1)
def lle : Lv → Lv → Prop
  | _, none => True
  | none, some _ => False
  | some a, some b => a ≤ b
theorem lle.pd : ∀ {a b : Lv}, lle a b → lle (pd a) (pd b)
  | _, none, _ => by cases ‹Lv› <;> trivial
  | none, some _, h => h.elim
  | some a, some b, h => Nat.sub_le_sub_right h 1
mutual
inductive Ow (K : Fg) (R H : Hp) : Lv → V → D → List Addr → Prop
  | fz {v : V} {d : D} : DA K R v d → Ow K R H (some 0) v d []
  | sc {m : Lv} {v : V} {d : D} : DA K R v d → scal d = true → Ow K R H m v d []
  | lst {m : Lv} {p : Addr} {vs : List V} {ds : List D} {w : List Addr} : H p = some (.lst vs) → R p = none → p ∉ w → vs.length ≤ sizeLine → Ows K R H (pd m) vs ds w → Ow K R H m (.ref p) (.list ds) (p :: w)
  | tup {m : Lv} {p : Addr} {vs : List V} {ds : List D} {w : List Addr} : H p = some (.tup vs) → R p = none → p ∉ w → vs.length ≤ sizeLine → Ows K R H (pd m) vs ds w → Ow K R H m (.ref p) (.tuple ds) (p :: w)
  | dic {m : Lv} {p : Addr} : H p = some (.dK []) → R p = none → Ow K R H m (.ref p) (.dict []) [p]
inductive Ows (K : Fg) (R H : Hp) : Lv → List V → List D → List Addr → Prop
  | nil {m : Lv} : Ows K R H m [] [] []
  | cons {m : Lv} {v : V} {vs : List V} {d : D} {ds : List D} {w u : List Addr} : Ow K R H m v d w → Ows K R H m vs ds u → (∀ p ∈ w, p ∉ u) → Ows K R H m (v :: vs) (d :: ds) (w ++ u)
end
section
variable {K : Fg} {R R' H H' : Hp}
mutual
theorem Ow.le : ∀ {m m' : Lv} {v : V} {d : D} {w : List Addr}, lle m' m → Ow K R H m v d w → Ow K R H m' v d w
  | some 0, m', _, _, _, l, .fz h => by
    cases m' with
    | none => exact l.elim
    | some n => obtain rfl : n = 0 := Nat.le_zero.mp l; exact .fz h
  | _, _, _, _, _, _, .sc h s => .sc h s
  | _, _, _, _, _, l, .lst a b c z t => .lst a b c z (Ows.le l.pd t)
  | _, _, _, _, _, l, .tup a b c z t => .tup a b c z (Ows.le l.pd t)
  | _, _, _, _, _, _, .dic a b => .dic a b
theorem Ows.le : ∀ {m m' : Lv} {vs : List V} {ds : List D} {w : List Addr}, lle m' m → Ows K R H m vs ds w → Ows K R H m' vs ds w
  | _, _, _, _, _, _, .nil => .nil
  | _, _, _, _, _, l, .cons h t n => .cons (Ow.le l h) (Ows.le l t) n
end
mutual
theorem Ow.out : ∀ {m : Lv} {v : V} {d : D} {w : List Addr}, Ow K R H m v d w → ∀ p ∈ w, R p = none ∧ H p ≠ none
  | _, _, _, _, .fz _, p, hp => nomatch hp
  | _, _, _, _, .sc _ _, p, hp => nomatch hp
  | _, _, _, _, .lst a b _ _ t, p, hp => by
    rcases List.mem_cons.mp hp with rfl | hp
    · exact ⟨b, by rw [a]; intro z; cases z⟩
    · exact Ows.out t p hp
  | _, _, _, _, .tup a b _ _ t, p, hp => by
    rcases List.mem_cons.mp hp with rfl | hp
    · exact ⟨b, by rw [a]; intro z; cases z⟩
    · exact Ows.out t p hp
  | _, _, _, _, .dic a b, p, hp => by
    rcases List.mem_cons.mp hp with rfl | hp
    · exact ⟨b, by rw [a]; intro z; cases z⟩
    · cases hp
theorem Ows.out : ∀ {m : Lv} {vs : List V} {ds : List D} {w : List Addr}, Ows K R H m vs ds w → ∀ p ∈ w, R p = none ∧ H p ≠ none
  | _, _, _, _, .nil, p, hp => nomatch hp
  | _, _, _, _, .cons h t _, p, hp => (List.mem_append.mp hp).elim (Ow.out h p) (Ows.out t p)
end
mutual
/-- what is one's own may be carried to another heap where it stands as it stood -/
theorem Ow.mv (s : Same R R') : ∀ {m : Lv} {v : V} {d : D} {w : List Addr}, Ow K R H m v d w → (∀ p ∈ w, H' p = H p ∧ R' p = none) → Ow K R' H' m v d w
  | _, _, _, _, .fz h, _ => .fz (h.mono s)
  | _, _, _, _, .sc h z, _ => .sc (h.mono s) z
  | _, _, _, _, .lst a b c z t, k => .lst ((k _ List.mem_cons_self).1.trans a) (k _ List.mem_cons_self).2 c z (Ows.mv s t fun p hp => k p (List.mem_cons_of_mem _ hp))
  | _, _, _, _, .tup a b c z t, k => .tup ((k _ List.mem_cons_self).1.trans a) (k _ List.mem_cons_self).2 c z (Ows.mv s t fun p hp => k p (List.mem_cons_of_mem _ hp))
  | _, _, _, _, .dic a b, k => .dic ((k _ List.mem_cons_self).1.trans a) (k _ List.mem_cons_self).2
theorem Ows.mv (s : Same R R') : ∀ {m : Lv} {vs : List V} {ds : List D} {w : List Addr}, Ows K R H m vs ds w → (∀ p ∈ w, H' p = H p ∧ R' p = none) → Ows K R' H' m vs ds w
  | _, _, _, _, .nil, _ => .nil
  | _, _, _, _, .cons h t n, k => .cons (Ow.mv s h fun p hp => k p (List.mem_append_left _ hp)) (Ows.mv s t fun p hp => k p (List.mem_append_right _ hp)) n
end
mutual
/-- what is wholly one's own leans on nothing else -/
theorem Ow.all : ∀ {v : V} {d : D} {w : List Addr}, Ow K R H none v d w → (∀ p ∈ w, H' p = H p ∧ R' p = none) → Ow K R' H' none v d w
  | _, _, _, .sc h z, _ => .sc (h.scal z) z
  | _, _, _, .lst a b c z t, k => .lst ((k _ List.mem_cons_self).1.trans a) (k _ List.mem_cons_self).2 c z (Ows.all t fun p hp => k p (List.mem_cons_of_mem _ hp))
  | _, _, _, .tup a b c z t, k => .tup ((k _ List.mem_cons_self).1.trans a) (k _ List.mem_cons_self).2 c z (Ows.all t fun p hp => k p (List.mem_cons_of_mem _ hp))
  | _, _, _, .dic a b, k => .dic ((k _ List.mem_cons_self).1.trans a) (k _ List.mem_cons_self).2
theorem Ows.all : ∀ {vs : List V} {ds : List D} {w : List Addr}, Ows K R H none vs ds w → (∀ p ∈ w, H' p = H p ∧ R' p = none) → Ows K R' H' none vs ds w
  | _, _, _, .nil, _ => .nil
  | _, _, _, .cons h t n, k => .cons (Ow.all h fun p hp => k p (List.mem_append_left _ hp)) (Ows.all t fun p hp => k p (List.mem_append_right _ hp)) n
end
mutual
/-- what is one's own is frozen -/
theorem Ow.frz (s : Same R R') : ∀ {m : Lv} {v : V} {d : D} {w : List Addr}, Ow K R H m v d w → (∀ p ∈ w, R' p = H p) → DA K R' v d
  | _, _, _, _, .fz h, _ => h.mono s
  | _, _, _, _, .sc h _, _ => h.mono s
  | _, _, _, _, .lst a _ _ z t, k => .lst (SqL.of ((k _ List.mem_cons_self).trans a)) z (Ows.frz s t fun p hp => k p (List.mem_cons_of_mem _ hp))
  | _, _, _, _, .tup a _ _ z t, k => .tup (SqT.of ((k _ List.mem_cons_self).trans a)) z (Ows.frz s t fun p hp => k p (List.mem_cons_of_mem _ hp))
  | _, _, _, _, .dic a _, k => .dic ((k _ List.mem_cons_self).trans a)
theorem Ows.frz (s : Same R R') : ∀ {m : Lv} {vs : List V} {ds : List D} {w : List Addr}, Ows K R H m vs ds w → (∀ p ∈ w, R' p = H p) → DAs K R' vs ds
  | _, _, _, _, .nil, _ => .nil
  | _, _, _, _, .cons h t _, k => .cons (Ow.frz s h fun p hp => k p (List.mem_append_left _ hp)) (Ows.frz s t fun p hp => k p (List.mem_append_right _ hp))
end
theorem Ows.length : ∀ {m : Lv} {vs : List V} {ds : List D} {w : List Addr}, Ows K R H m vs ds w → vs.length = ds.length
  | _, _, _, _, .nil => rfl
  | _, _, _, _, .cons _ t _ => by rw [List.length_cons, List.length_cons, Ows.length t]
theorem Ows.app : ∀ {m : Lv} {vs vs' : List V} {ds ds' : List D} {w u : List Addr}, Ows K R H m vs ds w → Ows K R H m vs' ds' u → (∀ p ∈ w, p ∉ u) → Ows K R H m (vs ++ vs') (ds ++ ds') (w ++ u)
  | _, _, _, _, _, _, _, .nil, t, _ => t
  | _, _, _, _, _, _, _, .cons h t n, q, k => by
    rw [List.append_assoc]
    refine .cons h (Ows.app t q fun p hp => k p (List.mem_append_right _ hp)) fun p hp hq => ?_
    rcases List.mem_append.mp hq with hq | hq
    · exact n p hp hq
    · exact k p (List.mem_append_left _ hp) hq
end

/-! ### the frozen part grows by what is written out -/
open Classical in
/-- R, and what of H stands at w -/
noncomputable def frzH (R H : Hp) (w : Addr → Prop) : Hp := fun a => if w a then H a else R a
theorem frzH_in {R H : Hp} {w : Addr → Prop} {a : Addr} (h : w a) : frzH R H w a = H a := by unfold frzH; rw [if_pos h]
theorem frzH_out {R H : Hp} {w : Addr → Prop} {a : Addr} (h : ¬ w a) : frzH R H w a = R a := by unfold frzH; rw [if_neg h]
theorem frzH_le {R H : Hp} {w : Addr → Prop} (s : Same R H) : Same R (frzH R H w) := fun a o e => by
  by_cases h : w a
  · rw [frzH_in h]; exact s a o e
  · rw [frzH_out h]; exact e
theorem frzH_up {R H : Hp} {w : Addr → Prop} (s : Same R H) : Same (frzH R H w) H := fun a o e => by
  by_cases h : w a
  · rw [frzH_in h] at e; exact e
  · rw [frzH_out h] at e; exact s a o e

/-- from the frozen part R in H to R' in H': what W names may have changed -/
structure Gr (W : Addr → Prop) (R H R' H' : Hp) : Prop where
  rr : Same R R'
  rh : Same R' H'
  keep : ∀ a o, ¬ W a → H a = some o → H' a = some o
  new : ∀ a, R' a ≠ none → R a ≠ none ∨ H a = none ∨ W a
section
variable {W W1 : Addr → Prop} {R H R1 H1 R2 H2 : Hp}
theorem Gr.refl (s : Same R H) : Gr W R H R H := ⟨Same.refl R, s, fun _ _ _ e => e, fun _ h => .inl h⟩
theorem Gr.trans (a : Gr W R H R1 H1) (b : Gr W1 R1 H1 R2 H2) (n : ∀ p, W1 p → W p ∨ H p = none) : Gr W R H R2 H2 where
  rr := a.rr.trans b.rr
  rh := b.rh
  keep := fun p o hp e => by
    refine b.keep p o (fun z => ?_) (a.keep p o hp e)
    rcases n p z with z | z
    · exact hp z
    · rw [e] at z; cases z
  new := fun p h => by
    have hw : ∀ {p}, H1 p = none → H p = none ∨ W p := fun {p} e => by
      by_cases hp : W p
      · exact .inr hp
      · cases q : H p with
        | none => exact .inl rfl
        | some o => rw [a.keep p o hp q] at e; cases e
    rcases b.new p h with h | h | h
    · exact a.new p h
    · exact .inr (hw h)
    · rcases n p h with z | z
      · exact .inr (.inr z)
      · exact .inr (.inl z)
theorem Gr.mono (a : Gr W R H R1 H1) (k : ∀ p, W p → W1 p) : Gr W1 R H R1 H1 :=
  ⟨a.rr, a.rh, fun p o h e => a.keep p o (fun z => h (k p z)) e, fun p h => (a.new p h).imp id (Or.imp id (k p))⟩
theorem Gr.back (a : Gr W R H R1 H1) {p : Addr} (e : H1 p = none) : H p = none ∨ W p := by
  by_cases hp : W p
  · exact .inr hp
  · cases q : H p with
    | none => exact .inl rfl
    | some o => rw [a.keep p o hp q] at e; cases e
end
end VF
end
section
set_option Elab.async false
set_option linter.all false
set_option maxRecDepth 100000
set_option maxHeartbeats 2000000
namespace VF
open PySem PySem.Spec L2
open PyProof.Rows hiding St

/-- what the slots hold, as data, for an expression -/
abbrev Ev := List (Option D)
/-- the one list that an expression may change: how far it is one's own, what it holds -/
abbrev Mu := Option (Lv × D)
inductive ER where
  | bad
  | ok (m : Lv) (d : D) (μ : Mu)
  /-- an exception of the class of that name; its field, if it has one -/
  | rz (c : Str) (f : Option (Str × D))
structure EOk (K : Fg) (R : Hp) (σ : St) (ε : Ev) : Prop where
  len : ε.length ≤ σ.length
  at' : ∀ (i : Nat) (d : D), ε[i]? = some (some d) → ∃ v, σ[i]? = some (some v) ∧ DA K R v d
def MOk (K : Fg) (R H : Hp) (σ : St) : Option Nat → Mu → List Addr → Prop
  | some j, some (m, d), w => ∃ v, σ[j]? = some (some v) ∧ Ow K R H m v d w
  | _, _, w => w = []
theorem EOk.mono {K : Fg} {R R' : Hp} {σ : St} {ε : Ev} (s : Same R R') (h : EOk K R σ ε) : EOk K R' σ ε := ⟨h.len, fun i d e =>
  let ⟨v, h1, h2⟩ := h.at' i d e
  ⟨v, h1, h2.mono s⟩⟩
theorem MOk.out {K : Fg} {R H : Hp} {σ : St} {δ : Option Nat} {μ : Mu} {w : List Addr} (h : MOk K R H σ δ μ w) : ∀ p ∈ w, R p = none ∧ H p ≠ none := by
  intro p hp
  match δ, μ, h with
  | some j, some (m, d), ⟨v, _, o⟩ => exact o.out p hp
  | none, _, h => cases h; cases hp
  | some j, none, h => cases h; cases hp
theorem MOk.mv {K : Fg} {R H R' H' : Hp} {σ : St} {δ : Option Nat} {μ : Mu} {w : List Addr} (s : Same R R') (h : MOk K R H σ δ μ w) (k : ∀ p ∈ w, H' p = H p ∧ R' p = none) : MOk K R' H' σ δ μ w := by
  match δ, μ, h with
  | some j, some (m, d), ⟨v, e, o⟩ => exact ⟨v, e, o.mv s k⟩
  | none, _, h => exact h
  | some j, none, h => exact h

/-- the names of the classes of errors and where they stand; what is wanted of an exception -/
structure Zs where
  ea : Str → Addr
  W : WX
  /-- the parameters' values, as they came -/
  pv : Nat → V
def RPost (K : Fg) (Z : Zs) (σ : St) (U : Addr → Prop) (R H : Hp) (c : Str) : Option (Str × D) → Prop
  | some (n, d) => ∀ H' R' v dd, Gr U R H R' H' → DA K R' v d → H' dd = some (.xd [(n, v)]) → (U dd ∨ H dd = none) → Z.W (.ref (Z.ea c)) (some dd) σ H'
  | none => ∀ H' R', Gr U R H R' H' → Z.W (.ref (Z.ea c)) none σ H'
abbrev Mem (w : List Addr) : Addr → Prop := fun p => p ∈ w
def EPost (K : Fg) (Z : Zs) (σ : St) (δ : Option Nat) (w : List Addr) (R H : Hp) (Q : VK) : ER → Prop
  | .bad => False
  | .ok m d μ' => ∀ v H' R' w' wv, Gr (Mem w) R H R' H' → MOk K R' H' σ δ μ' w' → Ow K R' H' m v d wv → (∀ p ∈ w', p ∈ w ∨ H p = none) → (∀ p ∈ wv, (p ∈ w ∨ H p = none) ∧ p ∉ w') → Q v H'
  | .rz c f => RPost K Z σ (Mem w) R H c f
/-- the same, the value frozen -/
def EPostF (K : Fg) (Z : Zs) (σ : St) (δ : Option Nat) (w : List Addr) (R H : Hp) (Q : VK) : ER → Prop
  | .bad => False
  | .ok _ d μ' => ∀ v H' R' w', Gr (Mem w) R H R' H' → MOk K R' H' σ δ μ' w' → (∀ p ∈ w', p ∈ w ∨ H p = none) → DA K R' v d → Q v H'
  | .rz c f => RPost K Z σ (Mem w) R H c f
def SE (K : Fg) (Z : Zs) (δ : Option Nat) (t : TE) (f : Ev → Mu → ER) : Prop :=
  ∀ σ H R ε μ w Q, Same R H → EOk K R σ ε → MOk K R H σ δ μ w → EPost K Z σ δ w R H Q (f ε μ) → t σ H Q

section
variable {K : Fg} {Z : Zs} {σ : St} {δ : Option Nat} {w : List Addr} {R H : Hp} {Q : VK}
theorem EPostF.own {r : ER} (h : EPostF K Z σ δ w R H Q r) : EPost K Z σ δ w R H Q r := by
  cases r with
  | bad => exact h
  | rz c f => exact h
  | ok m d μ' =>
    intro v H' R' w' wv G M o n1 n2
    have s2 : Same R' (frzH R' H' (Mem wv)) := frzH_le G.rh
    refine h v H' (frzH R' H' (Mem wv)) w' ⟨G.rr.trans s2, frzH_up G.rh, G.keep, fun a ha => ?_⟩ (M.mv s2 fun p hp => ⟨rfl, ?_⟩) n1 (o.frz s2 fun p hp => frzH_in hp)
    · by_cases q : a ∈ wv
      · rcases (n2 a q).1 with z | z
        · exact .inr (.inr z)
        · exact .inr (.inl z)
      · rw [frzH_out q] at ha
        exact G.new a ha
    · rw [frzH_out fun q => (n2 p q).2 hp]
      exact (M.out p hp).1
theorem SE.f {t : TE} {f : Ev → Mu → ER} (h : SE K Z δ t f) {ε : Ev} {μ : Mu} (s : Same R H) (e : EOk K R σ ε) (m : MOk K R H σ δ μ w) (p : EPostF K Z σ δ w R H Q (f ε μ)) : t σ H Q := h σ H R ε μ w Q s e m p.own
/-- what is wanted of an exception, further on -/
theorem RPost.on {R1 H1 : Hp} {U U1 : Addr → Prop} {c : Str} {f : Option (Str × D)} (h : RPost K Z σ U R H c f) (G : Gr U R H R1 H1) (n : ∀ p, U1 p → U p ∨ H p = none) : RPost K Z σ U1 R1 H1 c f := by
  cases f with
  | none => exact fun H' R' G' => h H' R' (G.trans G' n)
  | some q =>
    obtain ⟨nm, d⟩ := q
    exact fun H' R' v dd G' hv h1 hn => h H' R' v dd (G.trans G' n) hv h1 (hn.elim (n dd) fun z => (G.back z).symm)
/-- a result further on -/
theorem EPost.on {R1 H1 : Hp} {w1 : List Addr} {r : ER} (h : EPost K Z σ δ w R H Q r) (G : Gr (Mem w) R H R1 H1) (n : ∀ p ∈ w1, p ∈ w ∨ H p = none) : EPost K Z σ δ w1 R1 H1 Q r := by
  have fr : ∀ p, p ∈ w1 ∨ H1 p = none → p ∈ w ∨ H p = none := fun p hp => hp.elim (n p) fun z => (G.back z).symm
  cases r with
  | bad => exact h
  | rz c f => exact RPost.on h G n
  | ok m d μ' => exact fun v H' R' w' wv G' M o n1 n2 => h v H' R' w' wv (G.trans G' n) M o (fun p hp => fr p (n1 p hp)) fun p hp => ⟨fr p (n2 p hp).1, (n2 p hp).2⟩
theorem EPostF.on {R1 H1 : Hp} {w1 : List Addr} {r : ER} (h : EPostF K Z σ δ w R H Q r) (G : Gr (Mem w) R H R1 H1) (n : ∀ p ∈ w1, p ∈ w ∨ H p = none) : EPostF K Z σ δ w1 R1 H1 Q r := by
  have fr : ∀ p, p ∈ w1 ∨ H1 p = none → p ∈ w ∨ H p = none := fun p hp => hp.elim (n p) fun z => (G.back z).symm
  cases r with
  | bad => exact h
  | rz c f => exact RPost.on h G n
  | ok m d μ' => exact fun v H' R' w' G' M n1 o => h v H' R' w' (G.trans G' n) M (fun p hp => fr p (n1 p hp)) o
/-- first this, then that with the value frozen -/
theorem SE.then {t : TE} {f : Ev → Mu → ER} (h : SE K Z δ t f) {ε : Ev} {μ : Mu} (s : Same R H) (e : EOk K R σ ε) (M : MOk K R H σ δ μ w) (g : D → Mu → ER)
    (p : EPost K Z σ δ w R H Q (match f ε μ with | .ok _ d μ' => g d μ' | .bad => .bad | .rz c f => .rz c f)) {Q' : VK}
    (k : ∀ v H1 R1 w1 d μ1, Gr (Mem w) R H R1 H1 → EOk K R1 σ ε → MOk K R1 H1 σ δ μ1 w1 → DA K R1 v d → EPost K Z σ δ w1 R1 H1 Q (g d μ1) → Q' v H1) : t σ H Q' := by
  refine h.f s e M ?_
  cases q : f ε μ with
  | bad => rw [q] at p; exact p
  | rz c f => rw [q] at p; exact p
  | ok m d μ1 =>
    rw [q] at p
    exact fun v H1 R1 w1 G M1 n1 o => k v H1 R1 w1 d μ1 G (e.mono G.rr) M1 o (EPost.on p G n1)
end

/-! ### names, constants -/
def lv0 (d : D) : Lv := if scal d then none else some 0
theorem ow_lv0 {K : Fg} {R H : Hp} {v : V} {d : D} (h : DA K R v d) : Ow K R H (lv0 d) v d [] := by
  unfold lv0
  by_cases s : scal d = true
  · rw [if_pos s]; exact .sc h s
  · rw [if_neg s]; exact .fz h
def eVar (i : Nat) : Ev → Mu → ER := fun ε μ => match ε[i]? with
  | some (some d) => .ok (lv0 d) d μ
  | _ => .bad
def eC (d : D) : Ev → Mu → ER := fun _ μ => .ok none d μ
/-- a value that is data and stands as it is -/
theorem EPost.now {K : Fg} {Z : Zs} {σ : St} {δ : Option Nat} {w : List Addr} {R H : Hp} {Q : VK} {m : Lv} {v : V} {d : D} {μ : Mu} (p : EPost K Z σ δ w R H Q (.ok m d μ)) (s : Same R H) (M : MOk K R H σ δ μ w) (h : Ow K R H m v d []) : Q v H :=
  p v H R w [] (Gr.refl s) M h (fun _ hp => .inl hp) fun _ hp => nomatch hp
section
variable {K : Fg} {Z : Zs} {δ : Option Nat}
theorem se_var (i : Nat) : SE K Z δ (tVar i) (eVar i) := by
  intro σ H R ε μ w Q s e M p
  unfold eVar at p
  split at p
  · rename_i d hd
    obtain ⟨v, h1, h2⟩ := e.at' i d hd
    exact ⟨v, h1, p.now s M (ow_lv0 h2)⟩
  · exact p.elim
theorem se_c {v : V} {d : D} (h : ∀ R, DA K R v d) (hs : scal d = true) : SE K Z δ (tC v) (eC d) := fun σ H R ε μ w Q s e M p => p.now s M (.sc (h R) hs)
theorem se_int {i : Int} : SE K Z δ (tC (.int i)) (eC (.int i)) := se_c (fun _ => .int i) rfl
theorem se_bl {b : Bool} : SE K Z δ (tC (.bl b)) (eC (.bool b)) := se_c (fun _ => .bl b) rfl
theorem se_non : SE K Z δ (tC .non) (eC .none) := se_c (fun _ => .non) rfl
theorem se_str {x : Str} : SE K Z δ (tC (.str x)) (eC (.str x)) := se_c (fun _ => .str x) rfl
end

/-! ### operations on frozen data -/
abbrev Op1 := D → Option (Lv × D)
abbrev Op2 := D → D → Option (Lv × D)
abbrev OpN := List D → Option (Lv × D)
/-- what an operation's reading is asked, and gives -/
def RPostD (K : Fg) (R H : Hp) (Q : VK) : Option (Lv × D) → Prop
  | none => False
  | some (m, z) => ∀ v H' R' wv, Gr (fun _ => False) R H R' H' → Ow K R' H' m v z wv → (∀ p ∈ wv, H p = none) → Q v H'
def RG2 (K : Fg) (r : R2) (g : Op2) : Prop := ∀ R H x y d e Q, Same R H → DA K R x d → DA K R y e → RPostD K R H Q (g d e) → r x y H Q
def RG1 (K : Fg) (r : V → Hp → VK → Prop) (g : Op1) : Prop := ∀ R H x d Q, Same R H → DA K R x d → RPostD K R H Q (g d) → r x H Q
def RGN (K : Fg) (r : List V → Hp → VK → Prop) (g : OpN) : Prop := ∀ R H xs ds Q, Same R H → DAs K R xs ds → RPostD K R H Q (g ds) → r xs H Q
def erO (μ : Mu) : Option (Lv × D) → ER
  | some (m, d) => .ok m d μ
  | none => .bad
theorem RPostD.now {K : Fg} {R H : Hp} {Q : VK} {m : Lv} {v : V} {d : D} (p : RPostD K R H Q (some (m, d))) (s : Same R H) (h : Ow K R H m v d []) : Q v H := p v H R [] (Gr.refl s) h fun _ hp => nomatch hp
/-- from the end of an operation to the end of the expression -/
theorem EPost.op {K : Fg} {Z : Zs} {σ : St} {δ : Option Nat} {w : List Addr} {R H : Hp} {Q : VK} {μ : Mu} {o : Option (Lv × D)} (M : MOk K R H σ δ μ w) (p : EPost K Z σ δ w R H Q (erO μ o)) : RPostD K R H Q o := by
  cases o with
  | none => exact p
  | some q =>
    obtain ⟨m, d⟩ := q
    intro v H' R' wv G o n
    have hw : ∀ q ∈ w, H' q = H q ∧ R' q = none := fun q hq => by
      obtain ⟨h1, h2⟩ := M.out q hq
      refine ⟨?_, ?_⟩
      · cases e : H q with
        | none => exact absurd e h2
        | some u => exact G.keep q u (fun z => z) e
      · by_cases e : R' q = none
        · exact e
        · rcases G.new q e with z | z | z
          · exact absurd h1 z
          · exact absurd z h2
          · exact z.elim
    exact p v H' R' w wv (G.mono fun _ z => z.elim) (M.mv G.rr hw) o (fun _ hp => .inl hp) fun q hq => ⟨.inr (n q hq), fun hp => (M.out q hp).2 (n q hq)⟩
def eOp2 (g : Op2) (fa fb : Ev → Mu → ER) : Ev → Mu → ER := fun ε μ => match fa ε μ with
  | .ok _ d μ1 => (match fb ε μ1 with
    | .ok _ e μ2 => erO μ2 (g d e)
    | .bad => .bad
    | .rz c f => .rz c f)
  | .bad => .bad
  | .rz c f => .rz c f
def eOp1 (g : Op1) (fa : Ev → Mu → ER) : Ev → Mu → ER := fun ε μ => match fa ε μ with
  | .ok _ d μ1 => erO μ1 (g d)
  | .bad => .bad
  | .rz c f => .rz c f
section
variable {K : Fg} {Z : Zs} {δ : Option Nat} {ta tb : TE} {fa fb : Ev → Mu → ER}
theorem se_op {r : R2} {g : Op2} (hr : RG2 K r g) (ha : SE K Z δ ta fa) (hb : SE K Z δ tb fb) : SE K Z δ (tOp r ta tb) (eOp2 g fa fb) := by
  intro σ H R ε μ w Q s e M p
  refine ha.then (Q := Q) s e M (fun d μ1 => match fb ε μ1 with | .ok _ e μ2 => erO μ2 (g d e) | .bad => .bad | .rz c f => .rz c f) p fun v H1 R1 w1 d μ1 G1 e1 M1 o1 p1 => ?_
  refine hb.then (Q := Q) G1.rh e1 M1 (fun e μ2 => erO μ2 (g d e)) p1 fun v2 H2 R2 w2 d2 μ2 G2 e2 M2 o2 p2 => ?_
  exact hr R2 H2 v v2 d d2 Q G2.rh (o1.mono G2.rr) o2 (EPost.op M2 p2)
theorem se_un {r : V → Hp → VK → Prop} {g : Op1} (hr : RG1 K r g) (ha : SE K Z δ ta fa) : SE K Z δ (tUn r ta) (eOp1 g fa) := by
  intro σ H R ε μ w Q s e M p
  refine ha.then (Q := Q) s e M (fun d μ1 => erO μ1 (g d)) p fun v H1 R1 w1 d μ1 G1 e1 M1 o1 p1 => ?_
  exact hr R1 H1 v d Q G1.rh o1 (EPost.op M1 p1)
end
end VF
end
section
set_option Elab.async false
set_option linter.all false
set_option maxRecDepth 100000
set_option maxHeartbeats 2000000
namespace VF
open PySem PySem.Spec L2
open PyProof.Rows hiding St

def lmin : Lv → Lv → Lv
  | none, b => b
  | a, none => a
  | some a, some b => some (min a b)
theorem lmin_l : ∀ {a b : Lv}, lle (lmin a b) a
  | none, b => by cases b <;> trivial
  | some a, none => Nat.le_refl a
  | some a, some b => Nat.min_le_left a b
theorem lmin_r : ∀ {a b : Lv}, lle (lmin a b) b
  | none, none => trivial
  | none, some b => Nat.le_refl b
  | some a, none => trivial
  | some a, some b => Nat.min_le_right a b
def up : Lv → Lv
  | none => none
  | some n => some (n + 1)
theorem pd_up : ∀ {a : Lv}, pd (up a) = a
  | none => rfl
  | some n => rfl
/-- sizes of lists that a program of ours makes -/
abbrev SZ : Nat := 1000000
theorem sz_le {n : Nat} (h : n ≤ SZ) : n ≤ sizeLine := Nat.le_trans h (by decide)
theorem sz_lt {n : Nat} (h : n < SZ) : n < sizeLine := Nat.lt_of_lt_of_le h (by decide)

/-! ### the footprint of what was made stays apart -/
section
variable {K : Fg} {Z : Zs} {σ : St} {δ : Option Nat} {w w1 wv : List Addr} {R H R1 H1 R2 H2 : Hp}
/-- what is one's own outlives a step that may change other things alone -/
theorem Ow.keep {U : Addr → Prop} {m : Lv} {v : V} {d : D} (o : Ow K R1 H1 m v d wv) (G : Gr U R1 H1 R2 H2) (n : ∀ p ∈ wv, ¬ U p) : Ow K R2 H2 m v d wv := by
  refine o.mv G.rr fun p hp => ?_
  obtain ⟨h1, h2⟩ := o.out p hp
  refine ⟨?_, ?_⟩
  · cases e : H1 p with
    | none => exact absurd e h2
    | some u => exact G.keep p u (n p hp) e
  · by_cases e : R2 p = none
    · exact e
    · rcases G.new p e with z | z | z
      · exact absurd h1 z
      · exact absurd z h2
      · exact absurd z (n p hp)
theorem Ows.keep {U : Addr → Prop} {m : Lv} {vs : List V} {ds : List D} (o : Ows K R1 H1 m vs ds wv) (G : Gr U R1 H1 R2 H2) (n : ∀ p ∈ wv, ¬ U p) : Ows K R2 H2 m vs ds wv := by
  refine Ows.mv G.rr o fun p hp => ?_
  obtain ⟨h1, h2⟩ := Ows.out o p hp
  refine ⟨?_, ?_⟩
  · cases e : H1 p with
    | none => exact absurd e h2
    | some u => exact G.keep p u (n p hp) e
  · by_cases e : R2 p = none
    · exact e
    · rcases G.new p e with z | z | z
      · exact absurd h1 z
      · exact absurd z h2
      · exact absurd z (n p hp)
theorem MOk.keep {U : Addr → Prop} {μ : Mu} (o : MOk K R1 H1 σ δ μ wv) (G : Gr U R1 H1 R2 H2) (n : ∀ p ∈ wv, ¬ U p) : MOk K R2 H2 σ δ μ wv := by
  refine o.mv G.rr fun p hp => ?_
  obtain ⟨h1, h2⟩ := o.out p hp
  refine ⟨?_, ?_⟩
  · cases e : H1 p with
    | none => exact absurd e h2
    | some u => exact G.keep p u (n p hp) e
  · by_cases e : R2 p = none
    · exact e
    · rcases G.new p e with z | z | z
      · exact absurd h1 z
      · exact absurd z h2
      · exact absurd z (n p hp)
end

/-! ### argument lists -/
inductive AR where
  | bad
  | ok (m : Lv) (ds : List D) (μ : Mu)
  | rz (c : Str) (f : Option (Str × D))
def APost (K : Fg) (Z : Zs) (σ : St) (δ : Option Nat) (w : List Addr) (R H : Hp) (Q : List V → Hp → Prop) : AR → Prop
  | .bad => False
  | .ok m ds μ' => ∀ vs H' R' w' wv, Gr (Mem w) R H R' H' → MOk K R' H' σ δ μ' w' → Ows K R' H' m vs ds wv → (∀ p ∈ w', p ∈ w ∨ H p = none) → (∀ p ∈ wv, (p ∈ w ∨ H p = none) ∧ p ∉ w') → Q vs H'
  | .rz c f => RPost K Z σ (Mem w) R H c f
def SA (K : Fg) (Z : Zs) (δ : Option Nat) (t : TA) (f : Ev → Mu → AR) : Prop :=
  ∀ σ H R ε μ w Q, Same R H → EOk K R σ ε → MOk K R H σ δ μ w → APost K Z σ δ w R H Q (f ε μ) → t σ H Q
def aNil : Ev → Mu → AR := fun _ μ => .ok none [] μ
def aCons (fe : Ev → Mu → ER) (fr : Ev → Mu → AR) : Ev → Mu → AR := fun ε μ => match fe ε μ with
  | .ok m d μ1 => (match fr ε μ1 with
    | .ok m' ds μ2 => .ok (lmin m m') (d :: ds) μ2
    | .bad => .bad
    | .rz c f => .rz c f)
  | .bad => .bad
  | .rz c f => .rz c f
section
variable {K : Fg} {Z : Zs} {δ : Option Nat}
theorem sa_nil : SA K Z δ tNil aNil := fun σ H R ε μ w Q s e M p => p [] H R w [] (Gr.refl s) M .nil (fun _ hp => .inl hp) fun _ hp => nomatch hp
theorem sa_cons {te : TE} {tr : TA} {fe : Ev → Mu → ER} {fr : Ev → Mu → AR} (he : SE K Z δ te fe) (hr : SA K Z δ tr fr) : SA K Z δ (tCons te tr) (aCons fe fr) := by
  intro σ H R ε μ w Q s e M p
  refine he σ H R ε μ w _ s e M ?_
  unfold aCons at p
  cases q : fe ε μ with
  | bad => rw [q] at p; exact p
  | rz c f => rw [q] at p; exact p
  | ok m d μ1 =>
    rw [q] at p
    intro v H1 R1 w1 wv G1 M1 o1 n1 k1
    refine hr σ H1 R1 ε μ1 w1 _ G1.rh (e.mono G1.rr) M1 ?_
    dsimp only at p
    have fr1 : ∀ p, p ∈ w1 ∨ H1 p = none → p ∈ w ∨ H p = none := fun p hp => hp.elim (n1 p) fun z => (G1.back z).symm
    cases q2 : fr ε μ1 with
    | bad => rw [q2] at p; exact p
    | rz c f => rw [q2] at p; exact RPost.on p G1 n1
    | ok m' ds μ2 =>
      rw [q2] at p
      intro vs H2 R2 w2 wvs G2 M2 o2 n2 k2
      have o1' := o1.keep G2 fun p hp => (k1 p hp).2
      refine p (v :: vs) H2 R2 w2 (wv ++ wvs) (G1.trans G2 n1) M2 (.cons (o1'.le lmin_l) (Ows.le lmin_r o2) fun p hp hq => ?_) (fun p hp => fr1 p (n2 p hp)) fun p hp => ?_
      · rcases (k2 p hq).1 with z | z
        · exact (k1 p hp).2 z
        · exact (o1.out p hp).2 z
      · rcases List.mem_append.mp hp with hp | hp
        · refine ⟨(k1 p hp).1, fun hq => ?_⟩
          rcases n2 p hq with z | z
          · exact (k1 p hp).2 z
          · exact (o1.out p hp).2 z
        · exact ⟨fr1 p (k2 p hp).1, (k2 p hp).2⟩
/-- the arguments, all frozen, then what follows -/
theorem SA.then {t : TA} {f : Ev → Mu → AR} {σ : St} {w : List Addr} {R H : Hp} {Q : VK} (h : SA K Z δ t f) {ε : Ev} {μ : Mu} (s : Same R H) (e : EOk K R σ ε) (M : MOk K R H σ δ μ w) (g : List D → Mu → ER)
    (p : EPost K Z σ δ w R H Q (match f ε μ with | .ok _ ds μ' => g ds μ' | .bad => .bad | .rz c f => .rz c f)) {Q' : List V → Hp → Prop}
    (k : ∀ vs H1 R1 w1 ds μ1, Gr (Mem w) R H R1 H1 → EOk K R1 σ ε → MOk K R1 H1 σ δ μ1 w1 → DAs K R1 vs ds → EPost K Z σ δ w1 R1 H1 Q (g ds μ1) → Q' vs H1) : t σ H Q' := by
  refine h σ H R ε μ w _ s e M ?_
  cases q : f ε μ with
  | bad => rw [q] at p; exact p
  | rz c f => rw [q] at p; exact p
  | ok m ds μ1 =>
    rw [q] at p
    intro vs H' R' w' wv G M1 o n1 n2
    have s2 : Same R' (frzH R' H' (Mem wv)) := frzH_le G.rh
    have G2 : Gr (Mem w) R H (frzH R' H' (Mem wv)) H' := ⟨G.rr.trans s2, frzH_up G.rh, G.keep, fun a ha => by
      by_cases q : a ∈ wv
      · rcases (n2 a q).1 with z | z
        · exact .inr (.inr z)
        · exact .inr (.inl z)
      · rw [frzH_out q] at ha
        exact G.new a ha⟩
    refine k vs H' _ w' ds μ1 G2 (e.mono G2.rr) (M1.mv s2 fun p hp => ⟨rfl, ?_⟩) (Ows.frz s2 o fun p hp => frzH_in hp) (EPost.on p G2 n1)
    rw [frzH_out fun q => (n2 p q).2 hp]
    exact (M1.out p hp).1
end

/-! ### displays, calls of built-ins -/
def eLst (fa : Ev → Mu → AR) : Ev → Mu → ER := fun ε μ => match fa ε μ with
  | .ok m ds μ1 => if ds.length ≤ SZ then .ok (up m) (.list ds) μ1 else .bad
  | .bad => .bad
  | .rz c f => .rz c f
def eTup (fa : Ev → Mu → AR) : Ev → Mu → ER := fun ε μ => match fa ε μ with
  | .ok m ds μ1 => if ds.length ≤ SZ then .ok (up m) (.tuple ds) μ1 else .bad
  | .bad => .bad
  | .rz c f => .rz c f
def eCall (g : OpN) (fa : Ev → Mu → AR) : Ev → Mu → ER := fun ε μ => match fa ε μ with
  | .ok _ ds μ1 => erO μ1 (g ds)
  | .bad => .bad
  | .rz c f => .rz c f
section
variable {K : Fg} {Z : Zs} {δ : Option Nat} {t : TA} {fa : Ev → Mu → AR}
theorem Gr.laid {R H : Hp} {p : Addr} {o : HO} (s : Same R H) (h : H p = none) : Gr (fun _ => False) R H R (upd H p o) where
  rr := Same.refl R
  rh := fun a u e => by
    have z := s a u e
    rw [upd_ne (ne_of_none z h)]; exact z
  keep := fun a u _ e => by rw [upd_ne (ne_of_none e h)]; exact e
  new := fun a h => .inl h
theorem se_lst (ha : SA K Z δ t fa) : SE K Z δ (tLst t) (eLst fa) := by
  intro σ H R ε μ w Q s e M p
  refine ha σ H R ε μ w _ s e M ?_
  unfold eLst at p
  cases q : fa ε μ with
  | bad => rw [q] at p; exact p
  | rz c f => rw [q] at p; exact p
  | ok m ds μ1 =>
    rw [q] at p
    dsimp only at p
    intro vs H' R' w' wv G M1 o n1 n2
    by_cases z : ds.length ≤ SZ
    · rw [if_pos z] at p
      have zl : vs.length ≤ sizeLine := by rw [Ows.length o]; exact sz_le z
      refine ⟨zl, fun l hl => ?_⟩
      have G2 := Gr.laid (o := .lst vs) G.rh hl
      have nw : l ∉ wv := fun q => (Ows.out o l q).2 hl
      refine p (.ref l) _ R' w' (l :: wv) (G.trans G2 fun _ z => z.elim) (M1.keep G2 fun _ _ z => z) (.lst upd_same ?_ nw zl ?_) n1 fun p hp => ?_
      · cases q : R' l with
        | none => rfl
        | some u => rw [G.rh l u q] at hl; cases hl
      · rw [pd_up]; exact Ows.keep o G2 fun _ _ z => z
      · rcases List.mem_cons.mp hp with rfl | hp
        · exact ⟨(G.back hl).symm, fun z => (M1.out p z).2 hl⟩
        · exact n2 p hp
    · rw [if_neg z] at p; exact p.elim
theorem se_tup (ha : SA K Z δ t fa) : SE K Z δ (tTup t) (eTup fa) := by
  intro σ H R ε μ w Q s e M p
  refine ha σ H R ε μ w _ s e M ?_
  unfold eTup at p
  cases q : fa ε μ with
  | bad => rw [q] at p; exact p
  | rz c f => rw [q] at p; exact p
  | ok m ds μ1 =>
    rw [q] at p
    dsimp only at p
    intro vs H' R' w' wv G M1 o n1 n2
    by_cases z : ds.length ≤ SZ
    · rw [if_pos z] at p
      have zl : vs.length ≤ sizeLine := by rw [Ows.length o]; exact sz_le z
      refine ⟨zl, fun l hl => ?_⟩
      have G2 := Gr.laid (o := .tup vs) G.rh hl
      have nw : l ∉ wv := fun q => (Ows.out o l q).2 hl
      refine p (.ref l) _ R' w' (l :: wv) (G.trans G2 fun _ z => z.elim) (M1.keep G2 fun _ _ z => z) (.tup upd_same ?_ nw zl ?_) n1 fun p hp => ?_
      · cases q : R' l with
        | none => rfl
        | some u => rw [G.rh l u q] at hl; cases hl
      · rw [pd_up]; exact Ows.keep o G2 fun _ _ z => z
      · rcases List.mem_cons.mp hp with rfl | hp
        · exact ⟨(G.back hl).symm, fun z => (M1.out p z).2 hl⟩
        · exact n2 p hp
    · rw [if_neg z] at p; exact p.elim
theorem se_cb {r : List V → Hp → VK → Prop} {g : OpN} (hr : RGN K r g) (ha : SA K Z δ t fa) : SE K Z δ (tCB r t) (eCall g fa) := by
  intro σ H R ε μ w Q s e M p
  refine ha.then (Q := Q) s e M (fun ds μ1 => erO μ1 (g ds)) p fun vs H1 R1 w1 ds μ1 G1 e1 M1 o1 p1 => ?_
  exact hr R1 H1 vs ds Q G1.rh o1 (EPost.op M1 p1)
end

/-! ### tests -/
inductive TR where
  | bad
  | ok (b : Bool) (μ : Mu)
  | rz (c : Str) (f : Option (Str × D))
def TPost (K : Fg) (Z : Zs) (σ : St) (δ : Option Nat) (w : List Addr) (R H : Hp) (Q : Bool → Hp → Prop) : TR → Prop
  | .bad => False
  | .ok b μ' => ∀ H' R' w', Gr (Mem w) R H R' H' → MOk K R' H' σ δ μ' w' → (∀ p ∈ w', p ∈ w ∨ H p = none) → Q b H'
  | .rz c f => RPost K Z σ (Mem w) R H c f
def ST (K : Fg) (Z : Zs) (δ : Option Nat) (t : TT) (f : Ev → Mu → TR) : Prop :=
  ∀ σ H R ε μ w Q, Same R H → EOk K R σ ε → MOk K R H σ δ μ w → TPost K Z σ δ w R H Q (f ε μ) → t σ H Q
theorem TPost.on {K : Fg} {Z : Zs} {σ : St} {δ : Option Nat} {w w1 : List Addr} {R H R1 H1 : Hp} {Q : Bool → Hp → Prop} {r : TR} (h : TPost K Z σ δ w R H Q r) (G : Gr (Mem w) R H R1 H1) (n : ∀ p ∈ w1, p ∈ w ∨ H p = none) : TPost K Z σ δ w1 R1 H1 Q r := by
  have fr : ∀ p, p ∈ w1 ∨ H1 p = none → p ∈ w ∨ H p = none := fun p hp => hp.elim (n p) fun z => (G.back z).symm
  cases r with
  | bad => exact h
  | rz c f => exact RPost.on h G n
  | ok b μ' => exact fun H' R' w' G' M n1 => h H' R' w' (G.trans G' n) M fun p hp => fr p (n1 p hp)
section
variable {K : Fg} {Z : Zs} {δ : Option Nat} {σ : St} {w : List Addr} {R H : Hp}
theorem SE.thenT {t : TE} {f : Ev → Mu → ER} (h : SE K Z δ t f) {ε : Ev} {μ : Mu} {Q : Bool → Hp → Prop} (s : Same R H) (e : EOk K R σ ε) (M : MOk K R H σ δ μ w) (g : D → Mu → TR)
    (p : TPost K Z σ δ w R H Q (match f ε μ with | .ok _ d μ' => g d μ' | .bad => .bad | .rz c f => .rz c f)) {Q' : VK}
    (k : ∀ v H1 R1 w1 d μ1, Gr (Mem w) R H R1 H1 → EOk K R1 σ ε → MOk K R1 H1 σ δ μ1 w1 → DA K R1 v d → TPost K Z σ δ w1 R1 H1 Q (g d μ1) → Q' v H1) : t σ H Q' := by
  refine h.f s e M ?_
  cases q : f ε μ with
  | bad => rw [q] at p; exact p
  | rz c f => rw [q] at p; exact p
  | ok m d μ1 =>
    rw [q] at p
    exact fun v H1 R1 w1 G M1 n1 o => k v H1 R1 w1 d μ1 G (e.mono G.rr) M1 o (TPost.on p G n1)
theorem ST.then {t : TT} {f : Ev → Mu → TR} (h : ST K Z δ t f) {ε : Ev} {μ : Mu} {Q : VK} (s : Same R H) (e : EOk K R σ ε) (M : MOk K R H σ δ μ w) (g : Bool → Mu → ER)
    (p : EPost K Z σ δ w R H Q (match f ε μ with | .ok b μ' => g b μ' | .bad => .bad | .rz c f => .rz c f)) {Q' : Bool → Hp → Prop}
    (k : ∀ b H1 R1 w1 μ1, Gr (Mem w) R H R1 H1 → EOk K R1 σ ε → MOk K R1 H1 σ δ μ1 w1 → EPost K Z σ δ w1 R1 H1 Q (g b μ1) → Q' b H1) : t σ H Q' := by
  refine h σ H R ε μ w _ s e M ?_
  cases q : f ε μ with
  | bad => rw [q] at p; exact p
  | rz c f => rw [q] at p; exact p
  | ok b μ1 =>
    rw [q] at p
    exact fun H1 R1 w1 G M1 n1 => k b H1 R1 w1 μ1 G (e.mono G.rr) M1 (EPost.on p G n1)
theorem ST.thenT {t : TT} {f : Ev → Mu → TR} (h : ST K Z δ t f) {ε : Ev} {μ : Mu} {Q : Bool → Hp → Prop} (s : Same R H) (e : EOk K R σ ε) (M : MOk K R H σ δ μ w) (g : Bool → Mu → TR)
    (p : TPost K Z σ δ w R H Q (match f ε μ with | .ok b μ' => g b μ' | .bad => .bad | .rz c f => .rz c f)) {Q' : Bool → Hp → Prop}
    (k : ∀ b H1 R1 w1 μ1, Gr (Mem w) R H R1 H1 → EOk K R1 σ ε → MOk K R1 H1 σ δ μ1 w1 → TPost K Z σ δ w1 R1 H1 Q (g b μ1) → Q' b H1) : t σ H Q' := by
  refine h σ H R ε μ w _ s e M ?_
  cases q : f ε μ with
  | bad => rw [q] at p; exact p
  | rz c f => rw [q] at p; exact p
  | ok b μ1 =>
    rw [q] at p
    exact fun H1 R1 w1 G M1 n1 => k b H1 R1 w1 μ1 G (e.mono G.rr) M1 (TPost.on p G n1)
end
/-- a value that is a bool, as a test -/
def tBool : D → Mu → TR
  | .bool b, μ => .ok b μ
  | _, _ => .bad
def sTest (f : Ev → Mu → ER) : Ev → Mu → TR := fun ε μ => match f ε μ with
  | .ok _ d μ1 => tBool d μ1
  | .bad => .bad
  | .rz c f => .rz c f
def sNot (f : Ev → Mu → TR) : Ev → Mu → TR := fun ε μ => match f ε μ with
  | .ok b μ1 => .ok (!b) μ1
  | .bad => .bad
  | .rz c f => .rz c f
def sAnd (f g : Ev → Mu → TR) : Ev → Mu → TR := fun ε μ => match f ε μ with
  | .ok true μ1 => g ε μ1
  | .ok false μ1 => .ok false μ1
  | .bad => .bad
  | .rz c f => .rz c f
def sOr (f g : Ev → Mu → TR) : Ev → Mu → TR := fun ε μ => match f ε μ with
  | .ok true μ1 => .ok true μ1
  | .ok false μ1 => g ε μ1
  | .bad => .bad
  | .rz c f => .rz c f
/-- the truth of a value -/
def tru : D → Option Bool
  | .none => some false
  | .bool b => some b
  | .int i => some (i != 0)
  | .str s => if s.length ≤ SZ then some ((s.length : Int) != 0) else none
  | .list ds => some (!ds.isEmpty)
  | .tuple ds => some (!ds.isEmpty)
  | .dict _ => none
def tTru : D → Mu → TR := fun d μ => match tru d with
  | some b => .ok b μ
  | none => .bad
def sTru (f : Ev → Mu → ER) : Ev → Mu → TR := fun ε μ => match f ε μ with
  | .ok _ d μ1 => tTru d μ1
  | .bad => .bad
  | .rz c f => .rz c f
def eIf (c : Ev → Mu → TR) (a b : Ev → Mu → ER) : Ev → Mu → ER := fun ε μ => match c ε μ with
  | .ok true μ1 => a ε μ1
  | .ok false μ1 => b ε μ1
  | .bad => .bad
  | .rz c f => .rz c f
def eAnd (a b : Ev → Mu → ER) : Ev → Mu → ER := fun ε μ => match a ε μ with
  | .ok _ (.bool true) μ1 => b ε μ1
  | .ok _ (.bool false) μ1 => .ok none (.bool false) μ1
  | .ok _ _ _ => .bad
  | .bad => .bad
  | .rz c f => .rz c f
def eOr (a b : Ev → Mu → ER) : Ev → Mu → ER := fun ε μ => match a ε μ with
  | .ok _ (.bool true) μ1 => .ok none (.bool true) μ1
  | .ok _ (.bool false) μ1 => b ε μ1
  | .ok _ _ _ => .bad
  | .bad => .bad
  | .rz c f => .rz c f
def eNot (a : Ev → Mu → ER) : Ev → Mu → ER := fun ε μ => match a ε μ with
  | .ok _ (.bool b) μ1 => .ok none (.bool (!b)) μ1
  | .ok _ _ _ => .bad
  | .bad => .bad
  | .rz c f => .rz c f
section
variable {K : Fg} {Z : Zs} {δ : Option Nat} {te ta tb : TE} {t u : TT} {fe fa fb : Ev → Mu → ER} {f g : Ev → Mu → TR}
theorem TPost.now {σ : St} {w : List Addr} {R H : Hp} {Q : Bool → Hp → Prop} {b : Bool} {μ : Mu} (p : TPost K Z σ δ w R H Q (.ok b μ)) (s : Same R H) (M : MOk K R H σ δ μ w) : Q b H := p H R w (Gr.refl s) M fun _ hp => .inl hp
theorem st_test (h : SE K Z δ te fe) : ST K Z δ (tTest te) (sTest fe) := by
  intro σ H R ε μ w Q s e M p
  refine h.thenT (Q := Q) s e M tBool p fun v H1 R1 w1 d μ1 G1 e1 M1 o1 p1 => ?_
  cases o1 with
  | bl b => exact ⟨b, rfl, p1.now G1.rh M1⟩
  | _ => exact False.elim p1
theorem st_B (h : SE K Z δ te fe) : ST K Z δ (tB te) (sTest fe) := by
  intro σ H R ε μ w Q s e M p
  refine h.thenT (Q := Q) s e M tBool p fun v H1 R1 w1 d μ1 G1 e1 M1 o1 p1 => ?_
  cases o1 with
  | bl b => exact ⟨b, rfl, p1.now G1.rh M1⟩
  | _ => exact False.elim p1
theorem st_truth (h : SE K Z δ te fe) : ST K Z δ (fun σ H Q => te σ H fun x H1 => ∃ k, TruV K x H1 k ∧ Q k H1) (sTru fe) := by
  intro σ H R ε μ w Q s e M p
  refine h.thenT (Q := Q) s e M tTru p fun v H1 R1 w1 d μ1 G1 e1 M1 o1 p1 => ?_
  unfold tTru at p1
  cases o1 with
  | non => exact ⟨_, rfl, p1.now G1.rh M1⟩
  | bl b => exact ⟨_, rfl, p1.now G1.rh M1⟩
  | int i => exact ⟨_, rfl, p1.now G1.rh M1⟩
  | str z =>
    simp only [tru] at p1
    by_cases q : z.length ≤ SZ
    · rw [if_pos q] at p1
      exact ⟨_, ⟨sz_le q, rfl⟩, p1.now G1.rh M1⟩
    · rw [if_neg q] at p1; exact p1.elim
  | lst hs hz hd =>
    refine ⟨_, .inl ⟨_, G1.rh.seq hs, rfl⟩, ?_⟩
    rename_i xs ds
    have : xs.isEmpty = ds.isEmpty := by
      have := hd.length
      cases xs <;> cases ds <;> simp_all
    rw [this]
    exact p1.now G1.rh M1
  | tup hs hz hd =>
    refine ⟨_, .inr (.inl ⟨_, Same.sqt G1.rh hs, rfl⟩), ?_⟩
    rename_i xs ds
    have : xs.isEmpty = ds.isEmpty := by
      have := hd.length
      cases xs <;> cases ds <;> simp_all
    rw [this]
    exact p1.now G1.rh M1
  | dic _ => exact False.elim p1
  | rng _ => exact False.elim p1
  | exc _ _ _ _ => exact False.elim p1
  | exn _ _ => exact False.elim p1
theorem st_not (h : ST K Z δ t f) : ST K Z δ (tNot t) (sNot f) := by
  intro σ H R ε μ w Q s e M p
  exact h.thenT (Q := Q) s e M (fun b μ1 => .ok (!b) μ1) p fun b H1 R1 w1 μ1 G1 e1 M1 p1 => p1.now G1.rh M1
theorem st_and (h : ST K Z δ t f) (h2 : ST K Z δ u g) : ST K Z δ (tAnd t u) (sAnd f g) := by
  intro σ H R ε μ w Q s e M p
  refine h.thenT (Q := Q) s e M (fun b μ1 => if b = true then g ε μ1 else .ok false μ1) (by unfold sAnd at p; revert p; cases f ε μ with | ok b μ1 => cases b <;> exact id | _ => exact id) fun b H1 R1 w1 μ1 G1 e1 M1 p1 => ?_
  cases b with
  | true => exact h2 σ H1 R1 ε μ1 w1 Q G1.rh e1 M1 p1
  | false => exact TPost.now p1 G1.rh M1
theorem st_or (h : ST K Z δ t f) (h2 : ST K Z δ u g) : ST K Z δ (tOr t u) (sOr f g) := by
  intro σ H R ε μ w Q s e M p
  refine h.thenT (Q := Q) s e M (fun b μ1 => if b = true then .ok true μ1 else g ε μ1) (by unfold sOr at p; revert p; cases f ε μ with | ok b μ1 => cases b <;> exact id | _ => exact id) fun b H1 R1 w1 μ1 G1 e1 M1 p1 => ?_
  cases b with
  | false => exact h2 σ H1 R1 ε μ1 w1 Q G1.rh e1 M1 p1
  | true => exact TPost.now p1 G1.rh M1
theorem se_if (h : ST K Z δ t f) (ha : SE K Z δ ta fa) (hb : SE K Z δ tb fb) : SE K Z δ (tIf t ta tb) (eIf f fa fb) := by
  intro σ H R ε μ w Q s e M p
  refine h.then (Q := Q) s e M (fun b μ1 => if b = true then fa ε μ1 else fb ε μ1) (by unfold eIf at p; revert p; cases f ε μ with | ok b μ1 => cases b <;> exact id | _ => exact id) fun b H1 R1 w1 μ1 G1 e1 M1 p1 => ?_
  cases b with
  | true => exact ha σ H1 R1 ε μ1 w1 Q G1.rh e1 M1 p1
  | false => exact hb σ H1 R1 ε μ1 w1 Q G1.rh e1 M1 p1
theorem se_and (ha : SE K Z δ ta fa) (hb : SE K Z δ tb fb) : SE K Z δ (tAndV ta tb) (eAnd fa fb) := by
  intro σ H R ε μ w Q s e M p
  refine ha.then (Q := Q) s e M (fun d μ1 => match d with | .bool true => fb ε μ1 | .bool false => .ok none (.bool false) μ1 | _ => .bad)
    (by unfold eAnd at p; revert p; cases fa ε μ with | ok m d μ1 => (cases d with | bool b => (cases b <;> exact id) | _ => exact id) | _ => exact id) fun v H1 R1 w1 d μ1 G1 e1 M1 o1 p1 => ?_
  cases o1 with
  | bl b =>
    refine ⟨b, rfl, ?_⟩
    cases b with
    | true => exact hb σ H1 R1 ε μ1 w1 Q G1.rh e1 M1 p1
    | false => exact EPost.now p1 G1.rh M1 (.sc (.bl false) rfl)
  | _ => exact False.elim p1
theorem se_or (ha : SE K Z δ ta fa) (hb : SE K Z δ tb fb) : SE K Z δ (tOrV ta tb) (eOr fa fb) := by
  intro σ H R ε μ w Q s e M p
  refine ha.then (Q := Q) s e M (fun d μ1 => match d with | .bool true => .ok none (.bool true) μ1 | .bool false => fb ε μ1 | _ => .bad)
    (by unfold eOr at p; revert p; cases fa ε μ with | ok m d μ1 => (cases d with | bool b => (cases b <;> exact id) | _ => exact id) | _ => exact id) fun v H1 R1 w1 d μ1 G1 e1 M1 o1 p1 => ?_
  cases o1 with
  | bl b =>
    refine ⟨b, rfl, ?_⟩
    cases b with
    | false => exact hb σ H1 R1 ε μ1 w1 Q G1.rh e1 M1 p1
    | true => exact EPost.now p1 G1.rh M1 (.sc (.bl true) rfl)
  | _ => exact False.elim p1
theorem se_not (ha : SE K Z δ ta fa) : SE K Z δ (tNotV ta) (eNot fa) := by
  intro σ H R ε μ w Q s e M p
  refine ha.then (Q := Q) s e M (fun d μ1 => match d with | .bool b => .ok none (.bool (!b)) μ1 | _ => .bad)
    (by unfold eNot at p; revert p; cases fa ε μ with | ok m d μ1 => cases d <;> exact id | _ => exact id) fun v H1 R1 w1 d μ1 G1 e1 M1 o1 p1 => ?_
  cases o1 with
  | bl b => exact ⟨b, rfl, EPost.now p1 G1.rh M1 (.sc (.bl _) rfl)⟩
  | _ => exact False.elim p1
end
end VF
end
section
set_option Elab.async false
set_option linter.all false
set_option maxRecDepth 100000
set_option maxHeartbeats 2000000
namespace VF
open PySem PySem.Spec L2
open PyProof.Rows hiding St

/-! ### what is walked -/
/-- J walks the data ds, which R bears -/
structure Wk (K : Fg) (R : Hp) (J : It) (ds : List D) : Prop where
  go : ∀ i H, Same R H → i < ds.length → J.go i H
  stop : ∀ H, Same R H → J.stop ds.length H
  yld : ∀ i H x H', Same R H → i < ds.length → J.yld i H x H' → ∃ d, ds[i]? = some d ∧ ∀ R2, Same R R2 → Same R2 H → ∃ R3, Gr (fun _ => False) R2 H R3 H' ∧ DA K R3 x d
inductive GR where
  | bad
  /-- c: the walk leans on no heap -/
  | ok (c : Bool) (ds : List D) (μ : Mu)
  | rz (c : Str) (f : Option (Str × D))
def Wkc (K : Fg) (R : Hp) (J : It) (ds : List D) (c : Bool) : Prop := if c = true then ∀ R0, Wk K R0 J ds else Wk K R J ds
theorem Wkc.wk {K : Fg} {R : Hp} {J : It} {ds : List D} {c : Bool} (h : Wkc K R J ds c) : Wk K R J ds := by
  cases c with
  | true => exact h R
  | false => exact h
theorem Wkc.any {K : Fg} {R R' : Hp} {J : It} {ds : List D} (h : Wkc K R J ds true) : Wkc K R' J ds true := h
def GPost (K : Fg) (Z : Zs) (σ : St) (δ : Option Nat) (w : List Addr) (R H : Hp) (Q : It → Hp → Prop) : GR → Prop
  | .bad => False
  | .ok c ds μ' => ∀ J H' R' w', Gr (Mem w) R H R' H' → MOk K R' H' σ δ μ' w' → (∀ p ∈ w', p ∈ w ∨ H p = none) → Wkc K R' J ds c → ds.length ≤ sizeLine → Q J H'
  | .rz c f => RPost K Z σ (Mem w) R H c f
def SG (K : Fg) (Z : Zs) (δ : Option Nat) (t : TI) (f : Ev → Mu → GR) : Prop :=
  ∀ σ H R ε μ w Q, Same R H → EOk K R σ ε → MOk K R H σ δ μ w → GPost K Z σ δ w R H Q (f ε μ) → t σ H Q
theorem GPost.on {K : Fg} {Z : Zs} {σ : St} {δ : Option Nat} {w w1 : List Addr} {R H R1 H1 : Hp} {Q : It → Hp → Prop} {r : GR} (h : GPost K Z σ δ w R H Q r) (G : Gr (Mem w) R H R1 H1) (n : ∀ p ∈ w1, p ∈ w ∨ H p = none) : GPost K Z σ δ w1 R1 H1 Q r := by
  have fr : ∀ p, p ∈ w1 ∨ H1 p = none → p ∈ w ∨ H p = none := fun p hp => hp.elim (n p) fun z => (G.back z).symm
  cases r with
  | bad => exact h
  | rz c f => exact RPost.on h G n
  | ok c b μ' => exact fun J H' R' w' G' M n1 => h J H' R' w' (G.trans G' n) M fun p hp => fr p (n1 p hp)
section
variable {K : Fg} {Z : Zs} {δ : Option Nat} {σ : St} {w : List Addr} {R H : Hp}
theorem SE.thenG {t : TE} {f : Ev → Mu → ER} (h : SE K Z δ t f) {ε : Ev} {μ : Mu} {Q : It → Hp → Prop} (s : Same R H) (e : EOk K R σ ε) (M : MOk K R H σ δ μ w) (g : D → Mu → GR)
    (p : GPost K Z σ δ w R H Q (match f ε μ with | .ok _ d μ' => g d μ' | .bad => .bad | .rz c f => .rz c f)) {Q' : VK}
    (k : ∀ v H1 R1 w1 d μ1, Gr (Mem w) R H R1 H1 → EOk K R1 σ ε → MOk K R1 H1 σ δ μ1 w1 → DA K R1 v d → GPost K Z σ δ w1 R1 H1 Q (g d μ1) → Q' v H1) : t σ H Q' := by
  refine h.f s e M ?_
  cases q : f ε μ with
  | bad => rw [q] at p; exact p
  | rz c f => rw [q] at p; exact p
  | ok m d μ1 =>
    rw [q] at p
    exact fun v H1 R1 w1 G M1 n1 o => k v H1 R1 w1 d μ1 G (e.mono G.rr) M1 o (GPost.on p G n1)
theorem SA.thenG {t : TA} {f : Ev → Mu → AR} (h : SA K Z δ t f) {ε : Ev} {μ : Mu} {Q : It → Hp → Prop} (s : Same R H) (e : EOk K R σ ε) (M : MOk K R H σ δ μ w) (g : List D → Mu → GR)
    (p : GPost K Z σ δ w R H Q (match f ε μ with | .ok _ ds μ' => g ds μ' | .bad => .bad | .rz c f => .rz c f)) {Q' : List V → Hp → Prop}
    (k : ∀ vs H1 R1 w1 ds μ1, Gr (Mem w) R H R1 H1 → EOk K R1 σ ε → MOk K R1 H1 σ δ μ1 w1 → DAs K R1 vs ds → GPost K Z σ δ w1 R1 H1 Q (g ds μ1) → Q' vs H1) : t σ H Q' := by
  refine h σ H R ε μ w _ s e M ?_
  cases q : f ε μ with
  | bad => rw [q] at p; exact p
  | rz c f => rw [q] at p; exact p
  | ok m ds μ1 =>
    rw [q] at p
    intro vs H' R' w' wv G M1 o n1 n2
    have s2 : Same R' (frzH R' H' (Mem wv)) := frzH_le G.rh
    have G2 : Gr (Mem w) R H (frzH R' H' (Mem wv)) H' := ⟨G.rr.trans s2, frzH_up G.rh, G.keep, fun a ha => by
      by_cases q : a ∈ wv
      · rcases (n2 a q).1 with z | z
        · exact .inr (.inr z)
        · exact .inr (.inl z)
      · rw [frzH_out q] at ha
        exact G.new a ha⟩
    refine k vs H' _ w' ds μ1 G2 (e.mono G2.rr) (M1.mv s2 fun p hp => ⟨rfl, ?_⟩) (Ows.frz s2 o fun p hp => frzH_in hp) (GPost.on p G2 n1)
    rw [frzH_out fun q => (n2 p q).2 hp]
    exact (M1.out p hp).1
end
theorem GPost.now {K : Fg} {Z : Zs} {σ : St} {δ : Option Nat} {w : List Addr} {R H : Hp} {Q : It → Hp → Prop} {J : It} {ds : List D} {c : Bool} {μ : Mu} (p : GPost K Z σ δ w R H Q (.ok c ds μ)) (s : Same R H) (M : MOk K R H σ δ μ w) (k : Wkc K R J ds c) (z : ds.length ≤ sizeLine) : Q J H :=
  p J H R w (Gr.refl s) M (fun _ hp => .inl hp) k z
/-- the ints from lo on -/
def rngD (lo : Int) (n : Nat) : List D := (List.range n).map fun i => .int (lo + (i : Nat))
/-- lo, lo + c, .. -/
def stpD (lo c : Int) (n : Nat) : List D := (List.range n).map fun i => .int (lo + (i : Nat) * c)
def smallI (j : Int) : Bool := decide (-(SZ : Int) ≤ j) && decide (j ≤ (SZ : Int))
theorem smallI_ok {j : Int} (h : smallI j = true) : -(SZ : Int) ≤ j ∧ j ≤ SZ := by
  unfold smallI at h
  simpa using h
section
variable {K : Fg} {R : Hp}
theorem wk_list {a : Addr} {xs : List V} {ds : List D} (h : SqL K R a xs) (o : DAs K R xs ds) : Wk K R (Itl K a) ds where
  go := fun i H s hi => by
    have hx : i < xs.length := by rw [o.length]; exact hi
    exact ⟨xs, xs[i], s.seq h, by simp [hx]⟩
  stop := fun H s => ⟨xs, s.seq h, by rw [o.length]; exact Nat.le_refl _⟩
  yld := fun i H x H' s hi y => by
    obtain ⟨rfl, y⟩ := y
    obtain ⟨d, h1, h2⟩ := o.get (y xs (s.seq h))
    exact ⟨d, h1, fun R2 s1 s2 => ⟨R2, Gr.refl s2, h2.mono s1⟩⟩
theorem wk_tup {a : Addr} {xs : List V} {ds : List D} (h : SqT K R a xs) (o : DAs K R xs ds) : Wk K R (Itt K a) ds where
  go := fun i H s hi => by
    have hx : i < xs.length := by rw [o.length]; exact hi
    exact ⟨xs, xs[i], Same.sqt s h, by simp [hx]⟩
  stop := fun H s => ⟨xs, Same.sqt s h, by rw [o.length]; exact Nat.le_refl _⟩
  yld := fun i H x H' s hi y => by
    obtain ⟨rfl, y⟩ := y
    obtain ⟨d, h1, h2⟩ := o.get (y xs (Same.sqt s h))
    exact ⟨d, h1, fun R2 s1 s2 => ⟨R2, Gr.refl s2, h2.mono s1⟩⟩
theorem wk_rng {lo : Int} {n : Nat} : Wk K R (Itr lo n) (rngD lo n) where
  go := fun i H s hi => by
    show i < n
    simpa [rngD] using hi
  stop := fun H s => by simp [rngD, Itr]
  yld := fun i H x H' s hi y => by
    obtain ⟨rfl, rfl⟩ := y
    have hi' : i < n := by simpa [rngD] using hi
    exact ⟨.int (lo + (i : Nat)), by simp [rngD, hi'], fun R2 s1 s2 => ⟨R2, Gr.refl s2, .int _⟩⟩
theorem wk_stp {lo c : Int} {n : Nat} : Wk K R (Itc lo c n) (stpD lo c n) where
  go := fun i H s hi => by
    show i < n
    simpa [stpD] using hi
  stop := fun H s => by simp [stpD, Itc]
  yld := fun i H x H' s hi y => by
    obtain ⟨rfl, rfl⟩ := y
    have hi' : i < n := by simpa [stpD] using hi
    exact ⟨.int (lo + (i : Nat) * c), by simp [stpD, hi'], fun R2 s1 s2 => ⟨R2, Gr.refl s2, .int _⟩⟩
theorem wk_revL {a : Addr} {xs : List V} {ds : List D} (h : SqL K R a xs) (o : DAs K R xs ds) : Wk K R (Itv K a xs.length) ds.reverse where
  go := fun i H s hi => by
    have hx : i < xs.length := by rw [o.length]; simpa using hi
    exact ⟨hx, xs, xs[xs.length - 1 - i], s.seq h, by rw [List.getElem?_eq_getElem]⟩
  stop := fun H s => by
    show xs.length ≤ ds.reverse.length
    rw [o.length, List.length_reverse]; exact Nat.le_refl _
  yld := fun i H x H' s hi y => by
    obtain ⟨rfl, y⟩ := y
    have hi' : i < ds.length := by simpa using hi
    obtain ⟨d, h1, h2⟩ := o.get (y xs (s.seq h))
    refine ⟨d, ?_, fun R2 s1 s2 => ⟨R2, Gr.refl s2, h2.mono s1⟩⟩
    rw [List.getElem?_reverse hi', ← o.length]; exact h1
theorem wk_revT {a : Addr} {xs : List V} {ds : List D} (h : SqT K R a xs) (o : DAs K R xs ds) : Wk K R (RT.ItvT K a xs.length) ds.reverse where
  go := fun i H s hi => by
    have hx : i < xs.length := by rw [o.length]; simpa using hi
    exact ⟨hx, xs, xs[xs.length - 1 - i], Same.sqt s h, by rw [List.getElem?_eq_getElem]⟩
  stop := fun H s => by
    show xs.length ≤ ds.reverse.length
    rw [o.length, List.length_reverse]; exact Nat.le_refl _
  yld := fun i H x H' s hi y => by
    obtain ⟨rfl, y⟩ := y
    have hi' : i < ds.length := by simpa using hi
    obtain ⟨d, h1, h2⟩ := o.get (y xs (Same.sqt s h))
    refine ⟨d, ?_, fun R2 s1 s2 => ⟨R2, Gr.refl s2, h2.mono s1⟩⟩
    rw [List.getElem?_reverse hi', ← o.length]; exact h1
/-- the items with their numbers -/
def enD : Nat → List D → List D
  | _, [] => []
  | n, d :: ds => .tuple [.int (n : Int), d] :: enD (n + 1) ds
theorem enD_length : ∀ (n : Nat) (ds : List D), (enD n ds).length = ds.length
  | _, [] => rfl
  | n, d :: ds => by rw [enD, List.length_cons, List.length_cons, enD_length]
theorem enD_get : ∀ (n i : Nat) (ds : List D) (d : D), ds[i]? = some d → (enD n ds)[i]? = some (.tuple [.int ((n + i : Nat) : Int), d])
  | _, _, [], _, h => by simp at h
  | n, 0, e :: ds, d, h => by simp at h; subst h; simp [enD]
  | n, i + 1, e :: ds, d, h => by
    have := enD_get (n + 1) i ds d (by simpa using h)
    simp only [enD, List.getElem?_cons_succ]
    rw [this, Nat.add_assoc, Nat.add_comm 1 i]
def ziD : List D → List D → List D
  | d :: ds, e :: es => .tuple [d, e] :: ziD ds es
  | _, _ => []
theorem ziD_length : ∀ (ds es : List D), (ziD ds es).length = min ds.length es.length
  | [], _ => by simp [ziD]
  | _ :: _, [] => by simp [ziD]
  | d :: ds, e :: es => by rw [ziD, List.length_cons, List.length_cons, List.length_cons, ziD_length]; omega
theorem ziD_get : ∀ (i : Nat) (ds es : List D) (d e : D), ds[i]? = some d → es[i]? = some e → (ziD ds es)[i]? = some (.tuple [d, e])
  | _, [], _, _, _, h, _ => by simp at h
  | _, _ :: _, [], _, _, _, h => by simp at h
  | 0, a :: ds, b :: es, d, e, h, h2 => by simp at h h2; subst h h2; simp [ziD]
  | i + 1, a :: ds, b :: es, d, e, h, h2 => by
    simp only [ziD, List.getElem?_cons_succ]
    exact ziD_get i ds es d e (by simpa using h) (by simpa using h2)
/-- a new tuple of frozen things -/
theorem new_pair {R2 H : Hp} {T : Addr} {x y : V} {d e : D} (s : Same R2 H) (h : H T = none) (hx : DA K R2 x d) (hy : DA K R2 y e) : ∃ R3, Gr (fun _ => False) R2 H R3 (upd H T (.tup [x, y])) ∧ DA K R3 (.ref T) (.tuple [d, e]) := by
  have hR : R2 T = none := by
    cases q : R2 T with
    | none => rfl
    | some u => rw [s T u q] at h; cases h
  have s3 : Same R2 (upd R2 T (.tup [x, y])) := fun a o q => by rw [upd_ne (ne_of_none q hR)]; exact q
  refine ⟨upd R2 T (.tup [x, y]), ⟨s3, fun a o q => ?_, fun a o _ q => by rw [upd_ne (ne_of_none q h)]; exact q, fun a q => ?_⟩, .tup (SqT.of upd_same) (by show 2 ≤ sizeLine; decide) (.cons (hx.mono s3) (.cons (hy.mono s3) .nil))⟩
  · by_cases z : a = T
    · subst z; rw [upd_same] at q ⊢; exact q
    · rw [upd_ne z] at q ⊢; exact s a o q
  · by_cases z : a = T
    · subst z; exact .inr (.inl h)
    · rw [upd_ne z] at q; exact .inl q
theorem wk_enum {a : Addr} {xs : List V} {ds : List D} (h : SqL K R a xs) (o : DAs K R xs ds) : Wk K R (Ite K a) (enD 0 ds) where
  go := fun i H s hi => by
    have hx : i < xs.length := by rw [o.length]; rw [enD_length] at hi; exact hi
    exact ⟨xs, xs[i], s.seq h, by simp [hx]⟩
  stop := fun H s => ⟨xs, s.seq h, by rw [o.length, enD_length]; exact Nat.le_refl _⟩
  yld := fun i H x H' s hi y => by
    obtain ⟨T, x1, rfl, hT, rfl, y⟩ := y
    obtain ⟨d, h1, h2⟩ := o.get (y xs (s.seq h))
    refine ⟨.tuple [.int ((i : Nat) : Int), d], ?_, fun R2 s1 s2 => new_pair s2 hT (.int _) (h2.mono s1)⟩
    have := enD_get 0 i ds d h1
    rw [Nat.zero_add] at this
    exact this
theorem wk_zip {a b : Addr} {xs ys : List V} {ds es : List D} (h : SqL K R a xs) (o : DAs K R xs ds) (h2 : SqL K R b ys) (o2 : DAs K R ys es) : Wk K R (Itz K a b) (ziD ds es) where
  go := fun i H s hi => by
    rw [ziD_length] at hi
    have hx : i < xs.length := by rw [o.length]; omega
    have hy : i < ys.length := by rw [o2.length]; omega
    exact ⟨xs, ys, xs[i], ys[i], s.seq h, s.seq h2, by simp [hx], by simp [hy]⟩
  stop := fun H s => ⟨xs, ys, s.seq h, s.seq h2, by rw [o.length, o2.length, ziD_length]; omega⟩
  yld := fun i H x H' s hi y => by
    obtain ⟨T, x1, y1, rfl, hT, rfl, q1, q2⟩ := y
    obtain ⟨d, h3, h4⟩ := o.get (q1 xs (s.seq h))
    obtain ⟨e, h5, h6⟩ := o2.get (q2 ys (s.seq h2))
    exact ⟨.tuple [d, e], ziD_get i ds es d e h3 h5, fun R2 s1 s2 => new_pair s2 hT (h4.mono s1) (h6.mono s1)⟩
def strD (x : Str) : List D := x.cps.toList.map fun c => .str ⟨#[c]⟩
theorem wk_str {x : Str} : Wk K R (Its x) (strD x) where
  go := fun i H s hi => by
    show i < x.cps.size
    simpa [strD] using hi
  stop := fun H s => by simp [strD, Its]
  yld := fun i H v H' s hi y => by
    obtain ⟨rfl, c, hc, rfl⟩ := y
    exact ⟨.str ⟨#[c]⟩, by simp [strD, hc], fun R2 s1 s2 => ⟨R2, Gr.refl s2, .str _⟩⟩
end

/-! ### the walks of expressions -/
def gSeq : D → Mu → GR
  | .list ds, μ => .ok false ds μ
  | .tuple ds, μ => .ok false ds μ
  | .dict [(.int lo, .int hi)], μ => if smallI lo && smallI hi then .ok true (rngD lo (hi - lo).toNat) μ else .bad
  | .str z, μ => if z.length ≤ SZ then .ok true (strD z) μ else .bad
  | _, _ => .bad
def gIter (fe : Ev → Mu → ER) : Ev → Mu → GR := fun ε μ => match fe ε μ with
  | .ok _ d μ1 => gSeq d μ1
  | .bad => .bad
  | .rz c f => .rz c f
def gArgs (c : Bool) (g : List D → Option (List D)) (fa : Ev → Mu → AR) : Ev → Mu → GR := fun ε μ => match fa ε μ with
  | .ok _ ds μ1 => (match g ds with | some l => .ok c l μ1 | none => .bad)
  | .bad => .bad
  | .rz c f => .rz c f
def rng1 : List D → Option (List D)
  | [.int j] => if smallI j then some (rngD 0 j.toNat) else none
  | _ => none
def rng2 : List D → Option (List D)
  | [.int i, .int j] => if smallI i && smallI j then some (rngD i (j - i).toNat) else none
  | _ => none
/-- range(i, j, -1) -/
def rng3d : List D → Option (List D)
  | [.int i, .int j, .int c] => if smallI i && smallI j && decide (c = -1) then some (stpD i (-1) (i - j).toNat) else none
  | _ => none
def enumG : List D → Option (List D)
  | [.list ds] => some (enD 0 ds)
  | _ => none
def zipG : List D → Option (List D)
  | [.list ds, .list es] => some (ziD ds es)
  | _ => none
def revG : List D → Option (List D)
  | [.list ds] => some ds.reverse
  | _ => none
section
variable {K : Fg} {Z : Zs} {δ : Option Nat} {te : TE} {fe : Ev → Mu → ER} {ta : TA} {fa : Ev → Mu → AR}
theorem small62 {j : Int} (h : smallI j = true) : -(2 ^ 62) ≤ j ∧ j < 2 ^ 62 := by
  obtain ⟨h1, h2⟩ := smallI_ok h
  have e : (SZ : Int) = 1000000 := rfl
  rw [e] at h1 h2
  omega
theorem rngD_len {lo : Int} {n : Nat} : (rngD lo n).length = n := by simp [rngD]
theorem stpD_len {lo c : Int} {n : Nat} : (stpD lo c n).length = n := by simp [stpD]
theorem sz2 {i j : Int} (h1 : smallI i = true) (h2 : smallI j = true) : (j - i).toNat ≤ sizeLine := by
  have a := smallI_ok h1
  have b := smallI_ok h2
  have e : (SZ : Int) = 1000000 := rfl
  have z : (2000000 : Nat) ≤ sizeLine := by decide
  rw [e] at a b
  omega
/-- a range that is kept -/
def iRngV (te : TE) : TI := fun σ H R => te σ H fun x H1 => ∃ a lo hi, x = .ref a ∧ H1 a = some (.rng lo hi) ∧ (-(2 ^ 62) ≤ lo ∧ lo < 2 ^ 62 ∧ -(2 ^ 62) ≤ hi ∧ hi < 2 ^ 62) ∧ R (Itr lo (hi - lo).toNat) H1
theorem pi_rngV {X : Cx} {tg l : Expr} {tl : TE} (hl : PE X l tl) : PI X tg l (iRngV tl) := by
  refine ⟨fun pins s σ H R I h => ?_⟩
  refine thn (hl.run pins s σ H _ I h) fun v s1 ⟨x, H1, I1, r1, q1⟩ => ?_
  obtain ⟨a, lo, hi, e, ha, ⟨b1, b2, b3, b4⟩, q⟩ := q1
  subst e
  cases r1
  obtain ⟨t, u, v, eo⟩ := I1.hok a _ ha
  refine wpAny_pyIter_range (show IsRange s1.heap a lo hi 1 t u v from eo) (small_one b1 b2 b3 b4) ?_
  refine ⟨s1.heap.objs.size, [s1.heap.objs.size], _, _, H1, rfl, I1.kept (t' := s1.toks) fun b o e => Heap.get?_push_of_some _ e, turn_range _ lo (hi - lo).toNat, ?_, fun b hb => ?_, q⟩
  · have e1 : lo + ((0 : Nat) : Int) * 1 = lo := by simp
    have e2 : (((hi - lo).toNat : Nat) : Int) - ((0 : Nat) : Int) = Builtin.Range.rangeSize lo hi 1 := by rw [rangeSize_one]; split <;> omega
    show IsRangeIter _ _ (lo + ((0 : Nat) : Int) * 1) ((((hi - lo).toNat : Nat) : Int) - ((0 : Nat) : Int)) 1
    rw [e1, e2]
    exact Heap.get?_push_size _ rfl
  · have e : b = s1.heap.objs.size := by simpa using hb
    subst e
    exact I1.fpOk (Nat.le_refl _) (I1.hok.fresh (Nat.le_refl _))
/-- any of two readings -/
theorem pi_or {X : Cx} {tg it : Expr} {w1 w2 : TI} (h1 : PI X tg it w1) (h2 : PI X tg it w2) : PI X tg it (fun σ H R => w1 σ H R ∨ w2 σ H R) :=
  ⟨fun pins s σ H R I h => h.elim (h1.run pins s σ H R I) (h2.run pins s σ H R I)⟩
/-- a list, a tuple, a range, a text -/
def iAny (K : Fg) (te : TE) : TI := fun σ H R => iList K te σ H R ∨ iTup K te σ H R ∨ iRngV te σ H R ∨ iStr te σ H R
theorem pi_any {X : Cx} {tg it : Expr} {te : TE} (h : PE X it te) : PI X tg it (iAny X.K te) := pi_or (pi_list h) (pi_or (pi_tup h) (pi_or (pi_rngV h) (pi_str h)))
theorem sg_any (h : SE K Z δ te fe) : SG K Z δ (iAny K te) (gIter fe) := by
  intro σ H R ε μ w Q s e M p
  unfold gIter at p
  cases q : fe ε μ with
  | bad => rw [q] at p; exact p.elim
  | rz c f =>
    rw [q] at p
    refine .inl (h.f s e M ?_)
    rw [q]; exact p
  | ok m d μ1 =>
    rw [q] at p
    dsimp only at p
    cases d with
    | list ds =>
      refine .inl (h.f s e M ?_)
      rw [q]
      intro v H1 R1 w1 G1 M1 n1 o1
      cases o1 with
      | lst hs hz hd => exact ⟨_, rfl, ⟨_, G1.rh.seq hs⟩, (GPost.on p G1 n1).now G1.rh M1 (wk_list hs hd) (by rw [← hd.length]; exact hz)⟩
    | tuple ds =>
      refine .inr (.inl (h.f s e M ?_))
      rw [q]
      intro v H1 R1 w1 G1 M1 n1 o1
      cases o1 with
      | tup hs hz hd => exact ⟨_, rfl, ⟨_, Same.sqt G1.rh hs⟩, (GPost.on p G1 n1).now G1.rh M1 (wk_tup hs hd) (by rw [← hd.length]; exact hz)⟩
    | str z =>
      refine .inr (.inr (.inr (h.f s e M ?_)))
      rw [q]
      intro v H1 R1 w1 G1 M1 n1 o1
      cases o1 with
      | str z =>
        have p2 : GPost K Z σ δ w R H Q (if z.length ≤ SZ then .ok true (strD z) μ1 else .bad) := p
        by_cases hz : z.length ≤ SZ
        · rw [if_pos hz] at p2
          exact ⟨z, rfl, (GPost.on p2 G1 n1).now G1.rh M1 (fun _ => wk_str) (by rw [strD, List.length_map, Array.length_toList]; exact sz_le hz)⟩
        · rw [if_neg hz] at p2; exact p2.elim
    | dict kv =>
      rcases kv with _ | ⟨⟨k, v⟩, _ | ⟨_, _⟩⟩
      · exact p.elim
      · cases k with
        | int lo => cases v with
          | int hi =>
            have p' : GPost K Z σ δ w R H Q (if smallI lo && smallI hi then .ok true (rngD lo (hi - lo).toNat) μ1 else .bad) := p
            by_cases hb : (smallI lo && smallI hi) = true
            · rw [if_pos hb] at p'
              obtain ⟨b1, b2⟩ := Bool.and_eq_true_iff.mp hb
              refine .inr (.inr (.inl (h.f s e M ?_)))
              rw [q]
              intro v H1 R1 w1 G1 M1 n1 o1
              cases o1 with
              | rng hr => exact ⟨_, lo, hi, rfl, G1.rh _ _ hr, ⟨(small62 b1).1, (small62 b1).2, (small62 b2).1, (small62 b2).2⟩, (GPost.on p' G1 n1).now G1.rh M1 (fun _ => wk_rng) (by rw [rngD_len]; exact sz2 b1 b2)⟩
            · rw [if_neg hb] at p'; exact p'.elim
          | _ => exact p.elim
        | _ => cases v <;> exact p.elim
      · cases k <;> cases v <;> exact p.elim
    | none => exact p.elim
    | bool b => exact p.elim
    | int i => exact p.elim
theorem sg_rng1 (h : SA K Z δ ta fa) : SG K Z δ (iRng1 ta) (gArgs true rng1 fa) := by
  intro σ H R ε μ w Q s e M p
  refine h.thenG (Q := Q) s e M (fun ds μ1 => match rng1 ds with | some l => .ok true l μ1 | none => .bad) p fun vs H1 R1 w1 ds μ1 G1 e1 M1 o1 p1 => ?_
  cases o1 with
  | nil => exact p1.elim
  | cons h1 t =>
    cases h1 with
    | int j =>
      cases t with
      | nil =>
        dsimp only [rng1] at p1
        by_cases z : smallI j = true
        · rw [if_pos z] at p1
          refine ⟨j, rfl, (small62 z).1, (small62 z).2, GPost.now p1 G1.rh M1 (fun _ => wk_rng) ?_⟩
          rw [rngD_len]
          have := sz2 (i := 0) (j := j) rfl z
          simpa using this
        · rw [if_neg z] at p1; exact p1.elim
      | cons _ _ => exact p1.elim
    | _ => cases t <;> exact p1.elim
theorem sg_rng2 (h : SA K Z δ ta fa) : SG K Z δ (iRng2 ta) (gArgs true rng2 fa) := by
  intro σ H R ε μ w Q s e M p
  refine h.thenG (Q := Q) s e M (fun ds μ1 => match rng2 ds with | some l => .ok true l μ1 | none => .bad) p fun vs H1 R1 w1 ds μ1 G1 e1 M1 o1 p1 => ?_
  cases q : rng2 ds with
  | none => rw [q] at p1; exact p1.elim
  | some l =>
    rw [q] at p1
    unfold rng2 at q
    split at q
    · rename_i i j
      cases o1 with
      | cons h1 t => cases t with
        | cons h2 t => cases t with
          | nil =>
            cases h1; cases h2
            by_cases z : (smallI i && smallI j) = true
            · rw [if_pos z] at q
              cases q
              obtain ⟨b1, b2⟩ := Bool.and_eq_true_iff.mp z
              refine ⟨i, j, rfl, ⟨(small62 b1).1, (small62 b1).2, (small62 b2).1, (small62 b2).2⟩, GPost.now p1 G1.rh M1 (fun _ => wk_rng) ?_⟩
              rw [rngD_len]; exact sz2 b1 b2
            · rw [if_neg z] at q; cases q
    · cases q
theorem sg_enum (h : SA K Z δ ta fa) : SG K Z δ (iEnum K ta) (gArgs false enumG fa) := by
  intro σ H R ε μ w Q s e M p
  refine h.thenG (Q := Q) s e M (fun ds μ1 => match enumG ds with | some l => .ok false l μ1 | none => .bad) p fun vs H1 R1 w1 ds μ1 G1 e1 M1 o1 p1 => ?_
  cases q : enumG ds with
  | none => rw [q] at p1; exact p1.elim
  | some l =>
    rw [q] at p1
    unfold enumG at q
    split at q
    · cases q
      cases o1 with
      | cons h1 t => cases t with
        | nil => cases h1 with
          | lst hs hz hd => exact ⟨_, _, rfl, G1.rh.seq hs, GPost.now p1 G1.rh M1 (wk_enum hs hd) (by rw [enD_length, ← hd.length]; exact hz)⟩
    · cases q
theorem sg_zip (h : SA K Z δ ta fa) : SG K Z δ (iZip K ta) (gArgs false zipG fa) := by
  intro σ H R ε μ w Q s e M p
  refine h.thenG (Q := Q) s e M (fun ds μ1 => match zipG ds with | some l => .ok false l μ1 | none => .bad) p fun vs H1 R1 w1 ds μ1 G1 e1 M1 o1 p1 => ?_
  cases q : zipG ds with
  | none => rw [q] at p1; exact p1.elim
  | some l =>
    rw [q] at p1
    unfold zipG at q
    split at q
    · cases q
      cases o1 with
      | cons h1 t => cases t with
        | cons h2 t => cases t with
          | nil => cases h1 with
            | lst hs hz hd => cases h2 with
              | lst hs2 hz2 hd2 => exact ⟨_, _, _, _, rfl, G1.rh.seq hs, G1.rh.seq hs2, GPost.now p1 G1.rh M1 (wk_zip hs hd hs2 hd2) (by rw [ziD_length, ← hd.length]; exact Nat.le_trans (Nat.min_le_left _ _) hz)⟩
    · cases q
theorem sg_rev (h : SA K Z δ ta fa) : SG K Z δ (iRev K ta) (gArgs false revG fa) := by
  intro σ H R ε μ w Q s e M p
  refine h.thenG (Q := Q) s e M (fun ds μ1 => match revG ds with | some l => .ok false l μ1 | none => .bad) p fun vs H1 R1 w1 ds μ1 G1 e1 M1 o1 p1 => ?_
  cases q : revG ds with
  | none => rw [q] at p1; exact p1.elim
  | some l =>
    rw [q] at p1
    unfold revG at q
    split at q
    · cases q
      cases o1 with
      | cons h1 t => cases t with
        | nil => cases h1 with
          | lst hs hz hd => exact ⟨_, _, rfl, G1.rh.seq hs, GPost.now p1 G1.rh M1 (wk_revL hs hd) (by rw [List.length_reverse, ← hd.length]; exact hz)⟩
    · cases q
end
end VF
end
section
set_option Elab.async false
set_option linter.all false
set_option maxRecDepth 100000
set_option maxHeartbeats 2000000
namespace VF
open PySem PySem.Spec L2
open PyProof.Rows hiding St

/-! ### targets -/
def bN (i : Nat) : D → Ev → Option Ev := fun d ε => some (ε.set i (some d))
def bNs : List Nat → List D → Ev → Option Ev
  | [], [], ε => some ε
  | i :: is, d :: ds, ε => bNs is ds (ε.set i (some d))
  | _, _, _ => none
def bT (is : List Nat) : D → Ev → Option Ev
  | .tuple ds, ε => bNs is ds ε
  | _, _ => none
def gNames : List Nat → TGs
  | [] => gNil
  | i :: is => gCons (gName i) (gNames is)
def BG (K : Fg) (vs : List Nat) (g : TG) (b : D → Ev → Option Ev) : Prop :=
  ∀ σ H R ε d v ε' Q, Same R H → EOk K R σ ε → DA K R v d → b d ε = some ε' → (∀ σ', EOk K R σ' ε' → σ'.length = σ.length → (∀ (j : Nat), j ∉ vs → σ'[j]? = σ[j]?) → Q σ' H) → g v σ H Q
theorem EOk.set {K : Fg} {R : Hp} {σ : St} {ε : Ev} {i : Nat} {v : V} {d : D} (e : EOk K R σ ε) (h : DA K R v d) : EOk K R (σ.set i (some v)) (ε.set i (some d)) := ⟨by simpa using e.len, fun j c q => by
  by_cases z : i = j
  · subst z
    by_cases hl : i < ε.length
    · rw [List.getElem?_set_self hl] at q
      cases q
      exact ⟨v, by rw [List.getElem?_set_self (Nat.lt_of_lt_of_le hl e.len)], h⟩
    · rw [List.getElem?_eq_none (by simpa using hl)] at q; cases q
  · rw [List.getElem?_set_ne z] at q
    obtain ⟨u, h1, h2⟩ := e.at' j c q
    exact ⟨u, by rw [List.getElem?_set_ne z]; exact h1, h2⟩⟩
theorem bg_name {K : Fg} {vs : List Nat} {i : Nat} (hi : i ∈ vs) : BG K vs (gName i) (bN i) := by
  intro σ H R ε d v ε' Q s e o b k
  cases b
  refine k _ (e.set o) (by simp) fun j hj => ?_
  exact List.getElem?_set_ne fun (z : i = j) => hj (z ▸ hi)
theorem bgs_names {K : Fg} {vs : List Nat} : ∀ {is : List Nat} (hi : ∀ i ∈ is, i ∈ vs) (σ : St) (H R : Hp) (ε : Ev) (ds : List D) (xs : List V) (ε' : Ev) (Q : St → Hp → Prop), EOk K R σ ε → DAs K R xs ds → bNs is ds ε = some ε' →
    (∀ σ', EOk K R σ' ε' → σ'.length = σ.length → (∀ (j : Nat), j ∉ vs → σ'[j]? = σ[j]?) → Q σ' H) → gNames is xs σ H Q
  | [], _, σ, H, R, ε, ds, xs, ε', Q, e, o, b, k => by
    cases o with
    | nil => cases b; exact ⟨rfl, k σ e rfl fun _ _ => rfl⟩
    | cons _ _ => cases b
  | i :: is, hi, σ, H, R, ε, ds, xs, ε', Q, e, o, b, k => by
    cases o with
    | nil => cases b
    | cons h t =>
      refine ⟨_, _, rfl, ?_⟩
      refine bgs_names (fun i h => hi i (List.mem_cons_of_mem _ h)) _ H R _ _ _ ε' Q (e.set h) t b fun σ' e' l q => ?_
      refine k σ' e' (by simpa using l) fun j hj => ?_
      rw [q j hj]
      exact List.getElem?_set_ne fun (z : i = j) => hj (z ▸ hi i List.mem_cons_self)
theorem bg_tup {K : Fg} {vs is : List Nat} (hi : ∀ i ∈ is, i ∈ vs) : BG K vs (gTup K is.length (gNames is)) (bT is) := by
  intro σ H R ε d v ε' Q s e o b k
  cases o with
  | tup hs hz hd =>
    refine ⟨_, _, rfl, Same.sqt s hs, ?_, bgs_names hi σ H R ε _ _ ε' Q e hd b k⟩
    have : ∀ {is : List Nat} {ds : List D} {ε ε' : Ev}, bNs is ds ε = some ε' → ds.length = is.length := by
      intro is
      induction is with
      | nil => intro ds ε ε' h; cases ds with | nil => rfl | cons _ _ => cases h
      | cons i is ih => intro ds ε ε' h; cases ds with | nil => cases h | cons d ds => rw [List.length_cons, List.length_cons, ih h]
    rw [hd.length]; exact this b
  | _ => cases b

/-! ### list comprehensions -/
def wipeE (ε : Ev) : List Nat → Ev
  | [] => ε
  | v :: vs => (wipeE ε vs).set v none
theorem wipe_ok {K : Fg} {R : Hp} {σ : St} {ε : Ev} (e : EOk K R σ ε) : ∀ vs : List Nat, EOk K R (wipe σ vs) (wipeE ε vs)
  | [] => e
  | v :: vs => by
    have h := wipe_ok e vs
    refine ⟨by unfold wipe wipeE; simpa using h.len, fun j c q => ?_⟩
    unfold wipeE at q
    by_cases z : v = j
    · subst z
      by_cases hl : v < (wipeE ε vs).length
      · rw [List.getElem?_set_self hl] at q; cases q
      · rw [List.getElem?_eq_none (by simpa using hl)] at q; cases q
    · rw [List.getElem?_set_ne z] at q
      obtain ⟨u, h1, h2⟩ := h.at' j c q
      exact ⟨u, by unfold wipe; rw [List.getElem?_set_ne z]; exact h1, h2⟩
theorem wipe_get {σ : St} : ∀ {vs : List Nat} (j : Nat), j ∈ vs → j < σ.length → (wipe σ vs)[j]? = some none
  | [], j, h, _ => nomatch h
  | v :: vs, j, h, hl => by
    unfold wipe
    by_cases z : v = j
    · subst z; rw [List.getElem?_set_self (by rw [wipe_length]; exact hl)]
    · rw [List.getElem?_set_ne z]
      exact wipe_get j ((List.mem_cons.mp h).resolve_left fun e => z e.symm) hl
theorem wipe_same {σ σ' : St} {vs : List Nat} (l : σ'.length = σ.length) (h : ∀ (j : Nat), j ∉ vs → σ'[j]? = σ[j]?) : wipe σ' vs = wipe σ vs := by
  apply List.ext_getElem?
  intro j
  by_cases hj : j ∈ vs
  · by_cases hl : j < σ.length
    · rw [wipe_get j hj (l ▸ hl), wipe_get j hj hl]
    · rw [List.getElem?_eq_none (by rw [wipe_length]; omega), List.getElem?_eq_none (by rw [wipe_length]; omega)]
  · rw [wipe_out hj, wipe_out hj, h j hj]
inductive CR where
  | bad
  | ok (ds : List D) (μ : Mu)
def lleB : Lv → Lv → Bool
  | _, none => true
  | none, some _ => false
  | some a, some b => decide (a ≤ b)
theorem lleB_ok : ∀ {a b : Lv}, lleB a b = true → lle a b
  | none, none, _ => trivial
  | some _, none, _ => trivial
  | none, some _, h => nomatch h
  | some a, some b, h => by
    show a ≤ b
    simpa [lleB] using h
/-- the elements made of what is walked -/
def cRun (m : Lv) (b : D → Ev → Option Ev) (t : Ev → Mu → TR) (f : Ev → Mu → ER) (ε : Ev) : List D → Mu → CR
  | [], μ => .ok [] μ
  | d :: ds, μ => match b d ε with
    | none => .bad
    | some ε1 => match t ε1 μ with
      | .ok true μ1 => (match f ε1 μ1 with
        | .ok m' e μ2 => if lleB m m' then (match cRun m b t f ε ds μ2 with
          | .ok es μ3 => .ok (e :: es) μ3
          | .bad => .bad) else .bad
        | _ => .bad)
      | .ok false μ1 => cRun m b t f ε ds μ1
      | _ => .bad
def eLc (m : Lv) (vs : List Nat) (b : D → Ev → Option Ev) (g : Ev → Mu → GR) (t : Ev → Mu → TR) (f : Ev → Mu → ER) : Ev → Mu → ER := fun ε μ => match g ε μ with
  | .ok _ ds μ1 => (match cRun m b t f (wipeE ε vs) ds μ1 with
    | .ok es μ2 => .ok (up m) (.list es) μ2
    | .bad => .bad)
  | .bad => .bad
  | .rz c f => .rz c f
/-- no exception -/
def Zs.no (Z : Zs) : Zs := ⟨Z.ea, fun _ _ _ _ => False, Z.pv⟩
theorem cRun_len {m : Lv} {b : D → Ev → Option Ev} {t : Ev → Mu → TR} {f : Ev → Mu → ER} {ε : Ev} : ∀ {ds : List D} {μ μ' : Mu} {es : List D}, cRun m b t f ε ds μ = .ok es μ' → es.length ≤ ds.length
  | [], μ, μ', es, h => by
    simp only [cRun, CR.ok.injEq] at h
    rw [← h.1]; exact Nat.le_refl _
  | d :: ds, μ, μ', es, h => by
    unfold cRun at h
    split at h
    · cases h
    · split at h
      · split at h
        · split at h
          · split at h
            · rename_i q
              cases h
              rw [List.length_cons, List.length_cons]
              exact Nat.succ_le_succ (cRun_len q)
            · cases h
          · cases h
        · cases h
      · exact Nat.le_trans (cRun_len h) (Nat.le_succ _)
      · cases h
theorem Gr.upd {R H : Hp} {p : Addr} {o : HO} (s : Same R H) (h : R p = none) : Gr (fun a => a = p) R H R (upd H p o) where
  rr := Same.refl R
  rh := fun a u e => by
    have z : a ≠ p := fun z => by subst z; rw [h] at e; cases e
    rw [upd_ne z]; exact s a u e
  keep := fun a u hn e => by rw [upd_ne hn]; exact e
  new := fun a h => .inl h
theorem Same.noH {R H : Hp} {p : Addr} (s : Same R H) (h : H p = none) : R p = none := by
  cases q : R p with
  | none => rfl
  | some u => rw [s p u q] at h; cases h
section
variable {K : Fg} {Z : Zs} {δ : Option Nat} {wi : TI} {g : TG} {tt : TT} {te : TE} {vs : List Nat} {b : D → Ev → Option Ev} {gi : Ev → Mu → GR} {ft : Ev → Mu → TR} {fe : Ev → Mu → ER} {m : Lv}
theorem MOk.slots {R H : Hp} {σ σ' : St} {μ : Mu} {w : List Addr} (M : MOk K R H σ δ μ w) (h : ∀ j, δ = some j → σ'[j]? = σ[j]?) : MOk K R H σ' δ μ w := by
  match δ, μ, M, h with
  | some j, some (m, d), ⟨v, e, o⟩, h => exact ⟨v, (h j rfl).trans e, o⟩
  | none, _, M, _ => exact M
  | some j, none, M, _ => exact M
theorem se_lc (hδ : ∀ j, δ = some j → j ∉ vs) (hi : SG K Z δ wi gi) (hb : BG K vs g b) (ht : ST K Z.no δ tt ft) (he : SE K Z.no δ te fe) : SE K Z δ (tLc wi g tt te vs) (eLc m vs b gi ft fe) := by
  intro σ H R ε μ w Q s e M p
  refine hi σ H R ε μ w _ s e M ?_
  unfold eLc at p
  cases q : gi ε μ with
  | bad => rw [q] at p; exact p
  | rz c f => rw [q] at p; exact p
  | ok cl ds μ1 =>
    rw [q] at p
    dsimp only at p
    intro J H1 R1 w1 G1 M1 n1 k1 z1 D0 hD
    have k1 := k1.wk
    have fr1 : ∀ p, p ∈ w1 ∨ H1 p = none → p ∈ w ∨ H p = none := fun p hp => hp.elim (n1 p) fun z => (G1.back z).symm
    have p0 : EPost K Z σ δ w1 R1 H1 Q (match cRun m b ft fe (wipeE ε vs) ds μ1 with | .ok es μ2 => .ok (up m) (.list es) μ2 | .bad => .bad) := EPost.on p G1 n1
    -- the state at turn i: what is made, what is to come
    let W : Nat → Nat → Hp → Prop := fun i k H' => k = ds.length - i ∧ i ≤ ds.length ∧ ∃ R' w' μ' acc accD wa, Gr (fun a => a ∈ w1 ∨ a = D0) R1 H1 R' H' ∧ MOk K R' H' σ δ μ' w' ∧ (∀ p ∈ w', p ∈ w1 ∨ H1 p = none) ∧
      H' D0 = some (.lst acc) ∧ R' D0 = none ∧ D0 ∉ w' ∧ Ows K R' H' m acc accD wa ∧ D0 ∉ wa ∧ (∀ p ∈ wa, (p ∈ w1 ∨ H1 p = none) ∧ p ∉ w') ∧ accD.length ≤ i ∧
      EPost K Z σ δ w1 R1 H1 Q (match cRun m b ft fe (wipeE ε vs) (ds.drop i) μ' with | .ok es μ2 => .ok (up m) (.list (accD ++ es)) μ2 | .bad => .bad)
    refine ⟨W, ⟨ds.length, rfl, Nat.zero_le _, R1, w1, μ1, [], [], [], (Gr.laid G1.rh hD).mono fun _ z => z.elim, M1.keep (Gr.laid G1.rh hD) (fun _ _ z => z), fun p hp => .inl hp, upd_same, Same.noH G1.rh hD, fun z => (M1.out _ z).2 hD, .nil, fun z => (nomatch z), fun p hp => (nomatch hp), Nat.le_refl _, ?_⟩, ?_⟩
    · rw [List.drop_zero]
      simpa using p0
    rintro i k H2 ⟨rfl, hi', R2, w2, μ2, acc, accD, wa, G2, M2, n2, hD2, hR2, hw2, o2, hwa, na, la, p2⟩
    have sR : Same R1 R2 := G2.rr
    by_cases hlt : i < ds.length
    · refine .inr ⟨k1.go i H2 (sR.trans G2.rh) hlt, W (i + 1) (ds.length - (i + 1)), fun H' h => ⟨_, by omega, h⟩, fun x H3 y => ?_⟩
      obtain ⟨d, hd, Hy⟩ := k1.yld i H2 x H3 (sR.trans G2.rh) hlt y
      obtain ⟨R3, G3, dx⟩ := Hy R2 sR G2.rh
      have hdrop : ds.drop i = d :: ds.drop (i + 1) := by
        obtain ⟨h1, h2⟩ := List.getElem?_eq_some_iff.mp hd
        rw [List.drop_eq_getElem_cons h1, h2]
      rw [hdrop] at p2
      simp only [cRun] at p2
      cases qb : b d (wipeE ε vs) with
      | none => rw [qb] at p2; exact p2.elim
      | some ε1 =>
        rw [qb] at p2
        dsimp only at p2
        have e3 : EOk K R3 (wipe σ vs) (wipeE ε vs) := wipe_ok (e.mono (G1.rr.trans (sR.trans G3.rr))) vs
        refine hb (wipe σ vs) H3 R3 (wipeE ε vs) d x ε1 _ G3.rh e3 dx qb fun σ4 e4 l4 q4 => ?_
        have hw4 : wipe σ4 vs = wipe σ vs := by
          refine wipe_same (by rw [l4, wipe_length]) fun j hj => ?_
          rw [q4 j hj, wipe_out hj]
        refine ⟨hw4, ?_⟩
        have M4 : MOk K R3 H3 σ4 δ μ2 w2 := (M2.keep G3 fun _ _ z => z).slots fun j hj => by
          rw [q4 j (hδ j hj), wipe_out (hδ j hj)]
        have back : ∀ {μ' : Mu} {R' H' : Hp} {w' : List Addr}, MOk K R' H' σ4 δ μ' w' → MOk K R' H' σ δ μ' w' := fun {μ' R' H' w'} M => M.slots fun j hj => by
          rw [q4 j (hδ j hj), wipe_out (hδ j hj)]
        have hD3 : H3 D0 = some (.lst acc) := G3.keep _ _ (fun z => z) hD2
        have hR3 : R3 D0 = none := by
          by_cases z : R3 D0 = none
          · exact z
          · rcases G3.new _ z with z | z | z
            · exact absurd hR2 z
            · rw [hD2] at z; cases z
            · exact z.elim
        have o3 := Ows.keep o2 G3 fun _ _ z => z
        have G13 : Gr (fun a => a ∈ w1 ∨ a = D0) R1 H1 R3 H3 := G2.trans G3 fun _ z => z.elim
        have fr2 : ∀ {U : Addr → Prop} {R' H' : Hp} (G : Gr U R1 H1 R' H') (p : Addr), (p ∈ w1 ∨ H1 p = none) ∨ H' p = none → (U p → p ∈ w1 ∨ H1 p = none) → p ∈ w1 ∨ H1 p = none := fun G p hp hU => hp.elim id fun z => (G.back z).elim .inr hU
        refine ht σ4 H3 R3 ε1 μ2 w2 _ G3.rh e4 M4 ?_
        cases qt : ft ε1 μ2 with
        | bad => rw [qt] at p2; exact p2.elim
        | rz c f => rw [qt] at p2; exact p2.elim
        | ok bt μ3 =>
          rw [qt] at p2
          intro H4 R4 w4 G4 M5 n4
          have G14 : Gr (fun a => a ∈ w1 ∨ a = D0) R1 H1 R4 H4 := G13.trans G4 fun p hp => (n2 p hp).imp .inl id
          have hD4 : H4 D0 = some (.lst acc) := G4.keep _ _ hw2 hD3
          have hR4 : R4 D0 = none := by
            by_cases z : R4 D0 = none
            · exact z
            · rcases G4.new _ z with z | z | z
              · exact absurd hR3 z
              · rw [hD3] at z; cases z
              · exact absurd z hw2
          have o4 := Ows.keep o3 G4 fun p hp => (na p hp).2
          have w4D : D0 ∉ w4 := fun z => by
            rcases n4 _ z with z | z
            · exact hw2 z
            · rw [hD3] at z; cases z
          have n4' : ∀ p ∈ w4, p ∈ w1 ∨ H1 p = none := fun p hp => by
            rcases n4 p hp with z | z
            · exact n2 p z
            · rcases G13.back z with z | z | z
              · exact .inr z
              · exact .inl z
              · subst z; exact .inr hD
          have na4 : ∀ p ∈ wa, (p ∈ w1 ∨ H1 p = none) ∧ p ∉ w4 := fun p hp => ⟨(na p hp).1, fun z => by
            rcases n4 p z with z | z
            · exact (na p hp).2 z
            · exact (Ows.out o3 p hp).2 z⟩
          cases bt with
          | false =>
            rw [if_neg Bool.false_ne_true]
            exact ⟨rfl, hlt, R4, w4, μ3, acc, accD, wa, G14, back M5, n4', hD4, hR4, w4D, o4, hwa, na4, Nat.le_trans la (Nat.le_succ i), p2⟩
          | true =>
            rw [if_pos rfl]
            refine he σ4 H4 R4 ε1 μ3 w4 _ G4.rh (e4.mono G4.rr) M5 ?_
            dsimp only at p2
            cases qe : fe ε1 μ3 with
            | bad => rw [qe] at p2; exact p2.elim
            | rz c f => rw [qe] at p2; exact p2.elim
            | ok m' c μ5 =>
              rw [qe] at p2
              dsimp only at p2
              by_cases hm : lleB m m' = true
              · rw [if_pos hm] at p2
                intro v H5 R5 w5 wv G5 M6 o5 n5 n6
                have hD5 : H5 D0 = some (.lst acc) := G5.keep _ _ w4D hD4
                have hR5 : R5 D0 = none := by
                  by_cases z : R5 D0 = none
                  · exact z
                  · rcases G5.new _ z with z | z | z
                    · exact absurd hR4 z
                    · rw [hD4] at z; cases z
                    · exact absurd z w4D
                have o6 := Ows.keep o4 G5 fun p hp => (na4 p hp).2
                have G15 : Gr (fun a => a ∈ w1 ∨ a = D0) R1 H1 R5 H5 := G14.trans G5 fun p hp => (n4' p hp).imp .inl id
                have w5D : D0 ∉ w5 := fun z => by
                  rcases n5 _ z with z | z
                  · exact w4D z
                  · rw [hD4] at z; cases z
                have lift : ∀ p, p ∈ w4 ∨ H4 p = none → p ∈ w1 ∨ H1 p = none := fun p hp => by
                  rcases hp with z | z
                  · exact n4' p z
                  · rcases G14.back z with z | z | z
                    · exact .inr z
                    · exact .inl z
                    · subst z; exact .inr hD
                have wvD : D0 ∉ wv := fun z => by
                  rcases (n6 _ z).1 with z | z
                  · exact w4D z
                  · rw [hD4] at z; cases z
                have G6 : Gr (fun a => a = D0) R5 H5 R5 (upd H5 D0 (.lst (acc ++ [v]))) := Gr.upd G5.rh hR5
                have ap : ∀ p ∈ wa, p ∉ wv := fun p hp z => by
                  rcases (n6 _ z).1 with z | z
                  · exact (na4 p hp).2 z
                  · exact (Ows.out o4 p hp).2 z
                have lacc : acc.length = accD.length := Ows.length o2
                refine ⟨acc, hD5, ?_, rfl, hlt, R5, w5, μ5, acc ++ [v], accD ++ [c], wa ++ (wv ++ []), G15.trans G6 fun p hp => .inl (.inr hp), back (M6.keep G6 fun p hp z => w5D (z ▸ hp)), fun p hp => lift p (n5 p hp), upd_same, hR5, w5D,
                  Ows.app (Ows.keep o6 G6 fun p hp z => hwa (z ▸ hp)) (.cons ((o5.le (lleB_ok hm)).keep G6 fun p hp z => wvD (z ▸ hp)) .nil fun _ _ z => nomatch z) (by simpa using ap), ?_, ?_, ?_, ?_⟩
                · rw [lacc]
                  exact Nat.lt_of_lt_of_le (Nat.lt_of_le_of_lt la hlt) z1
                · intro z
                  rcases List.mem_append.mp z with z | z
                  · exact hwa z
                  · exact wvD (by simpa using z)
                · intro p hp
                  rcases List.mem_append.mp hp with hp | hp
                  · exact ⟨(na p hp).1, fun z => by
                      rcases n5 p z with z | z
                      · exact (na4 p hp).2 z
                      · exact (Ows.out o4 p hp).2 z⟩
                  · have hp : p ∈ wv := by simpa using hp
                    exact ⟨lift p (n6 p hp).1, (n6 p hp).2⟩
                · simpa using la
                · revert p2
                  cases cRun m b ft fe (wipeE ε vs) (ds.drop (i + 1)) μ5 with
                  | bad => exact id
                  | ok es μ6 => simp only [List.append_assoc, List.singleton_append]; exact id
              · rw [if_neg hm] at p2; exact p2.elim
    · have ei : i = ds.length := Nat.le_antisymm hi' (Nat.le_of_not_lt hlt)
      subst ei
      refine .inl ⟨k1.stop H2 (sR.trans G2.rh), ?_⟩
      rw [List.drop_length] at p2
      simp only [cRun, List.append_nil] at p2
      have lacc : acc.length = accD.length := Ows.length o2
      -- D0 is new since H1
      have G2' : Gr (Mem w1) R1 H1 R2 H2 := ⟨G2.rr, G2.rh, fun a o hn ha => G2.keep a o (fun z => z.elim hn fun z => by subst z; rw [hD] at ha; cases ha) ha, fun a ha => (G2.new a ha).imp id fun z => z.elim .inl fun z => z.elim .inr fun z => .inl (by subst z; exact hD)⟩
      refine p2 (.ref D0) H2 R2 w2 (D0 :: wa) G2' M2 (.lst hD2 hR2 hwa ?_ ?_) n2 fun p hp => ?_
      · rw [lacc]; exact Nat.le_trans la z1
      · rw [pd_up]; exact o2
      · rcases List.mem_cons.mp hp with rfl | hp
        · exact ⟨.inr hD, hw2⟩
        · exact na p hp
end
end VF
end
section
set_option Elab.async false
set_option linter.all false
set_option maxRecDepth 100000
set_option maxHeartbeats 2000000
namespace VF
open PySem PySem.Spec L2
open PyProof.Rows hiding St

/-! ### slots -/
inductive Slot where
  | no
  | fz (d : D)
  /-- b: the parameter's own value, as it came -/
  | ow (b : Bool) (m : Lv) (d : D)
abbrev Sl := List Slot
def SlOk (K : Fg) (u : V) (R H : Hp) (x : Option (Option V)) : Slot → List Addr → Prop
  | .no, w => w = []
  | .fz d, w => w = [] ∧ ∃ v, x = some (some v) ∧ DA K R v d
  | .ow b m d, w => ∃ v, x = some (some v) ∧ (b = true → v = u) ∧ Ow K R H m v d w
abbrev Fp := Nat → List Addr
def InF (fp : Fp) : Addr → Prop := fun p => ∃ i, p ∈ fp i
def fpS (fp : Fp) (i : Nat) (w : List Addr) : Fp := fun j => if j = i then w else fp j
theorem fpS_eq {fp : Fp} {i : Nat} {w : List Addr} : fpS fp i w i = w := if_pos rfl
theorem fpS_ne {fp : Fp} {i j : Nat} {w : List Addr} (h : j ≠ i) : fpS fp i w j = fp j := if_neg h
theorem InF.of {fp : Fp} {i : Nat} {p : Addr} (h : p ∈ fp i) : InF fp p := ⟨i, h⟩
theorem InF.fpS {fp : Fp} {i : Nat} {w : List Addr} {p : Addr} (h : InF (fpS fp i w) p) : p ∈ w ∨ InF fp p := by
  obtain ⟨j, hj⟩ := h
  by_cases z : j = i
  · subst z; rw [fpS_eq] at hj; exact .inl hj
  · rw [fpS_ne z] at hj; exact .inr ⟨j, hj⟩
structure Reps (K : Fg) (pv : Nat → V) (R H : Hp) (σ : St) (ρ : Sl) (fp : Fp) : Prop where
  le : Same R H
  len : ρ.length = σ.length
  at' : ∀ (i : Nat) (s : Slot), ρ[i]? = some s → SlOk K (pv i) R H σ[i]? s (fp i)
  em : ∀ i, ρ.length ≤ i → fp i = []
  dj : ∀ i j p, p ∈ fp i → p ∈ fp j → i = j
section
variable {K : Fg} {pv : Nat → V} {u : V} {R H R' H' : Hp} {σ : St} {ρ : Sl} {fp : Fp}
theorem SlOk.out {x : Option (Option V)} {s : Slot} {w : List Addr} (h : SlOk K u R H x s w) : ∀ p ∈ w, R p = none ∧ H p ≠ none := by
  cases s with
  | no => cases h; intro p hp; cases hp
  | fz d => obtain ⟨rfl, _⟩ := h; intro p hp; cases hp
  | ow b m d => obtain ⟨v, _, _, o⟩ := h; exact o.out
theorem Reps.out (r : Reps K pv R H σ ρ fp) : ∀ p, InF fp p → R p = none ∧ H p ≠ none := by
  rintro p ⟨i, hi⟩
  by_cases h : i < ρ.length
  · exact (r.at' i ρ[i] (by simp [h])).out p hi
  · rw [r.em i (Nat.le_of_not_lt h)] at hi; cases hi
theorem SlOk.mv {x : Option (Option V)} {s : Slot} {w : List Addr} (h : SlOk K u R H x s w) (sm : Same R R') (k : ∀ p ∈ w, H' p = H p ∧ R' p = none) : SlOk K u R' H' x s w := by
  cases s with
  | no => exact h
  | fz d => obtain ⟨e, v, h1, h2⟩ := h; exact ⟨e, v, h1, h2.mono sm⟩
  | ow b m d => obtain ⟨v, h1, hb, o⟩ := h; exact ⟨v, h1, hb, o.mv sm k⟩
/-- what a step leaves alone stands -/
theorem Gr.same {U : Addr → Prop} (G : Gr U R H R' H') {p : Addr} (h1 : R p = none) (h2 : H p ≠ none) (h : ¬ U p) : H' p = H p ∧ R' p = none := by
  refine ⟨?_, ?_⟩
  · cases e : H p with
    | none => exact absurd e h2
    | some u => exact G.keep p u h e
  · by_cases e : R' p = none
    · exact e
    · rcases G.new p e with z | z | z
      · exact absurd h1 z
      · exact absurd z h2
      · exact absurd z h
theorem Reps.keep {U : Addr → Prop} (r : Reps K pv R H σ ρ fp) (G : Gr U R H R' H') (h : ∀ p, InF fp p → ¬ U p) : Reps K pv R' H' σ ρ fp :=
  ⟨G.rh, r.len, fun i s e => (r.at' i s e).mv G.rr fun p hp => let ⟨a, b⟩ := r.out p ⟨i, hp⟩; G.same a b (h p ⟨i, hp⟩), r.em, r.dj⟩
/-- slot i is given a value of its own -/
theorem Reps.setO {i : Nat} {b : Bool} {v : V} {m : Lv} {d : D} {w : List Addr} (r : Reps K pv R H σ ρ fp) (hi : i < ρ.length) (hbv : b = true → v = pv i) (o : Ow K R H m v d w) (n : ∀ p ∈ w, ¬ InF fp p) : Reps K pv R H (σ.set i (some v)) (ρ.set i (.ow b m d)) (fpS fp i w) where
  le := r.le
  len := by simpa using r.len
  at' := fun j s e => by
    by_cases z : i = j
    · subst z
      rw [List.getElem?_set_self hi] at e
      cases e
      rw [fpS_eq, List.getElem?_set_self (by rw [← r.len]; exact hi)]
      exact ⟨v, rfl, hbv, o⟩
    · rw [List.getElem?_set_ne z] at e
      rw [fpS_ne (Ne.symm z), List.getElem?_set_ne z]
      exact r.at' j s e
  em := fun j hj => by
    have hj : ρ.length ≤ j := by simpa using hj
    rw [fpS_ne (by omega)]; exact r.em j hj
  dj := fun a b p ha hb => by
    by_cases za : a = i
    · by_cases zb : b = i
      · rw [za, zb]
      · subst za
        rw [fpS_eq] at ha
        rw [fpS_ne zb] at hb
        exact absurd ⟨b, hb⟩ (n p ha)
    · by_cases zb : b = i
      · subst zb
        rw [fpS_eq] at hb
        rw [fpS_ne za] at ha
        exact absurd ⟨a, ha⟩ (n p hb)
      · rw [fpS_ne za] at ha
        rw [fpS_ne zb] at hb
        exact r.dj a b p ha hb
/-- slot i is given frozen data -/
theorem Reps.setF {i : Nat} {v : V} {d : D} (r : Reps K pv R H σ ρ fp) (o : DA K R v d) : Reps K pv R H (σ.set i (some v)) (ρ.set i (.fz d)) (fpS fp i []) where
  le := r.le
  len := by simpa using r.len
  at' := fun j s e => by
    by_cases z : i = j
    · subst z
      by_cases hi : i < ρ.length
      · rw [List.getElem?_set_self hi] at e
        cases e
        rw [fpS_eq, List.getElem?_set_self (by rw [← r.len]; exact hi)]
        exact ⟨rfl, v, rfl, o⟩
      · rw [List.getElem?_eq_none (by simpa using hi)] at e; cases e
    · rw [List.getElem?_set_ne z] at e
      rw [fpS_ne (Ne.symm z), List.getElem?_set_ne z]
      exact r.at' j s e
  em := fun j hj => by
    by_cases z : j = i
    · subst z; exact fpS_eq
    · rw [fpS_ne z]; exact r.em j (by simpa using hj)
  dj := fun a b p ha hb => by
    by_cases za : a = i
    · subst za; rw [fpS_eq] at ha; cases ha
    · by_cases zb : b = i
      · subst zb; rw [fpS_eq] at hb; cases hb
      · rw [fpS_ne za] at ha
        rw [fpS_ne zb] at hb
        exact r.dj a b p ha hb
/-- what slot i holds is known no more -/
theorem Reps.forget {i : Nat} (r : Reps K pv R H σ ρ fp) : Reps K pv R H σ (ρ.set i .no) (fpS fp i []) where
  le := r.le
  len := by simpa using r.len
  at' := fun j s e => by
    by_cases z : i = j
    · subst z
      by_cases hi : i < ρ.length
      · rw [List.getElem?_set_self hi] at e
        cases e
        rw [fpS_eq]; rfl
      · rw [List.getElem?_eq_none (by simpa using hi)] at e; cases e
    · rw [List.getElem?_set_ne z] at e
      rw [fpS_ne (Ne.symm z)]
      exact r.at' j s e
  em := fun j hj => by
    by_cases z : j = i
    · subst z; exact fpS_eq
    · rw [fpS_ne z]; exact r.em j (by simpa using hj)
  dj := fun a b p ha hb => by
    by_cases za : a = i
    · subst za; rw [fpS_eq] at ha; cases ha
    · by_cases zb : b = i
      · subst zb; rw [fpS_eq] at hb; cases hb
      · rw [fpS_ne za] at ha
        rw [fpS_ne zb] at hb
        exact r.dj a b p ha hb
theorem Reps.outR (r : Reps K pv R H σ ρ fp) {p : Addr} {i : Nat} (h : p ∈ fp i) : R p = none := (r.out p ⟨i, h⟩).1
end

/-! ### an expression in a statement -/
def envF (bor : List Nat) : Nat → Sl → Ev
  | _, [] => []
  | n, s :: r => (match s with
    | .no => none
    | .fz d => some d
    | .ow _ _ d => if bor.contains n then some d else none) :: envF bor (n + 1) r
def frzF (bor : List Nat) : Nat → Sl → Sl
  | _, [] => []
  | n, s :: r => (match s with
    | .ow b m d => if bor.contains n then .fz d else .ow b m d
    | .no => .no
    | .fz d => .fz d) :: frzF bor (n + 1) r
theorem envF_len (bor : List Nat) : ∀ (n : Nat) (ρ : Sl), (envF bor n ρ).length = ρ.length
  | _, [] => rfl
  | n, s :: r => by
    show (envF bor (n + 1) r).length + 1 = r.length + 1
    rw [envF_len]
theorem frzF_len (bor : List Nat) : ∀ (n : Nat) (ρ : Sl), (frzF bor n ρ).length = ρ.length
  | _, [] => rfl
  | n, s :: r => by
    show (frzF bor (n + 1) r).length + 1 = r.length + 1
    rw [frzF_len]
theorem envF_get {bor : List Nat} : ∀ {n : Nat} {ρ : Sl} {i : Nat} {d : D}, (envF bor n ρ)[i]? = some (some d) → ρ[i]? = some (.fz d) ∨ ∃ b m, ρ[i]? = some (.ow b m d) ∧ bor.contains (n + i) = true
  | _, [], i, d, h => by simp [envF] at h
  | n, s :: r, 0, d, h => by
    simp only [envF, List.getElem?_cons_zero, Option.some.injEq] at h
    cases s with
    | no => cases h
    | fz e => cases h; exact .inl rfl
    | ow b m e =>
      dsimp only at h
      split at h
      · cases h; exact .inr ⟨b, m, rfl, by assumption⟩
      · cases h
  | n, s :: r, i + 1, d, h => by
    simp only [envF, List.getElem?_cons_succ] at h ⊢
    have := envF_get h
    rw [Nat.add_assoc, Nat.add_comm 1 i] at this
    exact this
theorem frzF_get {bor : List Nat} : ∀ {n : Nat} {ρ : Sl} {i : Nat} {s : Slot}, (frzF bor n ρ)[i]? = some s → ρ[i]? = some s ∧ (bor.contains (n + i) = true → ∀ b m d, s ≠ .ow b m d) ∨ ∃ b m d, ρ[i]? = some (.ow b m d) ∧ bor.contains (n + i) = true ∧ s = .fz d
  | _, [], i, s, h => by simp [frzF] at h
  | n, s :: r, 0, t, h => by
    simp only [frzF, List.getElem?_cons_zero, Option.some.injEq] at h
    cases s with
    | no => cases h; exact .inl ⟨rfl, fun _ _ _ _ z => nomatch z⟩
    | fz e => cases h; exact .inl ⟨rfl, fun _ _ _ _ z => nomatch z⟩
    | ow b m e =>
      dsimp only at h
      split at h
      · rename_i hb
        cases h; exact .inr ⟨b, m, e, rfl, hb, rfl⟩
      · rename_i hb
        cases h; exact .inl ⟨rfl, fun z => absurd z hb⟩
  | n, s :: r, i + 1, t, h => by
    simp only [frzF, List.getElem?_cons_succ] at h ⊢
    have := frzF_get h
    rw [Nat.add_assoc, Nat.add_comm 1 i] at this
    exact this
def slotMu : Option Slot → Mu
  | some (.ow _ m d) => some (m, d)
  | _ => none
def muOf (δ : Option Nat) (ρ : Sl) : Mu := δ.bind fun j => slotMu ρ[j]?
def ioOf : Option Slot → Bool
  | some (.ow b _ _) => b
  | _ => false
def setMu : Option Nat → Mu → Sl → Sl
  | some j, some (m, d), ρ => ρ.set j (.ow (ioOf ρ[j]?) m d)
  | _, _, ρ => ρ
/-- the changed list is wholly one's own -/
def cloMu : Mu → Bool
  | some (some _, _) => false
  | _ => true
def cloL : Lv → Bool
  | none => true
  | some _ => false
/-- the slot that may change holds a list of its own -/
def hasMu (δ : Option Nat) (μ : Mu) : Bool := match δ with
  | none => true
  | some _ => μ.isSome
inductive ES where
  | bad
  | ok (m : Lv) (d : D) (ρ : Sl)
  | rz (c : Str) (f : Option (Str × D))
def evS (bor : List Nat) (δ : Option Nat) (f : Ev → Mu → ER) (ρ : Sl) : ES :=
  if hasMu δ (muOf δ ρ) then (match f (envF bor 0 ρ) (muOf δ ρ) with
    | .ok m d μ' => if hasMu δ μ' then .ok m d (if cloL m && cloMu μ' then setMu δ μ' ρ else frzF bor 0 (setMu δ μ' ρ)) else .bad
    | .bad => .bad
    | .rz c f => .rz c f) else .bad
def VPost (K : Fg) (Z : Zs) (σ : St) (fp : Fp) (R H : Hp) (Q : VK) : ES → Prop
  | .bad => False
  | .ok m d ρ' => ∀ v H' R' fp' wv, Gr (InF fp) R H R' H' → Reps K Z.pv R' H' σ ρ' fp' → Ow K R' H' m v d wv → (∀ p, InF fp' p → InF fp p ∨ H p = none) → (∀ p ∈ wv, (InF fp p ∨ H p = none) ∧ ¬ InF fp' p) → Q v H'
  | .rz c f => RPost K Z σ (InF fp) R H c f

section
variable {K : Fg} {pv : Nat → V} {Z : Zs} {δ : Option Nat} {bor : List Nat} {σ : St} {ρ : Sl} {fp : Fp} {R H : Hp}
/-- the footprints of the slots that may be read -/
def Bor (bor : List Nat) (fp : Fp) : Addr → Prop := fun p => ∃ i, bor.contains i = true ∧ p ∈ fp i
theorem Bor.in {p : Addr} (h : Bor bor fp p) : InF fp p := let ⟨i, _, q⟩ := h; ⟨i, q⟩
theorem Reps.env (r : Reps K pv R H σ ρ fp) : EOk K (frzH R H (Bor bor fp)) σ (envF bor 0 ρ) := by
  refine ⟨by rw [envF_len, r.len]; exact Nat.le_refl _, fun i d h => ?_⟩
  rcases envF_get h with h | ⟨b, m, h, hb⟩
  · obtain ⟨_, v, h1, h2⟩ := r.at' i _ h
    exact ⟨v, h1, h2.mono (frzH_le r.le)⟩
  · obtain ⟨v, h1, _, o⟩ := r.at' i _ h
    rw [Nat.zero_add] at hb
    exact ⟨v, h1, o.frz (frzH_le r.le) fun p hp => frzH_in ⟨i, hb, hp⟩⟩
def wOf (δ : Option Nat) (fp : Fp) : List Addr := match δ with
  | some j => fp j
  | none => []
theorem wOf_in {p : Addr} (h : p ∈ wOf δ fp) : InF fp p := by
  cases δ with
  | none => cases h
  | some j => exact ⟨j, h⟩
theorem hasMu_get {j : Nat} (h : hasMu (some j) (muOf (some j) ρ) = true) : ∃ b m d, ρ[j]? = some (.ow b m d) := by
  have h : (slotMu ρ[j]?).isSome = true := h
  unfold slotMu at h
  split at h
  · exact ⟨_, _, _, by assumption⟩
  · cases h
theorem Reps.mu (r : Reps K pv R H σ ρ fp) (hm : hasMu δ (muOf δ ρ) = true) (hb : ∀ j, δ = some j → bor.contains j = false) : MOk K (frzH R H (Bor bor fp)) H σ δ (muOf δ ρ) (wOf δ fp) := by
  cases δ with
  | none => rfl
  | some j =>
    obtain ⟨b, m, d, e⟩ := hasMu_get hm
    · show MOk _ _ _ _ _ (slotMu ρ[j]?) _
      rw [e]
      obtain ⟨v, h1, _, o⟩ := r.at' j _ e
      refine ⟨v, h1, o.mv (frzH_le r.le) fun p hp => ⟨rfl, ?_⟩⟩
      rw [frzH_out]
      · exact r.outR hp
      · rintro ⟨i, hi, hp'⟩
        have : i = j := r.dj i j p hp' hp
        subst this
        rw [hb i rfl] at hi; cases hi
theorem wOf_nb (r : Reps K pv R H σ ρ fp) (hb : ∀ j, δ = some j → bor.contains j = false) {p : Addr} (h : p ∈ wOf δ fp) : ¬ Bor bor fp p := by
  cases δ with
  | none => cases h
  | some j =>
    rintro ⟨i, hi, hp'⟩
    have : i = j := r.dj i j p hp' h
    subst this
    rw [hb i rfl] at hi; cases hi
/-- from the evaluation's step to the statement's -/
theorem Gr.ofBor {R' H' : Hp} {w : List Addr} (s : Same R H) (hw : ∀ p ∈ w, InF fp p) (G : Gr (Mem w) (frzH R H (Bor bor fp)) H R' H') : Gr (InF fp) R H R' H' where
  rr := (frzH_le s).trans G.rr
  rh := G.rh
  keep := fun p o hn e => G.keep p o (fun z => hn (hw p z)) e
  new := fun p h => by
    rcases G.new p h with z | z | z
    · by_cases hb : Bor bor fp p
      · exact .inr (.inr hb.in)
      · rw [frzH_out hb] at z; exact .inl z
    · exact .inr (.inl z)
    · exact .inr (.inr (hw p z))
/-- .. where nothing of it stays frozen -/
theorem Gr.unbor {R' H' : Hp} {w : List Addr} (s : Same R H) (hR : ∀ p ∈ w, R p = none) (hw : ∀ p ∈ w, InF fp p) (G : Gr (Mem w) (frzH R H (Bor bor fp)) H R' H') : Gr (InF fp) R H R H' where
  rr := Same.refl R
  rh := fun p o e => G.keep p o (fun z => by rw [hR p z] at e; cases e) (s p o e)
  keep := fun p o hn e => G.keep p o (fun z => hn (hw p z)) e
  new := fun p h => .inl h
theorem setMu_get {j i : Nat} {μ : Mu} {s : Slot} (h : (setMu δ μ ρ)[i]? = some s) (hj : δ = some j) (z : i ≠ j) : ρ[i]? = some s := by
  subst hj
  match μ, h with
  | none, h => exact h
  | some (m, d), h =>
    unfold setMu at h
    rwa [List.getElem?_set_ne (Ne.symm z)] at h
theorem setMu_len {μ : Mu} : (setMu δ μ ρ).length = ρ.length := by
  match δ, μ with
  | none, _ => rfl
  | some j, none => rfl
  | some j, some (m, d) => simp [setMu]
/-- the slots behind an evaluation, all that was read one's own again -/
theorem Reps.unb {R' H' : Hp} {w' : List Addr} {μ' : Mu} (r : Reps K pv R H σ ρ fp) (hm : hasMu δ (muOf δ ρ) = true) (G : Gr (Mem (wOf δ fp)) (frzH R H (Bor bor fp)) H R' H') (M : MOk K R' H' σ δ μ' w') (hc : cloMu μ' = true) (hm' : hasMu δ μ' = true)
    (n1 : ∀ p ∈ w', p ∈ wOf δ fp ∨ H p = none) : ∃ fp', Reps K pv R H' σ (setMu δ μ' ρ) fp' ∧ (∀ p, InF fp' p → InF fp p ∨ H p = none) ∧ (∀ p, InF fp' p → p ∈ w' ∨ (InF fp p ∧ p ∉ wOf δ fp)) := by
  have G2 := Gr.unbor r.le (fun p hp => (r.out p (wOf_in hp)).1) (fun p hp => wOf_in hp) G
  cases δ with
  | none =>
    refine ⟨fp, ?_, fun p h => .inl h, fun p h => .inr ⟨h, fun z => nomatch z⟩⟩
    have : Gr (fun _ => False) R H R H' := ⟨G2.rr, G2.rh, fun p o _ e => G.keep p o (fun z => nomatch z) e, fun p h => .inl h⟩
    exact r.keep this fun _ _ z => z
  | some j =>
    obtain ⟨b0, m0, d0, e0⟩ := hasMu_get hm
    have hj : j < ρ.length := (List.getElem?_eq_some_iff.mp e0).1
    obtain ⟨v0, hv0, hbv0, _⟩ := r.at' j _ e0
    -- all but the slot j
    have r1 : Reps K pv R H' σ (ρ.set j .no) (fpS fp j []) := by
      have r0 := r.forget (i := j)
      refine ⟨G2.rh, r0.len, fun i s e => (r0.at' i s e).mv (Same.refl R) fun p hp => ?_, r0.em, r0.dj⟩
      obtain ⟨a, b⟩ := r0.out p ⟨i, hp⟩
      have hne : i ≠ j := fun z => by rw [z, fpS_eq] at hp; cases hp
      rw [fpS_ne hne] at hp
      have nw : p ∉ fp j := fun z => hne (r.dj i j p hp z)
      refine ⟨?_, a⟩
      cases e : H p with
      | none => exact absurd e b
      | some u => exact G.keep p u nw e
    match μ', M, hc, hm' with
    | some (none, d), ⟨v, h1, o⟩, _, _ =>
      have o2 : Ow K R H' none v d w' := o.all fun p hp => ⟨rfl, by
        rcases n1 p hp with z | z
        · exact (r.out p (wOf_in z)).1
        · exact Same.noH r.le z⟩
      have hn : ∀ p ∈ w', ¬ InF (fpS fp j []) p := fun p hp ⟨i, hi⟩ => by
        have hne : i ≠ j := fun z => by rw [z, fpS_eq] at hi; cases hi
        rw [fpS_ne hne] at hi
        rcases n1 p hp with z | z
        · exact hne (r.dj i j p hi z)
        · exact (r.out p ⟨i, hi⟩).2 z
      have hv : v = v0 := by
        rw [hv0] at h1
        cases h1; rfl
      have r2 := r1.setO (i := j) (b := b0) (by simpa using hj) (fun z => hv.trans (hbv0 z)) o2 hn
      have eσ : σ.set j (some v) = σ := by
        apply List.ext_getElem?
        intro k
        by_cases z : j = k
        · subst z
          rw [List.getElem?_set_self (by rw [← r.len]; exact hj), h1]
        · rw [List.getElem?_set_ne z]
      rw [eσ, List.set_set] at r2
      have es : setMu (some j) (some (none, d)) ρ = ρ.set j (.ow b0 none d) := by
        show ρ.set j (.ow (ioOf ρ[j]?) none d) = _
        rw [e0]; rfl
      rw [es]
      refine ⟨_, r2, fun p hp => ?_, fun p hp => ?_⟩
      · rcases hp.fpS with z | z
        · rcases n1 p z with z | z
          · exact .inl (wOf_in z)
          · exact .inr z
        · rcases z.fpS with z | z
          · cases z
          · exact .inl z
      · obtain ⟨i, hi⟩ := hp
        by_cases z : i = j
        · subst z; rw [fpS_eq] at hi; exact .inl hi
        · rw [fpS_ne z, fpS_ne z] at hi
          exact .inr ⟨⟨i, hi⟩, fun q => z (r.dj i j p hi q)⟩
/-- .. all that was read frozen -/
theorem Reps.fzb {R' H' : Hp} {w' : List Addr} {μ' : Mu} (r : Reps K pv R H σ ρ fp) (hb : ∀ j, δ = some j → bor.contains j = false) (G : Gr (Mem (wOf δ fp)) (frzH R H (Bor bor fp)) H R' H') (M : MOk K R' H' σ δ μ' w') (hm' : hasMu δ μ' = true)
    (n1 : ∀ p ∈ w', p ∈ wOf δ fp ∨ H p = none) : ∃ fp', Reps K pv R' H' σ (frzF bor 0 (setMu δ μ' ρ)) fp' ∧ (∀ p, InF fp' p → InF fp p ∨ H p = none) ∧ (∀ p, InF fp' p → p ∈ w' ∨ (InF fp p ∧ p ∉ wOf δ fp)) := by
  have sR : Same R R' := (frzH_le r.le).trans G.rr
  -- the new footprints
  let fp' : Fp := fun i => if bor.contains i = true then [] else if δ = some i then w' else fp i
  have f1 : ∀ {i}, bor.contains i = true → fp' i = [] := fun h => if_pos h
  have f2 : ∀ {i}, bor.contains i = false → δ = some i → fp' i = w' := fun {i} h h2 => by
    show (if bor.contains i = true then [] else if δ = some i then w' else fp i) = w'
    rw [if_neg (by rw [h]; exact Bool.false_ne_true), if_pos h2]
  have f3 : ∀ {i}, bor.contains i = false → δ ≠ some i → fp' i = fp i := fun {i} h h2 => by
    show (if bor.contains i = true then [] else if δ = some i then w' else fp i) = fp i
    rw [if_neg (by rw [h]; exact Bool.false_ne_true), if_neg h2]
  have nb : ∀ {i p}, bor.contains i = false → δ ≠ some i → p ∈ fp i → ¬ Bor bor fp p ∧ p ∉ wOf δ fp := fun {i p} h h2 hp => by
    refine ⟨?_, ?_⟩
    · rintro ⟨k, hk, hp'⟩
      have : k = i := r.dj k i p hp' hp
      subst this
      rw [h] at hk; cases hk
    · intro z
      cases δ with
      | none => cases z
      | some j =>
        have : j = i := r.dj j i p z hp
        subst this
        exact h2 rfl
  refine ⟨fp', ⟨G.rh, by rw [frzF_len, setMu_len]; exact r.len, fun i s e => ?_, fun i hi => ?_, fun i j p hi hj => ?_⟩, fun p hp => ?_, fun p hp => ?_⟩
  · rcases frzF_get e with ⟨e, hs⟩ | ⟨b, m, d, e1, hbi, rfl⟩
    · rw [Nat.zero_add] at hs
      by_cases hd : δ = some i
      · subst hd
        have hbi := hb i rfl
        rw [f2 hbi rfl]
        match μ', M, hm', e with
        | some (m, d), ⟨v, h1, o⟩, _, e =>
          unfold setMu at e
          by_cases hl : i < ρ.length
          · rw [List.getElem?_set_self hl] at e
            cases e
            refine ⟨v, h1, fun z => ?_, o⟩
            unfold ioOf at z
            split at z
            · rename_i b m0 d0 e0
              obtain ⟨v0, hv0, hb0, _⟩ := r.at' i _ e0
              rw [hv0] at h1
              cases h1
              exact hb0 z
            · cases z
          · rw [List.getElem?_eq_none (by simpa using hl)] at e; cases e
      · have e' : ρ[i]? = some s := by
          cases δ with
          | none => cases μ' <;> exact e
          | some j => exact setMu_get e rfl fun z => hd (by rw [z])
        have ok := r.at' i s e'
        by_cases hbi : bor.contains i = true
        · rw [f1 hbi]
          cases s with
          | no => rfl
          | fz d => obtain ⟨_, v, h1, h2⟩ := ok; exact ⟨rfl, v, h1, h2.mono sR⟩
          | ow b m d => exact absurd rfl (hs hbi b m d)
        · have hbi : bor.contains i = false := by simpa using hbi
          rw [f3 hbi hd]
          refine ok.mv sR fun p hp => ?_
          obtain ⟨a, b⟩ := r.out p ⟨i, hp⟩
          obtain ⟨c1, c2⟩ := nb hbi hd hp
          exact G.same (by rw [frzH_out c1]; exact a) b c2
    · rw [Nat.zero_add] at hbi
      have hd : δ ≠ some i := fun z => by
        have := hb i z
        rw [this] at hbi; cases hbi
      have e' : ρ[i]? = some (.ow b m d) := by
        cases δ with
        | none => cases μ' <;> exact e1
        | some j => exact setMu_get e1 rfl fun z => hd (by rw [z])
      obtain ⟨v, h1, _, o⟩ := r.at' i _ e'
      rw [f1 hbi]
      exact ⟨rfl, v, h1, (o.frz (frzH_le r.le) fun p hp => frzH_in ⟨i, hbi, hp⟩).mono G.rr⟩
  · rw [frzF_len, setMu_len] at hi
    by_cases hbi : bor.contains i = true
    · exact f1 hbi
    · have hbi : bor.contains i = false := by simpa using hbi
      by_cases hd : δ = some i
      · rw [f2 hbi hd]
        subst hd
        match μ', M, hm' with
        | some (m, d), ⟨v, h1, o⟩, _ =>
          have := (List.getElem?_eq_some_iff.mp h1).1
          rw [← r.len] at this
          exact absurd this (Nat.not_lt_of_le hi)
      · rw [f3 hbi hd]; exact r.em i hi
  · have key : ∀ {i}, p ∈ fp' i → bor.contains i = false ∧ ((δ = some i ∧ p ∈ w') ∨ (δ ≠ some i ∧ p ∈ fp i)) := fun {i} h => by
      by_cases hbi : bor.contains i = true
      · rw [f1 hbi] at h; cases h
      · have hbi : bor.contains i = false := by simpa using hbi
        refine ⟨hbi, ?_⟩
        by_cases hd : δ = some i
        · rw [f2 hbi hd] at h; exact .inl ⟨hd, h⟩
        · rw [f3 hbi hd] at h; exact .inr ⟨hd, h⟩
    obtain ⟨b1, k1⟩ := key hi
    obtain ⟨b2, k2⟩ := key hj
    have cross : ∀ {i j}, bor.contains j = false → δ = some i → δ ≠ some j → p ∈ w' → p ∈ fp j → False := fun {i j} hbj hd hd2 h1 h2 => by
      rcases n1 p h1 with z | z
      · exact (nb hbj hd2 h2).2 z
      · exact (r.out p ⟨j, h2⟩).2 z
    rcases k1 with ⟨d1, m1⟩ | ⟨d1, m1⟩
    · rcases k2 with ⟨d2, m2⟩ | ⟨d2, m2⟩
      · rw [d1] at d2; exact Option.some.inj d2
      · exact (cross b2 d1 d2 m1 m2).elim
    · rcases k2 with ⟨d2, m2⟩ | ⟨d2, m2⟩
      · exact (cross b1 d2 d1 m2 m1).elim
      · exact r.dj i j p m1 m2
  · obtain ⟨i, hi⟩ := hp
    by_cases hbi : bor.contains i = true
    · rw [f1 hbi] at hi; cases hi
    · have hbi : bor.contains i = false := by simpa using hbi
      by_cases hd : δ = some i
      · rw [f2 hbi hd] at hi
        rcases n1 p hi with z | z
        · exact .inl (wOf_in z)
        · exact .inr z
      · rw [f3 hbi hd] at hi; exact .inl ⟨i, hi⟩
  · obtain ⟨i, hi⟩ := hp
    by_cases hbi : bor.contains i = true
    · rw [f1 hbi] at hi; cases hi
    · have hbi : bor.contains i = false := by simpa using hbi
      by_cases hd : δ = some i
      · rw [f2 hbi hd] at hi; exact .inl hi
      · rw [f3 hbi hd] at hi; exact .inr ⟨⟨i, hi⟩, (nb hbi hd hi).2⟩
/-- behind an evaluation: what was read is one's own again (c), or frozen -/
theorem Reps.after {R' H' : Hp} {w' : List Addr} {μ' : Mu} (r : Reps K pv R H σ ρ fp) (hm : hasMu δ (muOf δ ρ) = true) (hb : ∀ j, δ = some j → bor.contains j = false) (G : Gr (Mem (wOf δ fp)) (frzH R H (Bor bor fp)) H R' H') (M : MOk K R' H' σ δ μ' w')
    (hm' : hasMu δ μ' = true) (n1 : ∀ p ∈ w', p ∈ wOf δ fp ∨ H p = none) (c : Bool) (hc : c = true → cloMu μ' = true) : ∃ R2 fp', Gr (InF fp) R H R2 H' ∧ Reps K pv R2 H' σ (if c = true then setMu δ μ' ρ else frzF bor 0 (setMu δ μ' ρ)) fp' ∧
      (c = false → R2 = R') ∧ (∀ p, InF fp' p → InF fp p ∨ H p = none) ∧ (∀ p, InF fp' p → p ∈ w' ∨ (InF fp p ∧ p ∉ wOf δ fp)) ∧ (c = true → ∀ p, p ∈ wOf δ fp ∨ H p = none → R2 p = none) := by
  cases c with
  | true =>
    obtain ⟨fp', r', a, b⟩ := r.unb hm G M (hc rfl) hm' n1
    refine ⟨R, fp', Gr.unbor r.le (fun p hp => (r.out p (wOf_in hp)).1) (fun p hp => wOf_in hp) G, by rw [if_pos rfl]; exact r', fun z => (nomatch z), a, b, fun _ p hp => ?_⟩
    rcases hp with z | z
    · exact (r.out p (wOf_in z)).1
    · exact Same.noH r.le z
  | false =>
    obtain ⟨fp', r', a, b⟩ := r.fzb hb G M hm' n1
    exact ⟨R', fp', Gr.ofBor r.le (fun p hp => wOf_in hp) G, by rw [if_neg Bool.false_ne_true]; exact r', fun _ => rfl, a, b, fun z => (nomatch z)⟩
theorem RPost.ofBor {c : Str} {f : Option (Str × D)} {w : List Addr} (s : Same R H) (hw : ∀ p ∈ w, InF fp p) (h : RPost K Z σ (InF fp) R H c f) : RPost K Z σ (Mem w) (frzH R H (Bor bor fp)) H c f := by
  cases f with
  | none => exact fun H' R' G => h H' R' (Gr.ofBor s hw G)
  | some q =>
    obtain ⟨n, d⟩ := q
    exact fun H' R' v dd G hv h1 hn => h H' R' v dd (Gr.ofBor s hw G) hv h1 (hn.imp (hw dd) id)
theorem cloL_none {m : Lv} (h : cloL m = true) : m = none := by
  cases m with
  | none => rfl
  | some _ => cases h
/-- THE RULE: an expression in a statement -/
theorem ev_ok {t : TE} {f : Ev → Mu → ER} {Q : VK} (h : SE K Z δ t f) (r : Reps K Z.pv R H σ ρ fp) (hb : ∀ j, δ = some j → bor.contains j = false) (p : VPost K Z σ fp R H Q (evS bor δ f ρ)) : t σ H Q := by
  unfold evS at p
  by_cases hm : hasMu δ (muOf δ ρ) = true
  · rw [if_pos hm] at p
    refine h σ H (frzH R H (Bor bor fp)) (envF bor 0 ρ) (muOf δ ρ) (wOf δ fp) Q (frzH_up r.le) r.env (r.mu hm hb) ?_
    cases q : f (envF bor 0 ρ) (muOf δ ρ) with
    | bad => rw [q] at p; exact p
    | rz c f => rw [q] at p; exact RPost.ofBor r.le (fun p hp => wOf_in hp) p
    | ok m d μ' =>
      rw [q] at p
      dsimp only at p
      by_cases hm' : hasMu δ μ' = true
      · rw [if_pos hm'] at p
        intro v H' R' w' wv G M o n1 n2
        obtain ⟨R2, fp', G2, r2, e2, a, b, c⟩ := r.after hm hb G M hm' n1 (cloL m && cloMu μ') fun z => (Bool.and_eq_true_iff.mp z).2
        have o2 : Ow K R2 H' m v d wv := by
          cases hc : (cloL m && cloMu μ') with
          | true =>
            have hl := cloL_none (Bool.and_eq_true_iff.mp hc).1
            subst hl
            exact o.all fun p hp => ⟨rfl, c hc p (n2 p hp).1⟩
          | false => rw [e2 hc]; exact o
        refine p v H' R2 fp' wv G2 r2 o2 a fun p hp => ⟨?_, fun z => ?_⟩
        · rcases (n2 p hp).1 with z | z
          · exact .inl (wOf_in z)
          · exact .inr z
        · rcases b p z with z | ⟨z, z2⟩
          · exact (n2 p hp).2 z
          · rcases (n2 p hp).1 with y | y
            · exact z2 y
            · exact (r.out p z).2 y
      · rw [if_neg hm'] at p; exact p.elim
  · rw [if_neg hm] at p; exact p.elim
end
inductive TS' where
  | bad
  | ok (b : Bool) (ρ : Sl)
  | rz (c : Str) (f : Option (Str × D))
def evT (bor : List Nat) (δ : Option Nat) (f : Ev → Mu → TR) (ρ : Sl) : TS' :=
  if hasMu δ (muOf δ ρ) then (match f (envF bor 0 ρ) (muOf δ ρ) with
    | .ok b μ' => if hasMu δ μ' then .ok b (if cloMu μ' then setMu δ μ' ρ else frzF bor 0 (setMu δ μ' ρ)) else .bad
    | .bad => .bad
    | .rz c f => .rz c f) else .bad
def BPost (K : Fg) (Z : Zs) (σ : St) (fp : Fp) (R H : Hp) (Q : Bool → Hp → Prop) : TS' → Prop
  | .bad => False
  | .ok b ρ' => ∀ H' R' fp', Gr (InF fp) R H R' H' → Reps K Z.pv R' H' σ ρ' fp' → (∀ p, InF fp' p → InF fp p ∨ H p = none) → Q b H'
  | .rz c f => RPost K Z σ (InF fp) R H c f
inductive GS where
  | bad
  | ok (c : Bool) (ds : List D) (ρ : Sl)
  | rz (c : Str) (f : Option (Str × D))
def evG (bor : List Nat) (δ : Option Nat) (f : Ev → Mu → GR) (ρ : Sl) : GS :=
  if hasMu δ (muOf δ ρ) then (match f (envF bor 0 ρ) (muOf δ ρ) with
    | .ok c ds μ' => if hasMu δ μ' then .ok c ds (if c && cloMu μ' then setMu δ μ' ρ else frzF bor 0 (setMu δ μ' ρ)) else .bad
    | .bad => .bad
    | .rz c f => .rz c f) else .bad
def IPost (K : Fg) (Z : Zs) (σ : St) (fp : Fp) (R H : Hp) (Q : It → Hp → Prop) : GS → Prop
  | .bad => False
  | .ok _ ds ρ' => ∀ J H' R' fp', Gr (InF fp) R H R' H' → Reps K Z.pv R' H' σ ρ' fp' → (∀ p, InF fp' p → InF fp p ∨ H p = none) → Wk K R' J ds → ds.length ≤ sizeLine → Q J H'
  | .rz c f => RPost K Z σ (InF fp) R H c f
section
variable {K : Fg} {pv : Nat → V} {Z : Zs} {δ : Option Nat} {bor : List Nat} {σ : St} {ρ : Sl} {fp : Fp} {R H : Hp}
theorem et_ok {t : TT} {f : Ev → Mu → TR} {Q : Bool → Hp → Prop} (h : ST K Z δ t f) (r : Reps K Z.pv R H σ ρ fp) (hb : ∀ j, δ = some j → bor.contains j = false) (p : BPost K Z σ fp R H Q (evT bor δ f ρ)) : t σ H Q := by
  unfold evT at p
  by_cases hm : hasMu δ (muOf δ ρ) = true
  · rw [if_pos hm] at p
    refine h σ H (frzH R H (Bor bor fp)) (envF bor 0 ρ) (muOf δ ρ) (wOf δ fp) Q (frzH_up r.le) r.env (r.mu hm hb) ?_
    cases q : f (envF bor 0 ρ) (muOf δ ρ) with
    | bad => rw [q] at p; exact p
    | rz c f => rw [q] at p; exact RPost.ofBor r.le (fun p hp => wOf_in hp) p
    | ok b μ' =>
      rw [q] at p
      dsimp only at p
      by_cases hm' : hasMu δ μ' = true
      · rw [if_pos hm'] at p
        intro H' R' w' G M n1
        obtain ⟨R2, fp', G2, r2, e2, a, b, c⟩ := r.after hm hb G M hm' n1 (cloMu μ') fun z => z
        exact p H' R2 fp' G2 r2 a
      · rw [if_neg hm'] at p; exact p.elim
  · rw [if_neg hm] at p; exact p.elim
theorem eg_ok {t : TI} {f : Ev → Mu → GR} {Q : It → Hp → Prop} (h : SG K Z δ t f) (r : Reps K Z.pv R H σ ρ fp) (hb : ∀ j, δ = some j → bor.contains j = false) (p : IPost K Z σ fp R H Q (evG bor δ f ρ)) : t σ H Q := by
  unfold evG at p
  by_cases hm : hasMu δ (muOf δ ρ) = true
  · rw [if_pos hm] at p
    refine h σ H (frzH R H (Bor bor fp)) (envF bor 0 ρ) (muOf δ ρ) (wOf δ fp) Q (frzH_up r.le) r.env (r.mu hm hb) ?_
    cases q : f (envF bor 0 ρ) (muOf δ ρ) with
    | bad => rw [q] at p; exact p
    | rz c f => rw [q] at p; exact RPost.ofBor r.le (fun p hp => wOf_in hp) p
    | ok cl ds μ' =>
      rw [q] at p
      dsimp only at p
      by_cases hm' : hasMu δ μ' = true
      · rw [if_pos hm'] at p
        intro J H' R' w' G M n1 k z
        obtain ⟨R2, fp', G2, r2, e2, a, b, c⟩ := r.after hm hb G M hm' n1 (cl && cloMu μ') fun z => (Bool.and_eq_true_iff.mp z).2
        refine p J H' R2 fp' G2 r2 a ?_ z
        cases hc : (cl && cloMu μ') with
        | true =>
          have hl := (Bool.and_eq_true_iff.mp hc).1
          subst hl
          exact k R2
        | false => rw [e2 hc]; exact k.wk
      · rw [if_neg hm'] at p; exact p.elim
  · rw [if_neg hm] at p; exact p.elim
end
end VF
end
section
set_option Elab.async false
set_option linter.all false
set_option maxRecDepth 100000
set_option maxHeartbeats 2000000
namespace VF
open PySem PySem.Spec L2
open PyProof.Rows hiding St

inductive SR where
  | bad
  | nx (ρ : Sl)
  | bk (ρ : Sl)
  | ct (ρ : Sl)
  | rt (m : Lv) (d : D) (ρ : Sl)
  | rz (c : Str) (f : Option (Str × D)) (ρ : Sl)
/-- a state behind a step -/
def Stp (K : Fg) (Z : Zs) (fp : Fp) (R H : Hp) (ρ' : Sl) (Q : St → Hp → Prop) : Prop := ∀ σ' H' R' fp', Gr (InF fp) R H R' H' → Reps K Z.pv R' H' σ' ρ' fp' → (∀ p, InF fp' p → InF fp p ∨ H p = none) → Q σ' H'
def SPost (K : Fg) (Z : Zs) (fp : Fp) (R H : Hp) (D' : Ends) : SR → Prop
  | .bad => False
  | .nx ρ' => Stp K Z fp R H ρ' D'.nx
  | .bk ρ' => Stp K Z fp R H ρ' D'.bk
  | .ct ρ' => Stp K Z fp R H ρ' D'.ct
  | .rt m d ρ' => ∀ v σ' H' R' fp' wv, Gr (InF fp) R H R' H' → Reps K Z.pv R' H' σ' ρ' fp' → (∀ p, InF fp' p → InF fp p ∨ H p = none) → Ow K R' H' m v d wv → (∀ p ∈ wv, (InF fp p ∨ H p = none) ∧ ¬ InF fp' p) → D'.rt v H'
  | .rz c f ρ' => ∀ σ' H' R' fp', Gr (InF fp) R H R' H' → Reps K Z.pv R' H' σ' ρ' fp' → (∀ p, InF fp' p → InF fp p ∨ H p = none) → RPost K Z σ' (InF fp') R' H' c f
def SS (K : Fg) (Z : Zs) (t : TS) (F : Sl → SR) : Prop := ∀ σ H R ρ fp D', Reps K Z.pv R H σ ρ fp → SPost K Z fp R H D' (F ρ) → t D' σ H
section
variable {K : Fg} {Z : Zs} {fp fp1 : Fp} {R H R1 H1 : Hp} {D' : Ends}
theorem Stp.on {ρ' : Sl} {Q : St → Hp → Prop} (h : Stp K Z fp R H ρ' Q) (G : Gr (InF fp) R H R1 H1) (n : ∀ p, InF fp1 p → InF fp p ∨ H p = none) : Stp K Z fp1 R1 H1 ρ' Q := fun σ' H' R' fp' G' r n' => by
  refine h σ' H' R' fp' (G.trans G' n) r fun p hp => ?_
  rcases n' p hp with z | z
  · exact n p z
  · exact (G.back z).symm
theorem SPost.on {r : SR} (h : SPost K Z fp R H D' r) (G : Gr (InF fp) R H R1 H1) (n : ∀ p, InF fp1 p → InF fp p ∨ H p = none) : SPost K Z fp1 R1 H1 D' r := by
  have fr : ∀ p, InF fp1 p ∨ H1 p = none → InF fp p ∨ H p = none := fun p hp => hp.elim (n p) fun z => (G.back z).symm
  cases r with
  | bad => exact h
  | nx ρ' => exact Stp.on h G n
  | bk ρ' => exact Stp.on h G n
  | ct ρ' => exact Stp.on h G n
  | rt m d ρ' => exact fun v σ' H' R' fp' wv G' r n' o n2 => h v σ' H' R' fp' wv (G.trans G' n) r (fun p hp => fr p (n' p hp)) o fun p hp => ⟨fr p (n2 p hp).1, (n2 p hp).2⟩
  | rz c f ρ' => exact fun σ' H' R' fp' G' r n' => h σ' H' R' fp' (G.trans G' n) r fun p hp => fr p (n' p hp)
/-- a new end -/
theorem SPost.ends {D2 : Ends} {r : SR} (h : SPost K Z fp R H D' r) (h1 : ∀ σ H, D'.nx σ H → D2.nx σ H) (h2 : ∀ σ H, D'.bk σ H → D2.bk σ H) (h3 : ∀ σ H, D'.ct σ H → D2.ct σ H) (h4 : ∀ v H, D'.rt v H → D2.rt v H) : SPost K Z fp R H D2 r := by
  cases r with
  | bad => exact h
  | nx ρ' => exact fun σ' H' R' fp' G r n => h1 _ _ (h σ' H' R' fp' G r n)
  | bk ρ' => exact fun σ' H' R' fp' G r n => h2 _ _ (h σ' H' R' fp' G r n)
  | ct ρ' => exact fun σ' H' R' fp' G r n => h3 _ _ (h σ' H' R' fp' G r n)
  | rt m d ρ' => exact fun v σ' H' R' fp' wv G r n o n2 => h4 _ _ (h v σ' H' R' fp' wv G r n o n2)
  | rz c f ρ' => exact h
theorem Stp.now {σ : St} {ρ : Sl} {Q : St → Hp → Prop} (h : Stp K Z fp R H ρ Q) (r : Reps K Z.pv R H σ ρ fp) : Q σ H := h σ H R fp (Gr.refl r.le) r fun _ hp => .inl hp
end

/-! ### one after the other -/
def sSq (F G : Sl → SR) : Sl → SR := fun ρ => match F ρ with
  | .nx ρ' => G ρ'
  | r => r
def sNx : Sl → SR := fun ρ => .nx ρ
def sBk : Sl → SR := fun ρ => .bk ρ
def sCt : Sl → SR := fun ρ => .ct ρ
def sIf (bor : List Nat) (δ : Option Nat) (c : Ev → Mu → TR) (F G : Sl → SR) : Sl → SR := fun ρ => match evT bor δ c ρ with
  | .ok true ρ' => F ρ'
  | .ok false ρ' => G ρ'
  | .bad => .bad
  | .rz c f => .rz c f ρ
/-- an evaluation, then what is done with it -/
def evB (e : ES) (ρ : Sl) (g : Lv → D → Sl → SR) : SR := match e with
  | .ok m d ρ' => g m d ρ'
  | .bad => .bad
  | .rz c f => .rz c f ρ
def sDrop (bor : List Nat) (δ : Option Nat) (f : Ev → Mu → ER) : Sl → SR := fun ρ => evB (evS bor δ f ρ) ρ fun _ _ ρ' => .nx ρ'
def sRet (bor : List Nat) (δ : Option Nat) (f : Ev → Mu → ER) : Sl → SR := fun ρ => evB (evS bor δ f ρ) ρ fun m d ρ' => .rt m d ρ'
def sRetN : Sl → SR := fun ρ => .rt none .none ρ
/-- a slot gets a value -/
def put (i : Nat) (m : Lv) (d : D) (ρ : Sl) : SR :=
  if scal d then .nx (ρ.set i (.fz d)) else match m with
    | some 0 => .nx (ρ.set i (.fz d))
    | m => if i < ρ.length then .nx (ρ.set i (.ow false m d)) else .bad
def sAsg (i : Nat) (bor : List Nat) (δ : Option Nat) (f : Ev → Mu → ER) : Sl → SR := fun ρ => evB (evS bor δ f ρ) ρ (put i)
/-- several names get the items of a tuple -/
def putS : List Nat → List D → Sl → Option Sl
  | [], [], ρ => some ρ
  | i :: is, d :: ds, ρ => putS is ds (ρ.set i (.fz d))
  | _, _, _ => none
def putT (is : List Nat) : Lv → D → Sl → SR
  | _, .tuple ds, ρ => match putS is ds ρ with
    | some ρ' => .nx ρ'
    | none => .bad
  | _, _, _ => .bad
def sAsgT (is : List Nat) (bor : List Nat) (δ : Option Nat) (f : Ev → Mu → ER) : Sl → SR := fun ρ => evB (evS bor δ f ρ) ρ (putT is)
/-- return a name's own value -/
def sRetV (i : Nat) : Sl → SR := fun ρ => match ρ[i]? with
  | some (.ow _ m d) => .rt m d (ρ.set i .no)
  | some (.fz d) => .rt (lv0 d) d ρ
  | _ => .bad
section
variable {K : Fg} {Z : Zs} {δ : Option Nat} {bor : List Nat}
theorem ss_nx : SS K Z tNext sNx := fun σ H R ρ fp D' r p => Stp.now p r
theorem ss_bk : SS K Z tBreak sBk := fun σ H R ρ fp D' r p => Stp.now p r
theorem ss_ct : SS K Z tCont sCt := fun σ H R ρ fp D' r p => Stp.now p r
theorem ss_seq {t u : TS} {F G : Sl → SR} (h : SS K Z t F) (h2 : SS K Z u G) : SS K Z (tSeq t u) (sSq F G) := by
  intro σ H R ρ fp D' r p
  refine h σ H R ρ fp _ r ?_
  unfold sSq at p
  cases q : F ρ with
  | nx ρ' =>
    rw [q] at p
    exact fun σ' H' R' fp' G r' n => h2 σ' H' R' ρ' fp' D' r' (SPost.on p G n)
  | bad => rw [q] at p; exact p
  | bk ρ' => rw [q] at p; exact p
  | ct ρ' => rw [q] at p; exact p
  | rt m d ρ' => rw [q] at p; exact p
  | rz c f ρ' => rw [q] at p; exact p
/-- an exception of an evaluation, as a statement's end -/
theorem rz_here {σ : St} {ρ : Sl} {fp : Fp} {R H : Hp} {D' : Ends} {c : Str} {f : Option (Str × D)} (r : Reps K Z.pv R H σ ρ fp) (p : SPost K Z fp R H D' (.rz c f ρ)) : RPost K Z σ (InF fp) R H c f := p σ H R fp (Gr.refl r.le) r fun _ hp => .inl hp
theorem ss_if {c : TT} {t u : TS} {fc : Ev → Mu → TR} {F G : Sl → SR} (hc : ST K Z δ c fc) (hb : ∀ j, δ = some j → bor.contains j = false) (h : SS K Z t F) (h2 : SS K Z u G) : SS K Z (tIfS c t u) (sIf bor δ fc F G) := by
  intro σ H R ρ fp D' r p
  refine et_ok hc r hb ?_
  unfold sIf at p
  cases q : evT bor δ fc ρ with
  | bad => rw [q] at p; exact p
  | rz c f => rw [q] at p; exact rz_here r p
  | ok b ρ' =>
    rw [q] at p
    intro H' R' fp' G r' n
    cases b with
    | true => exact h σ H' R' ρ' fp' D' r' (SPost.on p G n)
    | false => exact h2 σ H' R' ρ' fp' D' r' (SPost.on p G n)
/-- an evaluation in a statement -/
theorem ev_st {t : TE} {f : Ev → Mu → ER} {σ : St} {ρ : Sl} {fp : Fp} {R H : Hp} {D' : Ends} {Q : VK} {g : Lv → D → Sl → SR} (h : SE K Z δ t f) (hb : ∀ j, δ = some j → bor.contains j = false) (r : Reps K Z.pv R H σ ρ fp) (p : SPost K Z fp R H D' (evB (evS bor δ f ρ) ρ g))
    (k : ∀ m d ρ' v H' R' fp' wv, Gr (InF fp) R H R' H' → Reps K Z.pv R' H' σ ρ' fp' → Ow K R' H' m v d wv → (∀ p, InF fp' p → InF fp p ∨ H p = none) → (∀ p ∈ wv, (InF fp p ∨ H p = none) ∧ ¬ InF fp' p) → SPost K Z fp R H D' (g m d ρ') → Q v H') : t σ H Q := by
  refine ev_ok h r hb ?_
  unfold evB at p
  cases q : evS bor δ f ρ with
  | bad => rw [q] at p; exact p
  | rz c f => rw [q] at p; exact rz_here r p
  | ok m d ρ' => rw [q] at p; exact fun v H' R' fp' wv G r' o n1 n2 => k m d ρ' v H' R' fp' wv G r' o n1 n2 p
theorem ss_drop {t : TE} {f : Ev → Mu → ER} (h : SE K Z δ t f) (hb : ∀ j, δ = some j → bor.contains j = false) : SS K Z (tDrop t) (sDrop bor δ f) := by
  intro σ H R ρ fp D' r p
  exact ev_st h hb r p fun m d ρ' v H' R' fp' wv G r' o n1 n2 p' => p' σ H' R' fp' G r' n1
theorem ss_ret {t : TE} {f : Ev → Mu → ER} (h : SE K Z δ t f) (hb : ∀ j, δ = some j → bor.contains j = false) : SS K Z (tRet t) (sRet bor δ f) := by
  intro σ H R ρ fp D' r p
  exact ev_st h hb r p fun m d ρ' v H' R' fp' wv G r' o n1 n2 p' => p' v σ H' R' fp' wv G r' n1 o n2
theorem ss_retN : SS K Z tRetN sRetN := fun σ H R ρ fp D' r p => p .non σ H R fp [] (Gr.refl r.le) r (fun _ hp => .inl hp) (.sc .non rfl) fun _ hp => nomatch hp
/-- what was made is frozen -/
theorem Gr.frz {R H : Hp} {w : Addr → Prop} (s : Same R H) : Gr w R H (frzH R H w) H :=
  ⟨frzH_le s, frzH_up s, fun _ _ _ e => e, fun p h => by
    by_cases z : w p
    · exact .inr (.inr z)
    · rw [frzH_out z] at h; exact .inl h⟩
/-- .. in a statement -/
theorem frz_st {σ : St} {ρ' : Sl} {fp fp' : Fp} {R H R' H' : Hp} {m : Lv} {v : V} {d : D} {wv : List Addr} (G : Gr (InF fp) R H R' H') (r' : Reps K Z.pv R' H' σ ρ' fp') (o : Ow K R' H' m v d wv) (n2 : ∀ p ∈ wv, (InF fp p ∨ H p = none) ∧ ¬ InF fp' p) :
    Gr (InF fp) R H (frzH R' H' (Mem wv)) H' ∧ Reps K Z.pv (frzH R' H' (Mem wv)) H' σ ρ' fp' ∧ DA K (frzH R' H' (Mem wv)) v d := by
  have G2 : Gr (Mem wv) R' H' (frzH R' H' (Mem wv)) H' := Gr.frz r'.le
  exact ⟨G.trans G2 fun p hp => (n2 p hp).1, r'.keep G2 fun p hp z => (n2 p z).2 hp, o.frz (frzH_le r'.le) fun p hp => frzH_in hp⟩
theorem ss_put {i : Nat} {σ : St} {fp : Fp} {R H : Hp} {D' : Ends} {m : Lv} {d : D} {ρ' : Sl} {v : V} {H' R' : Hp} {fp' : Fp} {wv : List Addr} (G : Gr (InF fp) R H R' H') (r' : Reps K Z.pv R' H' σ ρ' fp') (o : Ow K R' H' m v d wv) (n1 : ∀ p, InF fp' p → InF fp p ∨ H p = none)
    (n2 : ∀ p ∈ wv, (InF fp p ∨ H p = none) ∧ ¬ InF fp' p) (p : SPost K Z fp R H D' (put i m d ρ')) : D'.nx (σ.set i (some v)) H' := by
  have frozen : SPost K Z fp R H D' (.nx (ρ'.set i (.fz d))) → D'.nx (σ.set i (some v)) H' := fun p => by
    obtain ⟨G2, r2, o2⟩ := frz_st G r' o n2
    refine p _ H' _ _ G2 (r2.setF o2) fun p hp => ?_
    rcases hp.fpS with z | z
    · cases z
    · exact n1 p z
  unfold put at p
  by_cases s : scal d = true
  · rw [if_pos s] at p; exact frozen p
  · rw [if_neg s] at p
    split at p
    · exact frozen p
    · by_cases hi : i < ρ'.length
      · rw [if_pos hi] at p
        refine p _ H' R' _ G (r'.setO hi (fun z => nomatch z) o fun p hp => (n2 p hp).2) fun p hp => ?_
        rcases hp.fpS with z | z
        · exact (n2 p z).1
        · exact n1 p z
      · rw [if_neg hi] at p; exact p.elim
theorem ss_asg {i : Nat} {t : TE} {f : Ev → Mu → ER} (h : SE K Z δ t f) (hb : ∀ j, δ = some j → bor.contains j = false) : SS K Z (tAsg t (gName i)) (sAsg i bor δ f) := by
  intro σ H R ρ fp D' r p
  exact ev_st h hb r p fun m d ρ' v H' R' fp' wv G r' o n1 n2 p' => ss_put G r' o n1 n2 p'
theorem puts_ok {H R H0 : Hp} {fp0 : Fp} {Q : St → Hp → Prop} : ∀ {is : List Nat} {σ : St} {ds : List D} {xs : List V} {ρ ρ' : Sl} {fp : Fp}, Reps K Z.pv R H σ ρ fp → DAs K R xs ds → putS is ds ρ = some ρ' →
    (∀ p, InF fp p → InF fp0 p ∨ H0 p = none) → (∀ σ' fp', Reps K Z.pv R H σ' ρ' fp' → (∀ p, InF fp' p → InF fp0 p ∨ H0 p = none) → Q σ' H) → gNames is xs σ H Q
  | [], σ, ds, xs, ρ, ρ', fp, r, o, e, n, k => by
    cases o with
    | nil => cases e; exact ⟨rfl, k σ fp r n⟩
    | cons _ _ => cases e
  | i :: is, σ, ds, xs, ρ, ρ', fp, r, o, e, n, k => by
    cases o with
    | nil => cases e
    | cons h t =>
      refine ⟨_, _, rfl, puts_ok (r.setF (i := i) h) t e (fun p hp => ?_) k⟩
      rcases hp.fpS with z | z
      · cases z
      · exact n p z
theorem putS_len : ∀ {is : List Nat} {ds : List D} {ρ ρ' : Sl}, putS is ds ρ = some ρ' → ds.length = is.length
  | [], [], _, _, _ => rfl
  | [], _ :: _, _, _, h => nomatch h
  | _ :: _, [], _, _, h => nomatch h
  | _ :: is, _ :: ds, _, _, h => by rw [List.length_cons, List.length_cons, putS_len (is := is) (ds := ds) h]
/-- several names get a tuple's items -/
theorem ss_putT {is : List Nat} {σ : St} {fp : Fp} {R H : Hp} {D' : Ends} {m : Lv} {d : D} {ρ' : Sl} {v : V} {H' R' : Hp} {fp' : Fp} {wv : List Addr} (G : Gr (InF fp) R H R' H') (r' : Reps K Z.pv R' H' σ ρ' fp') (o : Ow K R' H' m v d wv) (n1 : ∀ p, InF fp' p → InF fp p ∨ H p = none)
    (n2 : ∀ p ∈ wv, (InF fp p ∨ H p = none) ∧ ¬ InF fp' p) (p : SPost K Z fp R H D' (putT is m d ρ')) : gTup K is.length (gNames is) v σ H' D'.nx := by
  obtain ⟨G2, r2, o2⟩ := frz_st G r' o n2
  cases o2 with
  | tup hs hz hd =>
    rename_i ad xs ds
    have p2 : SPost K Z fp R H D' (match putS is ds ρ' with | some ρ' => .nx ρ' | none => .bad) := p
    cases q : putS is ds ρ' with
    | none => rw [q] at p2; exact p2.elim
    | some ρ2 =>
      rw [q] at p2
      refine ⟨_, _, rfl, Same.sqt r2.le hs, ?_, puts_ok r2 hd q n1 fun σ' fp2 r3 n3 => p2 σ' H' _ fp2 G2 r3 n3⟩
      rw [hd.length]; exact putS_len q
  | _ => exact p.elim
theorem ss_asgT {is : List Nat} {t : TE} {f : Ev → Mu → ER} (h : SE K Z δ t f) (hb : ∀ j, δ = some j → bor.contains j = false) : SS K Z (tAsg t (gTup K is.length (gNames is))) (sAsgT is bor δ f) := by
  intro σ H R ρ fp D' r p
  exact ev_st h hb r p fun m d ρ' v H' R' fp' wv G r' o n1 n2 p' => ss_putT G r' o n1 n2 p'
theorem ss_retV {i : Nat} : SS K Z (tRet (tVar i)) (sRetV i) := by
  intro σ H R ρ fp D' r p
  unfold sRetV at p
  split at p
  · rename_i b m d e
    obtain ⟨v, h1, _, o⟩ := r.at' i _ e
    refine ⟨v, h1, p v σ H R _ (fp i) (Gr.refl r.le) r.forget (fun p hp => ?_) o fun p hp => ⟨.inl ⟨i, hp⟩, ?_⟩⟩
    · rcases hp.fpS with z | z
      · cases z
      · exact .inl z
    · rintro ⟨j, hj⟩
      by_cases z : j = i
      · subst z; rw [fpS_eq] at hj; cases hj
      · rw [fpS_ne z] at hj; exact z (r.dj j i p hj hp)
  · rename_i d e
    obtain ⟨_, v, h1, o⟩ := r.at' i _ e
    exact ⟨v, h1, p v σ H R fp [] (Gr.refl r.le) r (fun _ hp => .inl hp) (ow_lv0 o) fun _ hp => nomatch hp⟩
  · exact p.elim
end

/-! ### loops -/
/-- one turn's target -/
def tgN (i : Nat) : D → Sl → Option Sl := fun d ρ => some (ρ.set i (.fz d))
def tgT (is : List Nat) : D → Sl → Option Sl
  | .tuple ds, ρ => putS is ds ρ
  | _, _ => none
def TGk (K : Fg) (Z : Zs) (g : TG) (b : D → Sl → Option Sl) : Prop :=
  ∀ σ H R ρ fp d v ρ' Q, Reps K Z.pv R H σ ρ fp → DA K R v d → b d ρ = some ρ' → (∀ σ' fp', Reps K Z.pv R H σ' ρ' fp' → (∀ p, InF fp' p → InF fp p) → Q σ' H) → g v σ H Q
def forR (b : D → Sl → Option Sl) (F : Sl → SR) : List D → Sl → SR
  | [], ρ => .nx ρ
  | d :: ds, ρ => match b d ρ with
    | none => .bad
    | some ρ1 => match F ρ1 with
      | .nx ρ2 => forR b F ds ρ2
      | .ct ρ2 => forR b F ds ρ2
      | .bk ρ2 => .nx ρ2
      | r => r
def sFor (bor : List Nat) (δ : Option Nat) (g : Ev → Mu → GR) (b : D → Sl → Option Sl) (F : Sl → SR) : Sl → SR := fun ρ => match evG bor δ g ρ with
  | .ok _ ds ρ' => forR b F ds ρ'
  | .bad => .bad
  | .rz c f => .rz c f ρ
section
variable {K : Fg} {Z : Zs} {δ : Option Nat} {bor : List Nat}
theorem tg_name {i : Nat} : TGk K Z (gName i) (tgN i) := by
  intro σ H R ρ fp d v ρ' Q r o e k
  cases e
  refine k _ _ (r.setF o) fun p hp => ?_
  rcases hp.fpS with z | z
  · cases z
  · exact z
theorem tg_tup {is : List Nat} : TGk K Z (gTup K is.length (gNames is)) (tgT is) := by
  intro σ H R ρ fp d v ρ' Q r o e k
  cases o with
  | tup hs hz hd =>
    refine ⟨_, _, rfl, Same.sqt r.le hs, by rw [hd.length]; exact putS_len e, puts_ok (H0 := H) (fp0 := fp) r hd e (fun p hp => .inl hp) fun σ' fp' r' n => k σ' fp' r' fun p hp => ?_⟩
    rcases n p hp with z | z
    · exact z
    · exact absurd z (r'.out p hp).2
  | _ => cases e
theorem ss_for {wi : TI} {g : TG} {tb : TS} {gi : Ev → Mu → GR} {b : D → Sl → Option Sl} {F : Sl → SR} (hi : SG K Z δ wi gi) (hb : ∀ j, δ = some j → bor.contains j = false) (hg : TGk K Z g b) (h : SS K Z tb F) : SS K Z (tFor wi g tb) (sFor bor δ gi b F) := by
  intro σ H R ρ fp D' r p
  refine eg_ok hi r hb ?_
  unfold sFor at p
  cases q : evG bor δ gi ρ with
  | bad => rw [q] at p; exact p
  | rz c f => rw [q] at p; exact rz_here r p
  | ok cl ds ρ1 =>
    rw [q] at p
    intro J H1 R1 fp1 G1 r1 n1 k1 z1
    dsimp only at p
    have p0 := SPost.on p G1 n1
    let W : Nat → Nat → St → Hp → Prop := fun i k σ' H' => k = ds.length - i ∧ i ≤ ds.length ∧ ∃ R' ρ' fp', Gr (InF fp1) R1 H1 R' H' ∧ Reps K Z.pv R' H' σ' ρ' fp' ∧ (∀ p, InF fp' p → InF fp1 p ∨ H1 p = none) ∧ SPost K Z fp1 R1 H1 D' (forR b F (ds.drop i) ρ')
    refine ⟨W, ⟨ds.length, rfl, Nat.zero_le _, R1, ρ1, fp1, Gr.refl r1.le, r1, fun p hp => .inl hp, by rw [List.drop_zero]; exact p0⟩, ?_⟩
    rintro i k σ2 H2 ⟨rfl, hi', R2, ρ2, fp2, G2, r2, n2, p2⟩
    by_cases hlt : i < ds.length
    · refine .inr ⟨k1.go i H2 (G2.rr.trans G2.rh) hlt, W (i + 1) (ds.length - (i + 1)), fun σ' H' h => ⟨_, by omega, h⟩, fun x H3 y => ?_⟩
      obtain ⟨d, hd, Hy⟩ := k1.yld i H2 x H3 (G2.rr.trans G2.rh) hlt y
      obtain ⟨R3, G3, dx⟩ := Hy R2 G2.rr G2.rh
      have hdrop : ds.drop i = d :: ds.drop (i + 1) := by
        obtain ⟨h1, h2⟩ := List.getElem?_eq_some_iff.mp hd
        rw [List.drop_eq_getElem_cons h1, h2]
      rw [hdrop] at p2
      simp only [forR] at p2
      have r3 : Reps K Z.pv R3 H3 σ2 ρ2 fp2 := r2.keep G3 fun _ _ z => z
      have G13 : Gr (InF fp1) R1 H1 R3 H3 := G2.trans G3 fun _ z => z.elim
      cases qb : b d ρ2 with
      | none => rw [qb] at p2; exact p2.elim
      | some ρ3 =>
        rw [qb] at p2
        dsimp only at p2
        refine hg σ2 H3 R3 ρ2 fp2 d x ρ3 _ r3 dx qb fun σ4 fp4 r4 n4 => ?_
        have n4' : ∀ p, InF fp4 p → InF fp1 p ∨ H1 p = none := fun p hp => n2 p (n4 p hp)
        have lift : ∀ {R' H' : Hp} {fp' : Fp} , Gr (InF fp4) R3 H3 R' H' → (∀ p, InF fp' p → InF fp4 p ∨ H3 p = none) → Gr (InF fp1) R1 H1 R' H' ∧ ∀ p, InF fp' p → InF fp1 p ∨ H1 p = none := fun {R' H' fp'} G n => by
          refine ⟨G13.trans G n4', fun p hp => ?_⟩
          rcases n p hp with z | z
          · exact n4' p z
          · exact (G13.back z).symm
        refine h σ4 H3 R3 ρ3 fp4 _ r4 ?_
        cases qF : F ρ3 with
        | bad => rw [qF] at p2; exact p2
        | nx ρ5 =>
          rw [qF] at p2
          intro σ' H' R' fp' G r' n
          obtain ⟨a, c⟩ := lift G n
          exact ⟨rfl, hlt, R', ρ5, fp', a, r', c, p2⟩
        | ct ρ5 =>
          rw [qF] at p2
          intro σ' H' R' fp' G r' n
          obtain ⟨a, c⟩ := lift G n
          exact ⟨rfl, hlt, R', ρ5, fp', a, r', c, p2⟩
        | bk ρ5 =>
          rw [qF] at p2
          intro σ' H' R' fp' G r' n
          obtain ⟨a, c⟩ := lift G n
          exact p2 σ' H' R' fp' a r' c
        | rt m d' ρ5 =>
          rw [qF] at p2
          exact SPost.on (r := .rt m d' ρ5) p2 G13 n4'
        | rz c f ρ5 =>
          rw [qF] at p2
          exact SPost.on (r := .rz c f ρ5) p2 G13 n4'
    · have ei : i = ds.length := Nat.le_antisymm hi' (Nat.le_of_not_lt hlt)
      subst ei
      rw [List.drop_length] at p2
      exact .inl ⟨k1.stop H2 (G2.rr.trans G2.rh), p2 σ2 H2 R2 fp2 G2 r2 n2⟩
/-- a while, so many turns at most -/
def whR (c : Sl → TS') (F : Sl → SR) : Nat → Sl → SR
  | 0, _ => .bad
  | n + 1, ρ => match c ρ with
    | .ok true ρ1 => (match F ρ1 with
      | .nx ρ2 => whR c F n ρ2
      | .ct ρ2 => whR c F n ρ2
      | .bk ρ2 => .nx ρ2
      | r => r)
    | .ok false ρ1 => .nx ρ1
    | .bad => .bad
    | .rz c f => .rz c f ρ
def sWh (n : Nat) (bor : List Nat) (δ : Option Nat) (c : Ev → Mu → TR) (F : Sl → SR) : Sl → SR := whR (evT bor δ c) F n
theorem ss_wh {n : Nat} {c : TT} {tb : TS} {fc : Ev → Mu → TR} {F : Sl → SR} (hc : ST K Z δ c fc) (hb : ∀ j, δ = some j → bor.contains j = false) (h : SS K Z tb F) : SS K Z (tWhile c tb) (sWh n bor δ fc F) := by
  intro σ H R ρ fp D' r p
  let W : Nat → St → Hp → Prop := fun k σ' H' => ∃ R' ρ' fp', Gr (InF fp) R H R' H' ∧ Reps K Z.pv R' H' σ' ρ' fp' ∧ (∀ p, InF fp' p → InF fp p ∨ H p = none) ∧ SPost K Z fp R H D' (whR (evT bor δ fc) F k ρ')
  refine ⟨W, ⟨n, R, ρ, fp, Gr.refl r.le, r, fun p hp => .inl hp, p⟩, ?_⟩
  rintro k σ2 H2 ⟨R2, ρ2, fp2, G2, r2, n2, p2⟩
  cases k with
  | zero => exact p2.elim
  | succ k =>
    simp only [whR] at p2
    refine et_ok hc r2 hb ?_
    cases q : evT bor δ fc ρ2 with
    | bad => rw [q] at p2; exact p2
    | rz c f =>
      rw [q] at p2
      exact p2 σ2 H2 R2 fp2 G2 r2 n2
    | ok b ρ3 =>
      rw [q] at p2
      intro H3 R3 fp3 G3 r3 n3
      have G13 : Gr (InF fp) R H R3 H3 := G2.trans G3 n2
      have n13 : ∀ p, InF fp3 p → InF fp p ∨ H p = none := fun p hp => by
        rcases n3 p hp with z | z
        · exact n2 p z
        · exact (G2.back z).symm
      cases b with
      | false =>
        rw [if_neg Bool.false_ne_true]
        exact p2 σ2 H3 R3 fp3 G13 r3 n13
      | true =>
        rw [if_pos rfl]
        dsimp only at p2
        refine ⟨W k, fun σ' H' h => ⟨k, Nat.lt_succ_self k, h⟩, h σ2 H3 R3 ρ3 fp3 _ r3 ?_⟩
        have lift : ∀ {R' H' : Hp} {fp' : Fp} , Gr (InF fp3) R3 H3 R' H' → (∀ p, InF fp' p → InF fp3 p ∨ H3 p = none) → Gr (InF fp) R H R' H' ∧ ∀ p, InF fp' p → InF fp p ∨ H p = none := fun {R' H' fp'} G n => by
          refine ⟨G13.trans G n13, fun p hp => ?_⟩
          rcases n p hp with z | z
          · exact n13 p z
          · exact (G13.back z).symm
        cases qF : F ρ3 with
        | bad => rw [qF] at p2; exact p2
        | nx ρ5 =>
          rw [qF] at p2
          intro σ' H' R' fp' G r' n
          obtain ⟨a, c⟩ := lift G n
          exact ⟨R', ρ5, fp', a, r', c, p2⟩
        | ct ρ5 =>
          rw [qF] at p2
          intro σ' H' R' fp' G r' n
          obtain ⟨a, c⟩ := lift G n
          exact ⟨R', ρ5, fp', a, r', c, p2⟩
        | bk ρ5 =>
          rw [qF] at p2
          intro σ' H' R' fp' G r' n
          obtain ⟨a, c⟩ := lift G n
          exact p2 σ' H' R' fp' a r' c
        | rt m d' ρ5 =>
          rw [qF] at p2
          exact SPost.on (r := .rt m d' ρ5) p2 G13 n13
        | rz c f ρ5 =>
          rw [qF] at p2
          exact SPost.on (r := .rz c f ρ5) p2 G13 n13
end
end VF
end
section
set_option Elab.async false
set_option linter.all false
set_option maxRecDepth 100000
set_option maxHeartbeats 2000000
namespace VF
open PySem PySem.Spec L2
open PyProof.Rows hiding St

/-! ### what evaluating leaves of a slot that is neither read nor changed -/
theorem frzF_keep {bor : List Nat} : ∀ {n : Nat} {ρ : Sl} {i : Nat} {s : Slot}, ρ[i]? = some s → bor.contains (n + i) = false → (frzF bor n ρ)[i]? = some s
  | _, [], i, s, h, _ => by simp at h
  | n, t :: r, 0, s, h, hb => by
    simp only [List.getElem?_cons_zero, Option.some.injEq] at h
    subst h
    have hb : bor.contains n = false := by simpa using hb
    cases t with
    | no => rfl
    | fz d => rfl
    | ow b m d => simp only [frzF, List.getElem?_cons_zero, hb]; rfl
  | n, t :: r, i + 1, s, h, hb => by
    simp only [frzF, List.getElem?_cons_succ] at h ⊢
    exact frzF_keep h (by rw [Nat.add_assoc, Nat.add_comm 1 i]; exact hb)
theorem setMu_keep {δ : Option Nat} {μ : Mu} {ρ : Sl} {i : Nat} {s : Slot} (h : ρ[i]? = some s) (hd : δ ≠ some i) : (setMu δ μ ρ)[i]? = some s := by
  match δ, μ, hd with
  | none, _, _ => cases μ <;> exact h
  | some j, none, _ => exact h
  | some j, some (m, d), hd =>
    show (ρ.set j _)[i]? = some s
    rw [List.getElem?_set_ne fun z => hd (by rw [z])]; exact h
theorem evS_keep {bor : List Nat} {δ : Option Nat} {f : Ev → Mu → ER} {ρ ρ' : Sl} {m : Lv} {d : D} {i : Nat} {s : Slot} (e : evS bor δ f ρ = .ok m d ρ') (h : ρ[i]? = some s) (hb : bor.contains i = false) (hd : δ ≠ some i) : ρ'[i]? = some s := by
  unfold evS at e
  split at e
  · split at e
    · split at e
      · cases e
        split
        · exact setMu_keep h hd
        · exact frzF_keep (setMu_keep h hd) (by simpa using hb)
      · cases e
    · cases e
    · cases e
  · cases e

/-! ### append -/
def owned : Lv → Bool
  | some 0 => false
  | _ => true
theorem Ow.isLst {K : Fg} {R H : Hp} {m : Lv} {v : V} {ds : List D} {w : List Addr} (o : Ow K R H m v (.list ds) w) (hm : owned m = true) : ∃ p vs w', v = .ref p ∧ w = p :: w' ∧ H p = some (.lst vs) ∧ R p = none ∧ p ∉ w' ∧ vs.length ≤ sizeLine ∧ Ows K R H (pd m) vs ds w' := by
  cases o with
  | fz h => cases hm
  | sc h s => cases s
  | lst a b c z t => exact ⟨_, _, _, rfl, rfl, a, b, c, z, t⟩
def appD (i : Nat) (m' : Lv) (d : D) (ρ : Sl) : SR := match ρ[i]? with
  | some (.ow b m (.list ds)) => if owned m && decide (ds.length < SZ) then .nx (ρ.set i (.ow b (lmin m (up m')) (.list (ds ++ [d])))) else .bad
  | _ => .bad
/-- name.append(e) -/
def sApp (i : Nat) (bor : List Nat) (δ : Option Nat) (f : Ev → Mu → ER) : Sl → SR := fun ρ => match ρ[i]? with
  | some (.ow _ m (.list _)) => if owned m then evB (evS bor δ f ρ) ρ (appD i) else .bad
  | _ => .bad
/-- name.append(other), the other's own list given away -/
def sAppV (i j : Nat) : Sl → SR := fun ρ => if i = j then .bad else match ρ[j]? with
  | some (.ow _ m d) => appD i m d (ρ.set j .no)
  | some (.fz d) => appD i (lv0 d) d ρ
  | _ => .bad
theorem Lv.app1 {m m' : Lv} : lle (pd (lmin m (up m'))) (pd m) := lle.pd lmin_l
theorem Lv.app2 {m m' : Lv} : lle (pd (lmin m (up m'))) m' := by
  have h : lle (pd (lmin m (up m'))) (pd (up m')) := lle.pd lmin_r
  rwa [pd_up] at h
section
variable {K : Fg} {Z : Zs} {δ : Option Nat} {bor : List Nat}
theorem app_st {i : Nat} {σ : St} {fp : Fp} {R H : Hp} {D' : Ends} {m' : Lv} {d : D} {ρ' : Sl} {y : V} {H' R' : Hp} {fp' : Fp} {wv : List Addr} (G : Gr (InF fp) R H R' H') (r' : Reps K Z.pv R' H' σ ρ' fp') (o : Ow K R' H' m' y d wv) (n1 : ∀ p, InF fp' p → InF fp p ∨ H p = none)
    (n2 : ∀ p ∈ wv, (InF fp p ∨ H p = none) ∧ ¬ InF fp' p) {v : V} (hv : σ[i]? = some (some v)) (p : SPost K Z fp R H D' (appD i m' d ρ')) : rAppend v [y] H' (fun _ H1 => D'.nx σ H1) := by
  unfold appD at p
  split at p
  · rename_i b m ds e
    by_cases hc : (owned m && decide (ds.length < SZ)) = true
    · rw [if_pos hc] at p
      obtain ⟨c1, c2⟩ := Bool.and_eq_true_iff.mp hc
      have c2 : ds.length < SZ := of_decide_eq_true c2
      obtain ⟨v', h1, hbv, o1⟩ := r'.at' i _ e
      have ev : v' = v := by
        rw [hv] at h1
        cases h1; rfl
      subst ev
      have hi : i < ρ'.length := (List.getElem?_eq_some_iff.mp e).1
      obtain ⟨q, vs, w', rfl, ew, hq, hR, hn, hz, os⟩ := o1.isLst c1
      have hl : vs.length = ds.length := Ows.length os
      refine ⟨q, vs, y, rfl, rfl, hq, by rw [hl]; exact sz_lt c2, ?_⟩
      -- the step
      have G2 : Gr (fun a => a = q) R' H' R' (upd H' q (.lst (vs ++ [y]))) := Gr.upd r'.le hR
      have qin : q ∈ fp' i := by rw [ew]; exact List.mem_cons_self
      have nq : ∀ p ∈ wv, p ≠ q := fun p hp z => (n2 p hp).2 (by subst z; exact ⟨i, qin⟩)
      have os2 := Ows.keep os G2 fun p hp z => hn (z ▸ hp)
      have o2 := o.keep G2 fun p hp z => nq p hp z
      have disj : ∀ p ∈ w', p ∉ wv := fun p hp hq => (n2 p hq).2 ⟨i, by rw [ew]; exact List.mem_cons_of_mem _ hp⟩
      have hnew : Ow K R' (upd H' q (.lst (vs ++ [y]))) (lmin m (up m')) (.ref q) (.list (ds ++ [d])) (q :: (w' ++ (wv ++ []))) := by
        refine .lst upd_same hR (fun z => ?_) ?_ (Ows.app (Ows.le Lv.app1 os2) (.cons (o2.le Lv.app2) .nil fun _ _ z => nomatch z) (by simpa using disj))
        · rcases List.mem_append.mp z with z | z
          · exact hn z
          · exact nq q (by simpa using z) rfl
        · rw [List.length_append, hl]
          exact sz_le (by rw [List.length_singleton]; exact c2)
      -- the other slots
      have r1 : Reps K Z.pv R' (upd H' q (.lst (vs ++ [y]))) σ (ρ'.set i .no) (fpS fp' i []) := (r'.forget (i := i)).keep G2 fun p hp z => by
        subst z
        obtain ⟨j, hj⟩ := hp
        by_cases z : j = i
        · subst z; rw [fpS_eq] at hj; cases hj
        · rw [fpS_ne z] at hj; exact z (r'.dj j i p hj qin)
      have r2 := r1.setO (i := i) (b := b) (by simpa using hi) hbv hnew fun p hp hin => by
        rcases List.mem_cons.mp hp with rfl | hp
        · obtain ⟨j, hj⟩ := hin
          by_cases z : j = i
          · subst z; rw [fpS_eq] at hj; cases hj
          · rw [fpS_ne z] at hj; exact z (r'.dj j i p hj qin)
        · obtain ⟨j, hj⟩ := hin
          by_cases z : j = i
          · subst z; rw [fpS_eq] at hj; cases hj
          · rw [fpS_ne z] at hj
            rcases List.mem_append.mp hp with hp | hp
            · exact z (r'.dj j i p hj (by rw [ew]; exact List.mem_cons_of_mem _ hp))
            · exact (n2 p (by simpa using hp)).2 ⟨j, hj⟩
      have eσ : σ.set i (some (.ref q)) = σ := by
        apply List.ext_getElem?
        intro k
        by_cases z : i = k
        · subst z
          rw [List.getElem?_set_self (by rw [← r'.len]; exact hi), hv]
        · rw [List.getElem?_set_ne z]
      rw [eσ, List.set_set] at r2
      refine p σ _ R' _ (G.trans G2 fun p hp => n1 p (by subst hp; exact ⟨i, qin⟩)) r2 fun p hp => ?_
      rcases hp.fpS with z | z
      · rcases List.mem_cons.mp z with rfl | z
        · exact n1 p ⟨i, qin⟩
        · rcases List.mem_append.mp z with z | z
          · exact n1 p ⟨i, by rw [ew]; exact List.mem_cons_of_mem _ z⟩
          · exact (n2 p (by simpa using z)).1
      · rcases z.fpS with z | z
        · cases z
        · exact n1 p z
    · rw [if_neg hc] at p; exact p.elim
  · exact p.elim
theorem ss_app {i : Nat} {t : TE} {f : Ev → Mu → ER} (h : SE K Z δ t f) (hb : ∀ j, δ = some j → bor.contains j = false) : SS K Z (tDrop (tBM K "list" rAppend (tVar i) (tCons t tNil))) (sApp i bor δ f) := by
  intro σ H R ρ fp D' r p
  unfold sApp at p
  split at p
  · rename_i b m ds e
    by_cases hm : owned m = true
    · rw [if_pos hm] at p
      obtain ⟨v, h1, _, o⟩ := r.at' i _ e
      obtain ⟨q, vs, w', rfl, ew, hq, hR, hn, hz, os⟩ := o.isLst hm
      refine ⟨.ref q, h1, .inl ⟨rfl, vs, SqL.of hq⟩, ?_⟩
      exact ev_st h hb r p fun m' d ρ' y H' R' fp' wv G r' o n1 n2 p' => app_st G r' o n1 n2 h1 p'
    · rw [if_neg hm] at p; exact p.elim
  · exact p.elim
theorem ss_appV {i j : Nat} : SS K Z (tDrop (tBM K "list" rAppend (tVar i) (tCons (tVar j) tNil))) (sAppV i j) := by
  intro σ H R ρ fp D' r p
  unfold sAppV at p
  by_cases hij : i = j
  · rw [if_pos hij] at p; exact p.elim
  · rw [if_neg hij] at p
    have lst : ∀ {ρ0 : Sl} {m' : Lv} {d : D}, (ρ0[i]? = ρ[i]?) → SPost K Z fp R H D' (appD i m' d ρ0) → ∃ b m ds, ρ[i]? = some (.ow b m (.list ds)) ∧ owned m = true := fun {ρ0 m' d} e p => by
      unfold appD at p
      rw [e] at p
      split at p
      · rename_i b m ds e2
        by_cases hc : (owned m && decide (ds.length < SZ)) = true
        · exact ⟨b, m, ds, e2, (Bool.and_eq_true_iff.mp hc).1⟩
        · rw [if_neg hc] at p; exact p.elim
      · exact p.elim
    split at p
    · rename_i bj m d e
      obtain ⟨b0, m0, ds0, e0, hm0⟩ := lst (List.getElem?_set_ne (Ne.symm hij)) p
      obtain ⟨v, h1, _, o⟩ := r.at' i _ e0
      obtain ⟨q, vs, w', rfl, ew, hq, hR, hn, hz, os⟩ := o.isLst hm0
      obtain ⟨y, h2, _, o2⟩ := r.at' j _ e
      refine ⟨.ref q, h1, .inl ⟨rfl, vs, SqL.of hq⟩, y, h2, ?_⟩
      refine app_st (Gr.refl r.le) (r.forget (i := j)) o2 (fun p hp => ?_) (fun p hp => ⟨.inl ⟨j, hp⟩, ?_⟩) h1 p
      · rcases hp.fpS with z | z
        · cases z
        · exact .inl z
      · rintro ⟨k, hk⟩
        by_cases z : k = j
        · subst z; rw [fpS_eq] at hk; cases hk
        · rw [fpS_ne z] at hk; exact z (r.dj k j p hk hp)
    · rename_i d e
      obtain ⟨b0, m0, ds0, e0, hm0⟩ := lst rfl p
      obtain ⟨v, h1, _, o⟩ := r.at' i _ e0
      obtain ⟨q, vs, w', rfl, ew, hq, hR, hn, hz, os⟩ := o.isLst hm0
      obtain ⟨_, y, h2, o2⟩ := r.at' j _ e
      refine ⟨.ref q, h1, .inl ⟨rfl, vs, SqL.of hq⟩, y, h2, ?_⟩
      exact app_st (Gr.refl r.le) r (ow_lv0 o2) (fun p hp => .inl hp) (fun p hp => nomatch hp) h1 p
    · exact p.elim
end
end VF
end
section
set_option Elab.async false
set_option linter.all false
set_option maxRecDepth 100000
set_option maxHeartbeats 2000000
namespace VF
open PySem PySem.Spec L2
open PyProof.Rows hiding St

/-! ### what a def of ours promises -/
/-- io: the place of the parameter whose list the def changes; n: how many parameters; M: what it hands back -/
def spV (K : Fg) (ea : Str → Addr) (io : Option Nat) (n : Nat) (M : Ev → Mu → ER) : Sp := fun vs H Q E => vs.length = n ∧ ∃ R ε μ w, ε.length = n ∧ Same R H ∧ EOk K R (vs.map some) ε ∧ hasMu io μ = true ∧ MOk K R H (vs.map some) io μ w ∧
  EPost K ⟨ea, fun c d _ H => E c d H, fun i => vs.getD i .non⟩ (vs.map some) io w R H Q (M ε μ)
theorem spV_len {K : Fg} {ea : Str → Addr} {io : Option Nat} {n : Nat} {M : Ev → Mu → ER} {ps : List Str} (h : ps.length = n) : ∀ vs H Q E, spV K ea io n M vs H Q E → vs.length = ps.length := fun vs H Q E q => q.1.trans h.symm

/-! ### arguments of a call of a def of ours -/
inductive IR where
  | bad
  | ok (os : Ev) (μ : Mu)
  | rz (c : Str) (f : Option (Str × D))
structure AOk (K : Fg) (R : Hp) (σ : St) (δ : Option Nat) (vs : List V) (os : Ev) : Prop where
  len : vs.length = os.length
  dat : ∀ (k : Nat) (d : D), os[k]? = some (some d) → ∃ v, vs[k]? = some v ∧ DA K R v d
  io : ∀ (k : Nat), os[k]? = some none → ∃ j v, δ = some j ∧ σ[j]? = some (some v) ∧ vs[k]? = some v
theorem AOk.mono {K : Fg} {R R' : Hp} {σ : St} {δ : Option Nat} {vs : List V} {os : Ev} (s : Same R R') (a : AOk K R σ δ vs os) : AOk K R' σ δ vs os :=
  ⟨a.len, fun k d e => let ⟨v, h1, h2⟩ := a.dat k d e; ⟨v, h1, h2.mono s⟩, a.io⟩
def UPost (K : Fg) (Z : Zs) (σ : St) (δ : Option Nat) (w : List Addr) (R H : Hp) (Q : List V → Hp → Prop) : IR → Prop
  | .bad => False
  | .ok os μ' => ∀ vs H' R' w', Gr (Mem w) R H R' H' → MOk K R' H' σ δ μ' w' → (∀ p ∈ w', p ∈ w ∨ H p = none) → AOk K R' σ δ vs os → Q vs H'
  | .rz c f => RPost K Z σ (Mem w) R H c f
def SU (K : Fg) (Z : Zs) (δ : Option Nat) (t : TA) (f : Ev → Mu → IR) : Prop :=
  ∀ σ H R ε μ w Q, Same R H → EOk K R σ ε → MOk K R H σ δ μ w → UPost K Z σ δ w R H Q (f ε μ) → t σ H Q
theorem UPost.on {K : Fg} {Z : Zs} {σ : St} {δ : Option Nat} {w w1 : List Addr} {R H R1 H1 : Hp} {Q : List V → Hp → Prop} {r : IR} (h : UPost K Z σ δ w R H Q r) (G : Gr (Mem w) R H R1 H1) (n : ∀ p ∈ w1, p ∈ w ∨ H p = none) : UPost K Z σ δ w1 R1 H1 Q r := by
  have fr : ∀ p, p ∈ w1 ∨ H1 p = none → p ∈ w ∨ H p = none := fun p hp => hp.elim (n p) fun z => (G.back z).symm
  cases r with
  | bad => exact h
  | rz c f => exact RPost.on h G n
  | ok os μ' => exact fun vs H' R' w' G' M n1 => h vs H' R' w' (G.trans G' n) M fun p hp => fr p (n1 p hp)
def uNil : Ev → Mu → IR := fun _ μ => .ok [] μ
def uRest (o : Option D) (fr : Ev → Mu → IR) (ε : Ev) (μ : Mu) : IR := match fr ε μ with
  | .ok os μ2 => .ok (o :: os) μ2
  | .bad => .bad
  | .rz c f => .rz c f
def uCons (fe : Ev → Mu → ER) (fr : Ev → Mu → IR) : Ev → Mu → IR := fun ε μ => match fe ε μ with
  | .ok _ d μ1 => uRest (some d) fr ε μ1
  | .bad => .bad
  | .rz c f => .rz c f
/-- the list that may change, handed on -/
def uIo (fr : Ev → Mu → IR) : Ev → Mu → IR := fun ε μ => if hasMu (some 0) μ then uRest none fr ε μ else .bad
section
variable {K : Fg} {Z : Zs} {δ : Option Nat}
theorem su_nil : SU K Z δ tNil uNil := fun σ H R ε μ w Q s e M p => p [] H R w (Gr.refl s) M (fun _ hp => .inl hp) ⟨rfl, fun k d h => by simp at h, fun k h => by simp at h⟩
theorem rest_ok {σ : St} {w : List Addr} {R H : Hp} {Q : List V → Hp → Prop} {tr : TA} {fr : Ev → Mu → IR} {ε : Ev} {μ : Mu} {o : Option D} {x : V} (hr : SU K Z δ tr fr) (s : Same R H) (e : EOk K R σ ε) (M : MOk K R H σ δ μ w)
    (hx : (∃ d, o = some d ∧ DA K R x d) ∨ (o = none ∧ ∃ j, δ = some j ∧ σ[j]? = some (some x))) (p : UPost K Z σ δ w R H Q (uRest o fr ε μ)) : tr σ H fun xs H2 => Q (x :: xs) H2 := by
  refine hr σ H R ε μ w _ s e M ?_
  unfold uRest at p
  cases q : fr ε μ with
  | bad => rw [q] at p; exact p
  | rz c f => rw [q] at p; exact p
  | ok os μ2 =>
    rw [q] at p
    intro vs H' R' w' G M' n1 a
    refine p (x :: vs) H' R' w' G M' n1 ⟨by rw [List.length_cons, List.length_cons, a.len], fun k d h => ?_, fun k h => ?_⟩
    · cases k with
      | zero =>
        simp only [List.getElem?_cons_zero, Option.some.injEq] at h
        rcases hx with ⟨d', e', h'⟩ | ⟨e', _⟩
        · rw [e'] at h; cases h
          exact ⟨x, rfl, h'.mono G.rr⟩
        · rw [e'] at h; cases h
      | succ k => exact a.dat k d (by simpa using h)
    · cases k with
      | zero =>
        simp only [List.getElem?_cons_zero, Option.some.injEq] at h
        rcases hx with ⟨d', e', h'⟩ | ⟨e', j, h1, h2⟩
        · rw [e'] at h; cases h
        · exact ⟨j, x, h1, h2, rfl⟩
      | succ k => exact a.io k (by simpa using h)
theorem su_cons {te : TE} {tr : TA} {fe : Ev → Mu → ER} {fr : Ev → Mu → IR} (he : SE K Z δ te fe) (hr : SU K Z δ tr fr) : SU K Z δ (tCons te tr) (uCons fe fr) := by
  intro σ H R ε μ w Q s e M p
  refine he.f s e M ?_
  unfold uCons at p
  cases q : fe ε μ with
  | bad => rw [q] at p; exact p
  | rz c f => rw [q] at p; exact p
  | ok m d μ1 =>
    rw [q] at p
    exact fun v H1 R1 w1 G M1 n1 o => rest_ok hr G.rh (e.mono G.rr) M1 (.inl ⟨d, rfl, o⟩) (UPost.on p G n1)
theorem su_io {j : Nat} {tr : TA} {fr : Ev → Mu → IR} (hr : SU K Z (some j) tr fr) : SU K Z (some j) (tCons (tVar j) tr) (uIo fr) := by
  intro σ H R ε μ w Q s e M p
  unfold uIo at p
  match μ, M, p with
  | none, _, p => exact p.elim
  | some (m, d), ⟨v, h1, o⟩, p => exact ⟨v, h1, rest_ok (μ := some (m, d)) hr s e (show MOk K R H σ (some j) (some (m, d)) w from ⟨v, h1, o⟩) (.inr ⟨rfl, j, rfl, h1⟩) p⟩
end

/-! ### a call -/
def eUser (io : Option Nat) (n : Nat) (M : Ev → Mu → ER) (fi : Ev → Mu → IR) : Ev → Mu → ER := fun ε μ => match fi ε μ with
  | .ok os μ1 => if os.length = n then (match io with
    | none => (match M os none with
      | .ok m d _ => .ok m d μ1
      | .bad => .bad
      | .rz c f => .rz c f)
    | some k => (match os[k]? with
      | some none => if hasMu io μ1 then M os μ1 else .bad
      | _ => .bad)) else .bad
  | .bad => .bad
  | .rz c f => .rz c f
theorem AOk.env {K : Fg} {R : Hp} {σ : St} {δ : Option Nat} {vs : List V} {os : Ev} (a : AOk K R σ δ vs os) : EOk K R (vs.map some) os :=
  ⟨by rw [List.length_map, a.len]; exact Nat.le_refl _, fun k d e => let ⟨v, h1, h2⟩ := a.dat k d e; ⟨v, by rw [List.getElem?_map, h1]; rfl, h2⟩⟩
section
variable {K : Fg} {Z : Zs} {δ : Option Nat}
/-- the callee's promise, asked by values -/
theorem user_ok {io : Option Nat} {n : Nat} {M : Ev → Mu → ER} {σ : St} {w : List Addr} {R H : Hp} {Q : VK} {vs : List V} {os : Ev} {μ1 : Mu} (s : Same R H) (Mo : MOk K R H σ δ μ1 w) (a : AOk K R σ δ vs os)
    (p : EPost K Z σ δ w R H Q (if os.length = n then (match io with
      | none => (match M os none with | .ok m d _ => .ok m d μ1 | .bad => .bad | .rz c f => .rz c f)
      | some k => (match os[k]? with | some none => if hasMu io μ1 then M os μ1 else .bad | _ => .bad)) else .bad)) : spV K Z.ea io n M vs H Q (WE Z.W σ) := by
  by_cases hn : os.length = n
  · rw [if_pos hn] at p
    refine ⟨a.len.trans hn, ?_⟩
    cases io with
    | none =>
      refine ⟨R, os, none, [], hn, s, a.env, rfl, rfl, ?_⟩
      dsimp only at p
      cases q : M os none with
      | bad => rw [q] at p; exact p
      | rz c f =>
        rw [q] at p
        cases f with
        | none => exact fun H' R' G => p H' R' (G.mono fun _ z => nomatch z)
        | some nd => exact fun H' R' v dd G hv h1 hn => p H' R' v dd (G.mono fun _ z => nomatch z) hv h1 (.inr (hn.resolve_left fun z => nomatch z))
      | ok m d μ2 =>
        rw [q] at p
        intro v H' R' w' wv G M' o n1 n2
        have G' : Gr (fun _ => False) R H R' H' := G.mono fun _ z => nomatch z
        refine p v H' R' w wv (G.mono fun _ z => nomatch z) (Mo.keep G' fun _ _ z => z) o (fun _ hp => .inl hp) fun p hp => ⟨.inr ((n2 p hp).1.resolve_left fun z => nomatch z), fun hq => ?_⟩
        exact (Mo.out p hq).2 ((n2 p hp).1.resolve_left fun z => nomatch z)
    | some k =>
      dsimp only at p
      cases qk : os[k]? with
      | none => rw [qk] at p; exact p.elim
      | some o =>
        cases o with
        | some d => rw [qk] at p; exact p.elim
        | none =>
          rw [qk] at p
          dsimp only at p
          by_cases hm : hasMu (some k) μ1 = true
          · rw [if_pos hm] at p
            obtain ⟨j, v, hj, h1, h2⟩ := a.io k qk
            subst hj
            match μ1, Mo, hm, p with
            | some (m0, d0), ⟨v', h1', o0⟩, hm, p =>
              have ev : v' = v := by
                rw [h1] at h1'
                cases h1'; rfl
              subst ev
              refine ⟨R, os, some (m0, d0), w, hn, s, a.env, hm, ⟨v', by rw [List.getElem?_map, h2]; rfl, o0⟩, ?_⟩
              cases q : M os (some (m0, d0)) with
              | bad => rw [q] at p; exact p
              | rz c f => rw [q] at p; cases f <;> exact p
              | ok m d μ2 =>
                rw [q] at p
                intro v2 H' R' w' wv G M' o n1 n2
                refine p v2 H' R' w' wv G ?_ o n1 n2
                match μ2, M' with
                | none, M' => exact M'
                | some (m2, d2), ⟨v3, h3, o3⟩ =>
                  rw [List.getElem?_map, h2] at h3
                  cases h3
                  exact ⟨v', h1', o3⟩
          · rw [if_neg hm] at p; exact p.elim
  · rw [if_neg hn] at p; exact p.elim
theorem se_user {io : Option Nat} {n : Nat} {M : Ev → Mu → ER} {t : TA} {fi : Ev → Mu → IR} (h : SU K Z δ t fi) : SE K Z δ (tCallS (spV K Z.ea io n M) (WE Z.W) t) (eUser io n M fi) := by
  intro σ H R ε μ w Q s e Mo p
  refine h σ H R ε μ w _ s e Mo ?_
  unfold eUser at p
  cases q : fi ε μ with
  | bad => rw [q] at p; exact p
  | rz c f => rw [q] at p; exact p
  | ok os μ1 =>
    rw [q] at p
    intro vs H1 R1 w1 G M1 n1 a
    exact user_ok G.rh M1 a (EPost.on p G n1)
/-- without arguments -/
def tCallS0 (sp : Sp) (E : St → XK) : TE := fun σ H Q => sp [] H Q (E σ)
theorem se_user0 {M : Ev → Mu → ER} : SE K Z δ (tCallS0 (spV K Z.ea none 0 M) (WE Z.W)) (eUser none 0 M uNil) := by
  intro σ H R ε μ w Q s e Mo p
  exact user_ok s Mo (vs := []) (os := []) ⟨rfl, fun k d h => by simp at h, fun k h => by simp at h⟩ p
end
section
variable {X : Cx} {CX : CXT} {k : Nat} {f : Addr} {fd : FuncData} {ps : List Str} {sp : Sp} {E : St → XK} {x : Str} {p pos : Pos} {e : Expr} {es : List Expr} {t : TA}
theorem pe_callS0 (F : FnOk X.prog X.w X.K X.mg X.base CX k f fd ps sp) (hr : Room k X.A) (hg : Gl X x) (hm : X.mg x = some (.ref f)) (hk : PySem.W.keepIn X.K (.ref f) = true) (hb : Binds X.K fd ps []) (hx : ∀ σ, PassesAt CX X σ (E σ))
    (hdb : (x == ("__debug__" : Str)) = false := by decide) : PE X (.Call (.Name x p) [] [] pos) (tCallS0 sp E) := by
  refine ⟨fun pins s σ H Q I h => ?_⟩
  refine wpAny_Call_Name_kw (ld_glob I hg hm ?_ hdb)
  exact PySem.W.callWith_K0 I.kIn hk (run_fnS (us := []) F hr hb (hx σ) I .nil h)
end

/-! ### a def's body keeps its promise -/
/-- the slots at the start -/
def arg0 (io : Option Nat) (μ : Mu) : Nat → Ev → Sl
  | _, [] => []
  | i, o :: r => (if io = some i then (match μ with
      | some (m, d) => .ow true m d
      | none => .no) else (match o with
      | some d => .fz d
      | none => .no)) :: arg0 io μ (i + 1) r
def retOf (io : Option Nat) (m : Lv) (d : D) (ρ : Sl) : ER := match io with
  | none => .ok m d none
  | some j => (match ρ[j]? with
    | some (.ow true mm dd) => .ok m d (some (mm, dd))
    | _ => .bad)
def retR (io : Option Nat) : SR → ER
  | .rt m d ρ => retOf io m d ρ
  | .nx ρ => retOf io none .none ρ
  | .rz c f _ => .rz c f
  | _ => .bad
def fpIo (io : Option Nat) (w : List Addr) : Fp := fun i => if io = some i then w else []
theorem fpIo_in {io : Option Nat} {w : List Addr} {p : Addr} : InF (fpIo io w) p → p ∈ w := fun ⟨i, h⟩ => by
  unfold fpIo at h
  by_cases hi : io = some i
  · rw [if_pos hi] at h; exact h
  · rw [if_neg hi] at h; cases h
theorem fpIo_of {j : Nat} {w : List Addr} {p : Addr} (h : p ∈ w) : InF (fpIo (some j) w) p := ⟨j, by unfold fpIo; rw [if_pos rfl]; exact h⟩
/-- a body F over N slots, as a def's end -/
def fnM (io : Option Nat) (N : Nat) (F : Sl → SR) : Ev → Mu → ER := fun ε μ => retR io (F (arg0 io μ 0 ε ++ List.replicate (N - ε.length) .no))
theorem arg0_len {io : Option Nat} {μ : Mu} : ∀ {i : Nat} {ε : Ev}, (arg0 io μ i ε).length = ε.length
  | _, [] => rfl
  | i, o :: r => by
    show (arg0 io μ (i + 1) r).length + 1 = r.length + 1
    rw [arg0_len]
theorem arg0_get {io : Option Nat} {μ : Mu} : ∀ {i j : Nat} {ε : Ev} {s : Slot}, (arg0 io μ i ε)[j]? = some s → ∃ o, ε[j]? = some o ∧ s = (if io = some (i + j) then (match μ with | some (m, d) => .ow true m d | none => .no) else (match o with | some d => .fz d | none => .no))
  | _, _, [], s, h => by simp [arg0] at h
  | i, 0, o :: r, s, h => by
    simp only [arg0, List.getElem?_cons_zero, Option.some.injEq] at h
    exact ⟨o, rfl, h.symm⟩
  | i, j + 1, o :: r, s, h => by
    simp only [arg0, List.getElem?_cons_succ] at h ⊢
    have := arg0_get h
    rw [Nat.add_assoc, Nat.add_comm 1 j] at this
    exact this
theorem start_get {N : List Str} {vs : List V} {i : Nat} {v : V} (h : vs[i]? = some v) : (L2.start N vs)[i]? = some (some v) := by
  unfold L2.start
  have hl := (List.getElem?_eq_some_iff.mp h).1
  rw [List.getElem?_append_left (by rw [List.length_map]; exact hl), List.getElem?_map, h]; rfl
theorem fn_reps {K : Fg} {R H : Hp} {vs : List V} {ε : Ev} {μ : Mu} {io : Option Nat} {w : List Addr} {N : List Str} (hN : vs.length ≤ N.length) (hl : vs.length = ε.length) (s : Same R H) (e : EOk K R (vs.map some) ε) (M : MOk K R H (vs.map some) io μ w) (hm : hasMu io μ = true) :
    Reps K (fun i => vs.getD i .non) R H (L2.start N vs) (arg0 io μ 0 ε ++ List.replicate (N.length - ε.length) .no) (fpIo io w) := by
  have sl : (L2.start N vs).length = N.length := by
    unfold L2.start
    rw [List.length_append, List.length_map, List.length_replicate]; omega
  refine ⟨s, ?_, fun i st h => ?_, fun i hi => ?_, fun i j p hi hj => ?_⟩
  · rw [sl, List.length_append, arg0_len, List.length_replicate]; omega
  · by_cases hi : i < ε.length
    · rw [List.getElem?_append_left (by rw [arg0_len]; exact hi)] at h
      obtain ⟨o, ho, hs⟩ := arg0_get h
      rw [Nat.zero_add] at hs
      by_cases hio : io = some i
      · subst hio
        rw [if_pos rfl] at hs
        match μ, M, hm, hs with
        | some (m, d), ⟨v, h1, o1⟩, _, hs =>
          subst hs
          rw [List.getElem?_map] at h1
          have hv : vs[i]? = some v := by
            cases q : vs[i]? with
            | none => rw [q] at h1; cases h1
            | some u => rw [q] at h1; cases h1; rfl
          show SlOk _ _ _ _ _ _ (if some i = some i then w else [])
          rw [if_pos rfl]
          exact ⟨v, start_get hv, fun _ => by rw [List.getD_eq_getElem?_getD, hv]; rfl, o1⟩
      · rw [if_neg hio] at hs
        show SlOk _ _ _ _ _ _ (if io = some i then w else [])
        rw [if_neg hio]
        cases o with
        | none => subst hs; rfl
        | some d =>
          subst hs
          obtain ⟨v, h1, h2⟩ := e.at' i d ho
          rw [List.getElem?_map] at h1
          have hv : vs[i]? = some v := by
            cases q : vs[i]? with
            | none => rw [q] at h1; cases h1
            | some u => rw [q] at h1; cases h1; rfl
          exact ⟨rfl, v, start_get hv, h2⟩
    · rw [List.getElem?_append_right (by rw [arg0_len]; omega), List.getElem?_replicate] at h
      split at h
      · cases h
        show (if io = some i then w else []) = []
        by_cases hio : io = some i
        · subst hio
          match μ, M, hm with
          | some (m, d), ⟨v, h1, o1⟩, _ =>
            have := (List.getElem?_eq_some_iff.mp h1).1
            rw [List.length_map] at this
            omega
        · rw [if_neg hio]
      · cases h
  · rw [List.length_append, arg0_len, List.length_replicate] at hi
    show (if io = some i then w else []) = []
    by_cases hio : io = some i
    · subst hio
      match μ, M, hm with
      | some (m, d), ⟨v, h1, o1⟩, _ =>
        have := (List.getElem?_eq_some_iff.mp h1).1
        rw [List.length_map] at this
        omega
    · rw [if_neg hio]
  · have key : ∀ {i : Nat}, p ∈ (if io = some i then w else []) → io = some i := fun {i} h => by
      by_cases hio : io = some i
      · exact hio
      · rw [if_neg hio] at h; cases h
    have a := key hi
    have b := key hj
    rw [a] at b; exact Option.some.inj b
section
variable {P : Program} {w0 : World} {K : Fg} {mg : Str → Option Value} {base : Heap}
/-- from the promise to the body's reading -/
theorem ss_start {vs : List V} {H : Hp} {Q : VK} {E : XK} {N ps : List Str} {ea : Str → Addr} {io : Option Nat} {n : Nat} {F : Sl → SR} {t : TS} (hn : ps.length = n) (hN : n ≤ N.length) (hio : ∀ j, io = some j → j < n)
    (hs : SS K ⟨ea, fun c d _ H => E c d H, fun i => vs.getD i .non⟩ t F) (h : spV K ea io n (fnM io N.length F) vs H Q E) : t { nx := fun _ H' => Q .non H', rt := Q } (L2.start N vs) H := by
  obtain ⟨hl, R, ε, μ, w, el, sm, e, hm, M, p⟩ := h
  have r := fn_reps (N := N) (by rw [hl]; exact hN) (hl.trans el.symm) sm e M hm
  refine hs (L2.start N vs) H R _ _ _ r ?_
  have inw : ∀ {p}, InF (fpIo io w) p → p ∈ w := fpIo_in
  unfold fnM at p
  -- a return
  have ret : ∀ {m : Lv} {d : D} {ρ' : Sl}, EPost K ⟨ea, fun c d _ H => E c d H, fun i => vs.getD i .non⟩ (vs.map some) io w R H Q (retOf io m d ρ') →
      ∀ v σ' H' R' fp' wv, Gr (InF (fpIo io w)) R H R' H' → Reps K (fun i => vs.getD i .non) R' H' σ' ρ' fp' → (∀ p, InF fp' p → InF (fpIo io w) p ∨ H p = none) → Ow K R' H' m v d wv →
        (∀ p ∈ wv, (InF (fpIo io w) p ∨ H p = none) ∧ ¬ InF fp' p) → Q v H' := by
    intro m d ρ' p v σ' H' R' fp' wv G r' n1 o n2
    have G' : Gr (Mem w) R H R' H' := G.mono fun _ z => inw z
    cases io with
    | none => exact p v H' R' [] wv G' rfl o (fun _ hp => nomatch hp) fun q hq => ⟨(n2 q hq).1.imp inw id, fun z => nomatch z⟩
    | some j =>
      unfold retOf at p
      dsimp only at p
      split at p
      · rename_i mm dd ej
        obtain ⟨u, h1, hb, o1⟩ := r'.at' j _ ej
        have hj := hio j rfl
        have hu : (vs.map some)[j]? = some (some u) := by
          rw [List.getElem?_map]
          have : j < vs.length := by rw [hl]; exact hj
          have e2 : vs[j]? = some vs[j] := List.getElem?_eq_getElem this
          have hb' := hb rfl
          rw [List.getD_eq_getElem?_getD, e2] at hb'
          rw [e2]
          show some (some vs[j]) = some (some u)
          rw [hb']; rfl
        exact p v H' R' (fp' j) wv G' ⟨u, hu, o1⟩ o (fun q hq => (n1 q ⟨j, hq⟩).imp inw id) fun q hq => ⟨(n2 q hq).1.imp inw id, fun z => (n2 q hq).2 ⟨j, z⟩⟩
      · exact p.elim
  generalize F (arg0 io μ 0 ε ++ List.replicate (N.length - ε.length) .no) = r0 at p ⊢
  cases r0 with
  | bad => exact p
  | nx ρ' => exact fun σ' H' R' fp' G r' n => ret (ρ' := ρ') p .non σ' H' R' fp' [] G r' n (.sc .non rfl) fun _ hp => nomatch hp
  | bk ρ' => exact p.elim
  | ct ρ' => exact p.elim
  | rt m d ρ' => exact fun v σ' H' R' fp' wv G r' n o n2 => ret (ρ' := ρ') p v σ' H' R' fp' wv G r' n o n2
  | rz c fl ρ' =>
    intro σ' H' R' fp' G r' n
    cases fl with
    | none => exact fun H2 R2 G2 => p H2 R2 ((G.trans G2 n).mono fun _ z => inw z)
    | some nd => exact fun H2 R2 v dd G2 hv h1 hn => p H2 R2 v dd ((G.trans G2 n).mono fun _ z => inw z) hv h1 ((hn.elim (n dd) fun z => (G.back z).symm).imp inw id)
/-- THE RULE for a def of ours -/
theorem fn_v {x qual : Str} {st : Stmt} {f : Addr} {fd : FuncData} {N ps : List Str} {k : Nat} {ea : Str → Addr} {io : Option Nat} {n : Nat} {F : Sl → SR} (Fu : Fun K x qual st f fd) (S : FnScope N ps (defScope st)) (hn : ps.length = n) (hN : n ≤ N.length) (hio : ∀ j, io = some j → j < n)
    (body : ∀ (cdv : Value) (A : Around) (outer : List Env) (s : Shared) (H : Hp) (E : XK) (pv : Nat → V), Room k (A.deeper (envOfC qual (defScope st) s.heap.objs.size f cdv)) →
      ∃ t, PSs (cxOf (L2.CX P w0) P w0 K mg base N qual (defScope st) f cdv A outer s H E) (defBody st) t ∧ SS K ⟨ea, fun c d _ H => E c d H, pv⟩ t F) : FnOk P w0 K mg base (L2.CX P w0) (k + 1) f fd ps (spV K ea io n (fnM io N.length F)) := by
  refine Fu.okX S (spV_len hn) fun cdv A outer s H vs Q E hr h => ?_
  obtain ⟨t, ht, hs⟩ := body cdv A outer s H E (fun i => vs.getD i .non) hr
  exact ⟨t, ht, ss_start hn hN hio hs h⟩
end
end VF
end
section
set_option Elab.async false
set_option linter.all false
set_option maxRecDepth 100000
set_option maxHeartbeats 2000000
/-! The layer's promise of a def, kept where nothing is being shown: repr of a list asks who else shows it. -/
namespace VF
open PySem PySem.Spec L2
open PyProof.Rows hiding St
/-- a def's promise, at calls around which no list is being shown -/
structure FnG (P : Program) (w : World) (K : Fg) (mg : Str → Option Value) (base : Heap) (k : Nat) (f : Addr) (fd : FuncData) (ps : List Str) (sp : Sp) : Prop where
  len : ∀ vs H Q E, sp vs H Q E → vs.length = ps.length
  run : ∀ (A : Around) (outer : List Env) (s : Shared) (H : Hp) (args : Args) (us : List Value) (vs : List V) (Q : VK) (E : XK), Room k A → A.guards = some [] → Env0 P w K mg base A outer s H → BindsTo s fd args (ps.zip us) →
    Vals vs us → sp vs H Q E → codeAny (model P w) A (.call (.ref f) args) (L2.CR (L2.CX P w) outer P w H s Q E) s
theorem FnG.mono {P : Program} {w : World} {K : Fg} {mg : Str → Option Value} {base : Heap} {j k : Nat} {f : Addr} {fd : FuncData} {ps : List Str} {sp : Sp} (F : FnG P w K mg base j f fd ps sp) (h : j ≤ k) : FnG P w K mg base k f fd ps sp :=
  ⟨F.len, fun A o s H a us vs Q E r => F.run A o s H a us vs Q E (r.mono h)⟩
theorem FnG.of {P : Program} {w : World} {K : Fg} {mg : Str → Option Value} {base : Heap} {k : Nat} {f : Addr} {fd : FuncData} {ps : List Str} {sp : Sp} (F : FnOk P w K mg base (L2.CX P w) k f fd ps sp) : FnG P w K mg base k f fd ps sp :=
  ⟨F.len, fun A o s H a us vs Q E r _ => F.run A o s H a us vs Q E r⟩
/-- a weaker promise -/
theorem FnG.imp {P : Program} {w : World} {K : Fg} {mg : Str → Option Value} {base : Heap} {k : Nat} {f : Addr} {fd : FuncData} {ps : List Str} {sp sp' : Sp} (F : FnG P w K mg base k f fd ps sp) (h : ∀ vs H Q E, sp' vs H Q E → sp vs H Q E) : FnG P w K mg base k f fd ps sp' :=
  ⟨fun vs H Q E q => F.len vs H Q E (h _ _ _ _ q), fun A o s H a us vs Q E r g e b v q => F.run A o s H a us vs Q E r g e b v (h _ _ _ _ q)⟩

/-! ### a body -/
section
variable {P : Program} {w : World} {K : Fg} {mg : Str → Option Value} {base : Heap}
theorem fng_of {x qual : Str} {st : Stmt} {f : Addr} {fd : FuncData} {N ps : List Str} {k : Nat} {sp : Sp} (Fu : Fun K x qual st f fd) (S : FnScope N ps (defScope st)) (len : ∀ vs H Q E, sp vs H Q E → vs.length = ps.length)
    (body : ∀ (cdv : Value) (A : Around) (outer : List Env) (s : Shared) (H : Hp) (vs : List V) (Q : VK) (E : XK), Room k (A.deeper (envOfC qual (defScope st) s.heap.objs.size f cdv)) → A.guards = some [] → sp vs H Q E →
      ∃ t, PSs (cxOf (L2.CX P w) P w K mg base N qual (defScope st) f cdv A outer s H E) (defBody st) t ∧ t { nx := fun _ H' => Q .non H', rt := Q } (L2.start N vs) H) : FnG P w K mg base (k + 1) f fd ps sp := by
  obtain ⟨oc, od, kV, doc, pm, an, cdv, ct, osl, rfl, lk, hcd⟩ := Fu.ex
  constructor
  · exact len
  intro A outer s H args us vs Q E hr hg e0 hb r hsp
  have old : ∀ b o, base.get? b = some o → s.heap.get? b = some o := fun b o e => (e0.bs b o e).1
  have KX := e0.mod.kin.keeps old
  refine codeAny_call_function hr.depth (KX _ _ lk) rfl S.co S.gen rfl (PySem.W.codeRec_of KX hcd) (hb _ _ _ _ ?_)
  have kinds : ∀ y ∈ ps.zip us, (defScope st).names.lookup y.1 = some .local ∨
      ((defScope st).names.lookup y.1 = some .cell ∧ ((cellsFrom (s.heap.objs.size + 1) (defScope st).names []).lookup y.1).isSome = true) := by
    rintro ⟨n, v⟩ hy
    exact (S.par n (List.of_mem_zip hy).1).imp id fun q => ⟨q, PySem.W.cellsFrom_some _ _ _ (.inl q)⟩
  refine wpAny_newFunctionEnv_cells S.kind kinds fun env he s1 y => ?_
  subst he
  obtain ⟨t, ht, hq⟩ := body cdv A outer s H vs Q E (hr.deeper _) hg hsp
  have I := inv_start (CX := L2.CX P w) (E := E) S hr.hd e0 (len _ _ _ _ hsp) r y
  refine ⟨(e0.mod.nolimit.keeps old).keeps y.toInCall.keep, codeAny_func ?_⟩
  refine wpAny_mono (ht.run [] s1 _ H _ I hq) ?_ fun _ _ z => z
  intro fl s' z
  cases fl with
  | brk => exact z.elim fun _ z => z.elim fun _ z => z.2.elim
  | cont => exact z.elim fun _ z => z.elim fun _ z => z.2.elim
  | next => exact z.elim fun σ' z => z.elim fun H' z => ⟨.non, H', z.1.os, z.1.bare, z.1.base, z.1.hok, rfl, z.2⟩
  | ret u => exact z.elim fun v z => z.elim fun σ' z => z.elim fun H' z => ⟨v, H', z.1.os, z.1.bare, z.1.base, z.1.hok, z.2.1, z.2.2⟩
/-- THE RULE for a def of ours -/
theorem fng_v {x qual : Str} {st : Stmt} {f : Addr} {fd : FuncData} {N ps : List Str} {k : Nat} {ea : Str → Addr} {io : Option Nat} {n : Nat} {F : Sl → SR} (Fu : Fun K x qual st f fd) (S : FnScope N ps (defScope st)) (hn : ps.length = n) (hN : n ≤ N.length) (hio : ∀ j, io = some j → j < n)
    (body : ∀ (cdv : Value) (A : Around) (outer : List Env) (s : Shared) (H : Hp) (E : XK) (pv : Nat → V), Room k (A.deeper (envOfC qual (defScope st) s.heap.objs.size f cdv)) → A.guards = some [] →
      ∃ t, PSs (cxOf (L2.CX P w) P w K mg base N qual (defScope st) f cdv A outer s H E) (defBody st) t ∧ SS K ⟨ea, fun c d _ H => E c d H, pv⟩ t F) : FnG P w K mg base (k + 1) f fd ps (spV K ea io n (fnM io N.length F)) := by
  refine fng_of Fu S (spV_len hn) fun cdv A outer s H vs Q E hr hg h => ?_
  obtain ⟨t, ht, hs⟩ := body cdv A outer s H E (fun i => vs.getD i .non) hr hg
  exact ⟨t, ht, ss_start hn hN hio hs h⟩
end

/-! ### a call -/
section
variable {X : Cx} {k : Nat} {f : Addr} {fd : FuncData} {ps : List Str} {sp : Sp} {E : St → XK} {x : Str} {p pos : Pos} {e : Expr} {es : List Expr} {t : TA}
theorem run_g {pins : List (Addr × Obj)} {σ : St} {H : Hp} {s : Shared} {Q : VK} {us : List Value} {vs : List V} (F : FnG X.prog X.w X.K X.mg X.base k f fd ps sp) (hr : Room k X.A) (hg : X.A.guards = some []) (hb : Binds X.K fd ps []) (hx : ∀ σ, PassesAt (L2.CX X.prog X.w) X σ (E σ))
    (I : Inv X pins σ H s) (r : Vals vs us) (h : sp vs H Q (E σ)) : wpAny (model X.prog X.w) X.A (call (.ref f) us) (EP X pins σ Q) X.xe s := by
  have b := hb s us I.kIn (by rw [List.append_nil, ← r.length]; exact F.len _ _ _ _ h)
  rw [List.append_nil] at b
  refine wpAny_call (codeAny_mono (F.run X.A X.stack s H _ us vs Q (E σ) hr hg I.env0 b r h) ?_)
  rintro (er | fl) s' z
  · exact hx σ pins H s er s' I z
  · cases fl with
    | ret u => exact I.after z
    | next => exact z.elim
    | brk => exact z.elim
    | cont => exact z.elim
theorem pe_callG (F : FnG X.prog X.w X.K X.mg X.base k f fd ps sp) (hr : Room k X.A) (hg : X.A.guards = some []) (gl : Gl X x) (hm : X.mg x = some (.ref f)) (hk : PySem.W.keepIn X.K (.ref f) = true) (hb : Binds X.K fd ps []) (hx : ∀ σ, PassesAt (L2.CX X.prog X.w) X σ (E σ))
    (ha : PA X (e :: es) t) (hdb : (x == ("__debug__" : Str)) = false := by decide) (he : starEach (e :: es) X.env = (false, eval e X.env) :: starEach es X.env := by rfl) (hpl : (backTo pos (starEach es X.env)).any (·.1) = false := by rfl) :
    PE X (.Call (.Name x p) (e :: es) [] pos) (tCallS sp E t) := by
  constructor
  intro pins s σ H Q I h
  refine wpAny_Call_Name_kw (ld_glob I gl hm ?_ hdb)
  refine PySem.W.callWith_K (h₀ := X.base) I.ok.mod.kin hk (thn (ha.run pos pins s σ H _ I h) ?_) he hpl
  rintro us s1 ⟨vs, H1, I1, r, q⟩
  exact ⟨I1.kIn, run_g F hr hg hb hx I1 r q⟩
theorem pe_callG0 (F : FnG X.prog X.w X.K X.mg X.base k f fd ps sp) (hr : Room k X.A) (hg : X.A.guards = some []) (gl : Gl X x) (hm : X.mg x = some (.ref f)) (hk : PySem.W.keepIn X.K (.ref f) = true) (hb : Binds X.K fd ps []) (hx : ∀ σ, PassesAt (L2.CX X.prog X.w) X σ (E σ))
    (hdb : (x == ("__debug__" : Str)) = false := by decide) : PE X (.Call (.Name x p) [] [] pos) (tCallS0 sp E) := by
  constructor
  intro pins s σ H Q I h
  exact wpAny_Call_Name_kw (ld_glob I gl hm (PySem.W.callWith_K0 I.kIn hk (run_g (us := []) F hr hg hb hx I .nil h)) hdb)
end

/-! ### repr -/
/- data that are shown: a bound of their signs -/
mutual
def wtD : D → Nat
  | .none => 4
  | .bool _ => 5
  | .int _ => 600
  | .str s => 2 + 10 * s.length
  | .list xs => 2 + wtDs xs
  | .tuple xs => 3 + wtDs xs
  | .dict _ => 0
def wtDs : List D → Nat
  | [] => 0
  | x :: xs => wtD x + 2 + wtDs xs
end
end VF
end
section
set_option Elab.async false
set_option linter.all false
set_option maxRecDepth 100000
set_option maxHeartbeats 2000000
namespace VF
open PySem PySem.Spec L2
open PyProof.Rows hiding St

/-! ### data of the layer's own kind -/
mutual
/-- no dict, no range, no exception within -/
def pln : D → Bool
  | .none => true
  | .bool _ => true
  | .int _ => true
  | .str _ => true
  | .list xs => plnAll xs
  | .tuple xs => plnAll xs
  | .dict _ => false
def plnAll : List D → Bool
  | [] => true
  | x :: xs => pln x && plnAll xs
end
section
variable {K : Fg} {R H : Hp}
mutual
theorem DA.dp (s : Same R H) : ∀ {v : V} {d : D}, DA K R v d → pln d = true → Dp K H v d
  | _, _, .non, _ => .non
  | _, _, .bl b, _ => .bl b
  | _, _, .int i, _ => .int i
  | _, _, .str x, _ => .str x
  | _, _, .lst h z a, p => .lst (s.seq h) (DAs.dp s a p)
  | _, _, .tup h z a, p => .tup (Same.sqt s h) (DAs.dp s a p)
theorem DAs.dp (s : Same R H) : ∀ {vs : List V} {ds : List D}, DAs K R vs ds → plnAll ds = true → DpAll K H vs ds
  | _, _, .nil, _ => .nil
  | _, _, .cons h t, p => .cons (DA.dp s h (Bool.and_eq_true_iff.mp p).1) (DAs.dp s t (Bool.and_eq_true_iff.mp p).2)
end
end

/-! ### + -/
def rCatG (K : Fg) : R2 := fun x y H Q => ∃ l b xs zs, x = .ref l ∧ y = .ref b ∧ SqL K H l xs ∧ SqL K H b zs ∧ xs.length + zs.length ≤ sizeLine ∧ ∀ p, H p = none → Q (.ref p) (upd H p (.lst (xs ++ zs)))
theorem op_catG {X : Cx} : OpR X (binaryOp .Add) (rCatG X.K) := by
  intro pins s σ H x y v u Q I rx ry h
  obtain ⟨l, b, xs, zs, rfl, rfl, hH, hB, hz, q⟩ := h
  cases rx
  cases ry
  obtain ⟨its, r, pl, _⟩ := I.list hH
  obtain ⟨its2, r2, pl2, _⟩ := I.list hB
  have e1 := r.length
  have e2 := r2.length
  obtain ⟨⟨c1, d1, t1, g1⟩, o1, hc1, n1, ht1⟩ := pl.isList
  obtain ⟨⟨c2, d2, t2, g2⟩, o2, hc2, n2, ht2⟩ := pl2.isList
  cases hc1
  cases hc2
  cases ht1
  cases ht2
  have hsz : its.toArray.size + its2.toArray.size ≤ sizeLine := by
    rw [List.size_toArray, List.size_toArray, ← e1, ← e2]
    exact hz
  have W := list_addW l b its.toArray its2.toArray n1 n2 d1 d2 g1 g2 hsz
  refine concat_meets ⟨_, o1, rfl⟩ ⟨_, o2, rfl⟩ noFill_list_add seq_list_add F.slot_list_add F.entry_list_add (F.args_list_add_2 _ _) W ⟨o1, o2, ?_⟩
  rw [show its.toArray ++ its2.toArray = (its ++ its2).toArray by simp]
  refine ⟨.ref _, _, I.lnew (t' := s.toks) (r.append r2) ?_, rfl, q _ I.fresh⟩
  rw [List.length_append]
  exact hz
def rAddI : R2 := rI0 fun i j => .int (i + j)
def rAddS : R2 := fun x y H Q => ∃ i j, x = .str i ∧ y = .str j ∧ i.length + j.length ≤ sizeLine ∧ Q (.str (i ++ j)) H
def rAddG (K : Fg) : R2 := fun x y H Q => rAddI x y H Q ∨ rAddS x y H Q ∨ rCatG K x y H Q
theorem op_addG {X : Cx} : OpR X (binaryOp .Add) (rAddG X.K) := op_add.or (op_add_str.or op_catG)
def addD : Op2
  | .int i, .int j => some (none, .int (i + j))
  | .str a, .str b => if a.length + b.length ≤ SZ then some (none, .str (a ++ b)) else none
  | .list a, .list b => if a.length + b.length ≤ SZ then some (some 1, .list (a ++ b)) else none
  | _, _ => none
section
variable {K : Fg}
theorem DAs.ows {R H : Hp} : ∀ {vs : List V} {ds : List D}, DAs K R vs ds → Ows K R H (some 0) vs ds []
  | _, _, .nil => .nil
  | _, _, .cons h t => .cons (w := []) (u := []) (.fz h) (DAs.ows t) fun _ z => nomatch z
/-- a new list of frozen things -/
theorem RPostD.list {R H : Hp} {Q : VK} {vs : List V} {ds : List D} (s : Same R H) (o : DAs K R vs ds) (z : vs.length ≤ sizeLine) (p : RPostD K R H Q (some (some 1, .list ds))) : ∀ a, H a = none → Q (.ref a) (upd H a (.lst vs)) := by
  intro a ha
  have G := Gr.laid (o := .lst vs) s ha
  have hn : R a = none := Same.noH s ha
  refine p _ _ R [a] G (.lst upd_same hn (fun z => nomatch z) z ?_) fun q hq => by
    have : q = a := by simpa using hq
    rw [this]; exact ha
  exact DAs.ows o
theorem rg_add : RG2 K (rAddG K) addD := by
  intro R H x y d e Q s hx hy p
  cases hx with
  | int i => cases hy with
    | int j => exact .inl ⟨i, j, rfl, rfl, p.now s (.sc (.int _) rfl)⟩
    | _ => exact p.elim
  | str a => cases hy with
    | str b =>
      simp only [addD] at p
      by_cases z : a.length + b.length ≤ SZ
      · rw [if_pos z] at p
        exact .inr (.inl ⟨a, b, rfl, rfl, sz_le z, p.now s (.sc (.str _) rfl)⟩)
      · rw [if_neg z] at p; exact p.elim
    | _ => exact p.elim
  | lst h1 z1 o1 => cases hy with
    | lst h2 z2 o2 =>
      simp only [addD] at p
      split at p
      · rename_i z
        rw [← o1.length, ← o2.length] at z
        refine .inr (.inr ⟨_, _, _, _, rfl, rfl, s.seq h1, s.seq h2, sz_le z, ?_⟩)
        exact RPostD.list s (o1.append o2) (by rw [List.length_append]; exact sz_le z) p
      · exact p.elim
    | _ => exact p.elim
  | _ => cases hy <;> exact p.elim
/-- two ints, an int back -/
def iiD (g : Int → Int → Int) : Op2
  | .int i, .int j => some (none, .int (g i j))
  | _, _ => none
theorem rg_ii {g : Int → Int → Int} : RG2 K (rI0 fun i j => .int (g i j)) (iiD g) := by
  intro R H x y d e Q s hx hy p
  cases hx with
  | int i => cases hy with
    | int j => exact ⟨i, j, rfl, rfl, p.now s (.sc (.int _) rfl)⟩
    | _ => exact p.elim
  | _ => cases hy <;> exact p.elim
/-- .. under a condition -/
def icD (c : Int → Int → Bool) (g : Int → Int → Int) : Op2
  | .int i, .int j => if c i j then some (none, .int (g i j)) else none
  | _, _ => none
theorem rg_ic {C : Int → Int → Prop} {c : Int → Int → Bool} {g : Int → Int → Int} (h : ∀ i j, c i j = true → C i j) : RG2 K (rI C fun i j => .int (g i j)) (icD c g) := by
  intro R H x y d e Q s hx hy p
  cases hx with
  | int i => cases hy with
    | int j =>
      simp only [icD] at p
      by_cases z : c i j = true
      · rw [if_pos z] at p
        exact ⟨i, j, rfl, rfl, h i j z, p.now s (.sc (.int _) rfl)⟩
      · rw [if_neg z] at p; exact p.elim
    | _ => exact p.elim
  | _ => cases hy <;> exact p.elim
/-- two ints, a bool back -/
def ibD (g : Int → Int → Bool) : Op2
  | .int i, .int j => some (none, .bool (g i j))
  | _, _ => none
theorem rg_ib {g : Int → Int → Bool} : RG2 K (rI0 fun i j => .bl (g i j)) (ibD g) := by
  intro R H x y d e Q s hx hy p
  cases hx with
  | int i => cases hy with
    | int j => exact ⟨i, j, rfl, rfl, p.now s (.sc (.bl _) rfl)⟩
    | _ => exact p.elim
  | _ => cases hy <;> exact p.elim
abbrev subD : Op2 := iiD fun i j => i - j
theorem rg_sub : RG2 K (rI0 fun i j => .int (i - j)) subD := rg_ii
def cDiv (i j : Int) : Bool := decide (0 < j) && decide (j < 1073741824)
abbrev divD : Op2 := icD cDiv fun i j => i / j
theorem rg_div : RG2 K (rI CDiv fun i j => .int (i / j)) divD := rg_ic fun i j h => by
  unfold cDiv at h
  rw [Bool.and_eq_true_iff] at h
  exact ⟨of_decide_eq_true h.1, of_decide_eq_true h.2⟩
def cMod (i j : Int) : Bool := decide (0 < j)
abbrev modD : Op2 := icD cMod fun i j => i % j
theorem rg_mod : RG2 K (rI (fun _ j => 0 < j) fun i j => .int (i % j)) modD := rg_ic fun i j h => of_decide_eq_true h
def cPow (i j : Int) : Bool := decide (0 ≤ j) && (decide (j ≤ 1000000) && decide (i.natAbs < 2 ^ 64))
abbrev powD : Op2 := icD cPow fun i j => i ^ j.toNat
theorem rg_pow : RG2 K (rI CPow fun i j => .int (i ^ j.toNat)) powD := rg_ic fun i j h => by
  unfold cPow at h
  rw [Bool.and_eq_true_iff, Bool.and_eq_true_iff] at h
  exact ⟨of_decide_eq_true h.1, of_decide_eq_true h.2.1, of_decide_eq_true h.2.2⟩
abbrev ltD : Op2 := ibD fun i j => decide (i < j)
abbrev leD : Op2 := ibD fun i j => decide (i ≤ j)
abbrev gtD : Op2 := ibD fun i j => decide (j < i)
abbrev geD : Op2 := ibD fun i j => decide (j ≤ i)
/-- == of data -/
def okEq (d : D) : Bool := pln d && SeqAt.shaped d
def eqD : Op2 := fun d e => if okEq d && okEq e then some (none, .bool (PyData.eqv d e)) else none
def neD : Op2 := fun d e => if okEq d && okEq e then some (none, .bool (!PyData.eqv d e)) else none
theorem rg_eq : RG2 K (rEqD K) eqD := by
  intro R H x y d e Q s hx hy p
  unfold eqD at p
  by_cases z : (okEq d && okEq e) = true
  · rw [if_pos z] at p
    simp only [okEq, Bool.and_eq_true] at z
    exact ⟨d, e, hx.dp s z.1.1, hy.dp s z.2.1, z.1.2, z.2.2, p.now s (.sc (.bl _) rfl)⟩
  · rw [if_neg z] at p; exact p.elim
theorem rg_ne : RG2 K (rNeD K) neD := by
  intro R H x y d e Q s hx hy p
  unfold neD at p
  by_cases z : (okEq d && okEq e) = true
  · rw [if_pos z] at p
    simp only [okEq, Bool.and_eq_true] at z
    exact ⟨d, e, hx.dp s z.1.1, hy.dp s z.2.1, z.1.2, z.2.2, p.now s (.sc (.bl _) rfl)⟩
  · rw [if_neg z] at p; exact p.elim
/-- in, not in, of data in a list -/
def inD : Op2 := fun d e => match e with
  | .list ds => if okEq d && okEq (.list ds) then some (none, .bool (ds.any fun z => PyData.eqv z d)) else none
  | _ => none
def ninD : Op2 := fun d e => match e with
  | .list ds => if okEq d && okEq (.list ds) then some (none, .bool (!ds.any fun z => PyData.eqv z d)) else none
  | _ => none
theorem rg_in : RG2 K (rInD K) inD := by
  intro R H x y d e Q s hx hy p
  unfold inD at p
  split at p
  · rename_i ds
    by_cases z : (okEq d && okEq (.list ds)) = true
    · rw [if_pos z] at p
      simp only [okEq, Bool.and_eq_true] at z
      exact ⟨d, ds, hx.dp s z.1.1, hy.dp s z.2.1, z.1.2, z.2.2, p.now s (.sc (.bl _) rfl)⟩
    · rw [if_neg z] at p; exact p.elim
  · exact p.elim
theorem rg_nin : RG2 K (rNotInD K) ninD := by
  intro R H x y d e Q s hx hy p
  unfold ninD at p
  split at p
  · rename_i ds
    by_cases z : (okEq d && okEq (.list ds)) = true
    · rw [if_pos z] at p
      simp only [okEq, Bool.and_eq_true] at z
      exact ⟨d, ds, hx.dp s z.1.1, hy.dp s z.2.1, z.1.2, z.2.2, p.now s (.sc (.bl _) rfl)⟩
    · rw [if_neg z] at p; exact p.elim
  · exact p.elim
/-- is None, is not None -/
def isND : Op2
  | .none, .none => some (none, .bool true)
  | _, .none => some (none, .bool false)
  | _, _ => none
def notND : Op2
  | .none, .none => some (none, .bool false)
  | _, .none => some (none, .bool true)
  | _, _ => none
theorem rg_isN : RG2 K (fun x y H Q => y = .non ∧ Q (.bl (decide (x = .non))) H) isND := by
  intro R H x y d e Q s hx hy p
  cases hy with
  | non => cases hx <;> exact ⟨rfl, p.now s (.sc (.bl _) rfl)⟩
  | _ => cases hx <;> exact p.elim
theorem rg_notN : RG2 K (fun x y H Q => y = .non ∧ Q (.bl (!decide (x = .non))) H) notND := by
  intro R H x y d e Q s hx hy p
  cases hy with
  | non => cases hx <;> exact ⟨rfl, p.now s (.sc (.bl _) rfl)⟩
  | _ => cases hx <;> exact p.elim
/-- -i -/
def negD : Op1
  | .int i => some (none, .int (-i))
  | _ => none
theorem rg_neg : RG1 K (rU fun i => .int (-i)) negD := by
  intro R H x d Q s hx p
  cases hx with
  | int i => exact ⟨i, rfl, p.now s (.sc (.int _) rfl)⟩
  | _ => exact p.elim
end

/-! ### items, slices -/
def itD (o : Option D) : Option (Lv × D) := match o with
  | some d => some (lv0 d, d)
  | none => none
def ixD : Op2
  | .list ds, .int i => itD (atI ds i)
  | .tuple ds, .int i => itD (atI ds i)
  | .str z, .int i => if z.length ≤ SZ then (match atI z.cps.toList i with
    | some c => some (none, .str ⟨#[c]⟩)
    | none => none) else none
  | _, _ => none
theorem DAs.atI {K : Fg} {R : Hp} {xs : List V} {ds : List D} (h : DAs K R xs ds) {i : Int} {d : D} (e : L2.atI ds i = some d) : ∃ v, L2.atI xs i = some v ∧ DA K R v d := by
  unfold L2.atI at e ⊢
  rw [h.length]
  cases q : ixN ds.length i with
  | none => rw [q] at e; cases e
  | some j =>
    rw [q] at e
    exact h.getD e
section
variable {K : Fg}
theorem rg_ix : RG2 K (rIx K) ixD := by
  intro R H x y d e Q s hx hy p
  cases hx with
  | lst h z o => cases hy with
    | int i =>
      rename_i a xs ds
      have p2 : RPostD K R H Q (itD (atI ds i)) := p
      cases q : atI ds i with
      | none => rw [q] at p2; exact p2.elim
      | some d =>
        rw [q] at p2
        obtain ⟨v, h1, h2⟩ := o.atI q
        exact .inl ⟨_, _, i, v, rfl, rfl, s.seq h, h1, RPostD.now p2 s (ow_lv0 h2)⟩
    | _ => exact p.elim
  | tup h z o => cases hy with
    | int i =>
      rename_i a xs ds
      have p2 : RPostD K R H Q (itD (atI ds i)) := p
      cases q : atI ds i with
      | none => rw [q] at p2; exact p2.elim
      | some d =>
        rw [q] at p2
        obtain ⟨v, h1, h2⟩ := o.atI q
        exact .inr (.inl ⟨_, _, i, v, rfl, rfl, Same.sqt s h, h1, RPostD.now p2 s (ow_lv0 h2)⟩)
    | _ => exact p.elim
  | str z => cases hy with
    | int i =>
      simp only [ixD] at p
      by_cases hz : z.length ≤ SZ
      · rw [if_pos hz] at p
        cases q : atI z.cps.toList i with
        | none => rw [q] at p; exact p.elim
        | some c =>
          rw [q] at p
          exact .inr (.inr ⟨z, i, c, rfl, rfl, sz_le hz, q, RPostD.now p s (.sc (.str _) rfl)⟩)
      · rw [if_neg hz] at p; exact p.elim
    | _ => exact p.elim
  | _ => cases hy <;> exact p.elim
end
/-- the part of a list -/
def cutD (ds : List D) (lo hi : Option Int) : List D := (ds.drop (HT.sIx ds.length 0 lo)).take (HT.sIx ds.length ds.length hi - HT.sIx ds.length 0 lo)
theorem DAs.cut {K : Fg} {R : Hp} {xs : List V} {ds : List D} (h : DAs K R xs ds) (lo hi : Option Int) : DAs K R (cutV xs lo hi) (cutD ds lo hi) := by
  unfold cutV cutD
  rw [h.length]
  exact (h.drop _).take _
inductive OR' where
  | bad
  | ok (o : Option Int) (μ : Mu)
  | rz (c : Str) (f : Option (Str × D))
/-- a slice's bound -/
def SOb (K : Fg) (Z : Zs) (δ : Option Nat) (t : TO) (f : Option (Ev → Mu → ER)) : Prop := match f with
  | none => t = tNoPart
  | some fe => ∃ te, t = tPart te ∧ SE K Z δ te fe
def eBd (f : Option (Ev → Mu → ER)) (ε : Ev) (μ : Mu) : OR' := match f with
  | none => .ok none μ
  | some fe => match fe ε μ with
    | .ok _ (.int i) μ1 => .ok (some i) μ1
    | .ok _ _ _ => .bad
    | .bad => .bad
    | .rz c f => .rz c f
def slD : D → Option Int → Option Int → Option (Lv × D)
  | .list ds, lo, hi => some (some 1, .list (cutD ds lo hi))
  | _, _, _ => none
def eSl (fa : Ev → Mu → ER) (fl fh : Option (Ev → Mu → ER)) : Ev → Mu → ER := fun ε μ => match fa ε μ with
  | .ok _ d μ1 => (match eBd fl ε μ1 with
    | .ok lo μ2 => (match eBd fh ε μ2 with
      | .ok hi μ3 => erO μ3 (slD d lo hi)
      | .bad => .bad
      | .rz c f => .rz c f)
    | .bad => .bad
    | .rz c f => .rz c f)
  | .bad => .bad
  | .rz c f => .rz c f
section
variable {K : Fg} {Z : Zs} {δ : Option Nat}
theorem bd_ok {t : TO} {f : Option (Ev → Mu → ER)} {σ : St} {w : List Addr} {R H : Hp} {Q : VK} (h : SOb K Z δ t f) {ε : Ev} {μ : Mu} (s : Same R H) (e : EOk K R σ ε) (M : MOk K R H σ δ μ w) (g : Option Int → Mu → ER)
    (p : EPost K Z σ δ w R H Q (match eBd f ε μ with | .ok o μ' => g o μ' | .bad => .bad | .rz c f => .rz c f)) {Q' : Option Int → Hp → Prop}
    (k : ∀ o H1 R1 w1 μ1, Gr (Mem w) R H R1 H1 → EOk K R1 σ ε → MOk K R1 H1 σ δ μ1 w1 → EPost K Z σ δ w1 R1 H1 Q (g o μ1) → Q' o H1) : t σ H Q' := by
  cases f with
  | none =>
    obtain rfl : t = tNoPart := h
    exact k none H R w μ (Gr.refl s) e M p
  | some fe =>
    obtain ⟨te, rfl, hs⟩ := h
    refine hs.then (Q := Q) s e M (fun d μ1 => match d with | .int i => g (some i) μ1 | _ => .bad) (by simp only [eBd] at p; revert p; cases fe ε μ with | ok m d μ1 => (cases d <;> exact id) | _ => exact id) fun v H1 R1 w1 d μ1 G1 e1 M1 o1 p1 => ?_
    cases o1 with
    | int i => exact ⟨i, rfl, k (some i) H1 R1 w1 μ1 G1 e1 M1 p1⟩
    | _ => exact p1.elim
theorem se_sl {ta : TE} {tl th : TO} {fa : Ev → Mu → ER} {fl fh : Option (Ev → Mu → ER)} (ha : SE K Z δ ta fa) (hl : SOb K Z δ tl fl) (hh : SOb K Z δ th fh) : SE K Z δ (tSl (rSlL K) ta tl th) (eSl fa fl fh) := by
  intro σ H R ε μ w Q s e M p
  refine ha.then (Q := Q) s e M (fun d μ1 => match eBd fl ε μ1 with | .ok lo μ2 => (match eBd fh ε μ2 with | .ok hi μ3 => erO μ3 (slD d lo hi) | .bad => .bad | .rz c f => .rz c f) | .bad => .bad | .rz c f => .rz c f) p fun v H1 R1 w1 d μ1 G1 e1 M1 o1 p1 => ?_
  refine bd_ok hl G1.rh e1 M1 (fun lo μ2 => match eBd fh ε μ2 with | .ok hi μ3 => erO μ3 (slD d lo hi) | .bad => .bad | .rz c f => .rz c f) p1 fun lo H2 R2 w2 μ2 G2 e2 M2 p2 => ?_
  refine bd_ok hh G2.rh e2 M2 (fun hi μ3 => erO μ3 (slD d lo hi)) p2 fun hi H3 R3 w3 μ3 G3 e3 M3 p3 => ?_
  have p4 := EPost.op M3 p3
  cases o1 with
  | lst h z o =>
    have o' := DAs.mono (G2.rr.trans G3.rr) o
    refine ⟨_, _, rfl, (G3.rh).seq ((G2.rr.trans G3.rr).seq h), ?_⟩
    exact RPostD.list G3.rh (o'.cut lo hi) (Nat.le_trans (cutV_length _ _ _) z) p4
  | _ => exact p4.elim
end
end VF
end
section
set_option Elab.async false
set_option linter.all false
set_option maxRecDepth 100000
set_option maxHeartbeats 2000000
namespace VF
open PySem PySem.Spec L2
open PyProof.Rows hiding St

section
variable {K : Fg}
/-! ### int, len, sum, list, tuple -/
def intD : OpN
  | [.int i] => some (none, .int i)
  | [.bool b] => some (none, .int (if b then 1 else 0))
  | _ => none
theorem rn_int : RGN K (fun xs H Q => (∃ i, xs = [.int i] ∧ Q (.int i) H) ∨ ∃ k, xs = [.bl k] ∧ Q (.int (if k then 1 else 0)) H) intD := by
  intro R H xs ds Q s o p
  unfold intD at p
  split at p
  · cases o with
    | cons h t => cases t with
      | nil => cases h with
        | int _ => exact .inl ⟨_, rfl, p.now s (.sc (.int _) rfl)⟩
  · cases o with
    | cons h t => cases t with
      | nil => cases h with
        | bl _ => exact .inr ⟨_, rfl, p.now s (.sc (.int _) rfl)⟩
  · exact p.elim
def lenD : OpN
  | [.list ds] => some (none, .int ds.length)
  | [.tuple ds] => some (none, .int ds.length)
  | [.str z] => if z.length ≤ SZ then some (none, .int z.length) else none
  | _ => none
theorem rn_len : RGN K (fun xs H Q => ∃ x n, xs = [x] ∧ LenV K x H n ∧ Q (.int n) H) lenD := by
  intro R H xs ds Q s o p
  unfold lenD at p
  split at p
  · cases o with
    | cons h t => cases t with
      | nil => cases h with
        | lst h z o => exact ⟨_, _, rfl, .inl ⟨_, s.seq h, (o.length).symm⟩, p.now s (.sc (.int _) rfl)⟩
  · cases o with
    | cons h t => cases t with
      | nil => cases h with
        | tup h z o => exact ⟨_, _, rfl, .inr ⟨_, Same.sqt s h, (o.length).symm⟩, p.now s (.sc (.int _) rfl)⟩
  · rename_i z
    by_cases hz : z.length ≤ SZ
    · rw [if_pos hz] at p
      cases o with
      | cons h t => cases t with
        | nil => cases h with
          | str _ => exact ⟨_, _, rfl, ⟨sz_le hz, rfl⟩, p.now s (.sc (.int _) rfl)⟩
    · rw [if_neg hz] at p; exact p.elim
  · exact p.elim
/-- the ints of a list of ints -/
def intsOf : List D → Option (List Int)
  | [] => some []
  | .int i :: r => (intsOf r).map (i :: ·)
  | _ :: _ => none
theorem intsOf_map : ∀ ns : List Int, intsOf (ns.map .int) = some ns
  | [] => rfl
  | n :: r => by rw [List.map_cons, intsOf, intsOf_map]; rfl
theorem DAs.ints {R : Hp} : ∀ {vs : List V} {ds : List D} {ns : List Int}, DAs K R vs ds → intsOf ds = some ns → vs = ns.map V.int
  | _, _, ns, .nil, e => by cases e; rfl
  | _, d :: r, ns, .cons h t, e => by
    cases h with
    | int i =>
      simp only [intsOf] at e
      cases q : intsOf r with
      | none => rw [q] at e; cases e
      | some l =>
        rw [q] at e
        cases e
        rw [List.map_cons, DAs.ints t q]
    | _ => cases e
def sumD : OpN
  | [.list ds] => (match intsOf ds with
    | some ns => some (none, .int ns.sum)
    | none => none)
  | _ => none
theorem rn_sum : RGN K (rSum K) sumD := by
  intro R H xs ds Q s o p
  unfold sumD at p
  split at p
  · rename_i l
    cases q : intsOf l with
    | none => rw [q] at p; exact p.elim
    | some ns =>
      rw [q] at p
      cases o with
      | cons h t => cases t with
        | nil => cases h with
          | lst h z o => exact ⟨_, ns, rfl, by rw [← o.ints q]; exact s.seq h, RPostD.now p s (.sc (.int _) rfl)⟩
  · exact p.elim
def lstD : OpN
  | [.list ds] => some (some 1, .list ds)
  | [.tuple ds] => some (some 1, .list ds)
  | _ => none
theorem rn_lst : RGN K (fun xs H Q => ∃ p ys, xs = [.ref p] ∧ (SqL K H p ys ∨ SqT K H p ys) ∧ ∀ l, H l = none → Q (.ref l) (upd H l (.lst ys))) lstD := by
  intro R H xs ds Q s o p
  unfold lstD at p
  split at p
  · cases o with
    | cons h t => cases t with
      | nil => cases h with
        | lst h z o => exact ⟨_, _, rfl, .inl (s.seq h), RPostD.list s o z p⟩
  · cases o with
    | cons h t => cases t with
      | nil => cases h with
        | tup h z o => exact ⟨_, _, rfl, .inr (Same.sqt s h), RPostD.list s o z p⟩
  · exact p.elim
/-- a new tuple of frozen things -/
theorem RPostD.tup {R H : Hp} {Q : VK} {vs : List V} {ds : List D} (s : Same R H) (o : DAs K R vs ds) (z : vs.length ≤ sizeLine) (p : RPostD K R H Q (some (some 1, .tuple ds))) : ∀ a, H a = none → Q (.ref a) (upd H a (.tup vs)) := by
  intro a ha
  have G := Gr.laid (o := .tup vs) s ha
  have hn : R a = none := Same.noH s ha
  refine p _ _ R [a] G (.tup upd_same hn (fun z => nomatch z) z (DAs.ows o)) fun q hq => by
    have : q = a := by simpa using hq
    rw [this]; exact ha
def tupD : OpN
  | [.list ds] => some (some 1, .tuple ds)
  | [.tuple ds] => some (some 0, .tuple ds)
  | _ => none
theorem rn_tup : RGN K (fun xs H Q => ∃ p ys, xs = [.ref p] ∧ ((SqL K H p ys ∧ ∀ l, H l = none → Q (.ref l) (upd H l (.tup ys))) ∨ (SqT K H p ys ∧ Q (.ref p) H))) tupD := by
  intro R H xs ds Q s o p
  unfold tupD at p
  split at p
  · cases o with
    | cons h t => cases t with
      | nil => cases h with
        | lst h z o => exact ⟨_, _, rfl, .inl ⟨s.seq h, RPostD.tup s o z p⟩⟩
  · cases o with
    | cons h t => cases t with
      | nil => cases h with
        | tup h z o => exact ⟨_, _, rfl, .inr ⟨Same.sqt s h, p.now s (.fz (.tup h z o))⟩⟩
  · exact p.elim
/-- the least, the greatest of ints -/
def leastI : Int → List Int → Int
  | m, [] => m
  | m, x :: r => leastI (min m x) r
def mostI : Int → List Int → Int
  | m, [] => m
  | m, x :: r => mostI (max m x) r
theorem leastI_ok : ∀ (m : Int) (l : List Int), (leastI m l = m ∨ leastI m l ∈ l) ∧ leastI m l ≤ m ∧ ∀ y ∈ l, leastI m l ≤ y
  | m, [] => ⟨.inl rfl, Int.le_refl _, fun _ h => nomatch h⟩
  | m, x :: r => by
    obtain ⟨h1, h2, h3⟩ := leastI_ok (min m x) r
    refine ⟨?_, by show leastI (min m x) r ≤ m; omega, fun y hy => ?_⟩
    · show leastI (min m x) r = m ∨ leastI (min m x) r ∈ x :: r
      rcases h1 with h | h
      · rw [h]
        by_cases z : m ≤ x
        · exact .inl (by omega)
        · exact .inr (by rw [show min m x = x by omega]; exact List.mem_cons_self)
      · exact .inr (List.mem_cons_of_mem _ h)
    · show leastI (min m x) r ≤ y
      rcases List.mem_cons.mp hy with rfl | hy
      · omega
      · exact h3 y hy
theorem mostI_ok : ∀ (m : Int) (l : List Int), (mostI m l = m ∨ mostI m l ∈ l) ∧ m ≤ mostI m l ∧ ∀ y ∈ l, y ≤ mostI m l
  | m, [] => ⟨.inl rfl, Int.le_refl _, fun _ h => nomatch h⟩
  | m, x :: r => by
    obtain ⟨h1, h2, h3⟩ := mostI_ok (max m x) r
    refine ⟨?_, by show m ≤ mostI (max m x) r; omega, fun y hy => ?_⟩
    · show mostI (max m x) r = m ∨ mostI (max m x) r ∈ x :: r
      rcases h1 with h | h
      · rw [h]
        by_cases z : x ≤ m
        · exact .inl (by omega)
        · exact .inr (by rw [show max m x = x by omega]; exact List.mem_cons_self)
      · exact .inr (List.mem_cons_of_mem _ h)
    · show y ≤ mostI (max m x) r
      rcases List.mem_cons.mp hy with rfl | hy
      · omega
      · exact h3 y hy
def minD : OpN
  | [.list ds] => (match intsOf ds with
    | some (n :: r) => some (none, .int (leastI n r))
    | _ => none)
  | _ => none
def maxD : OpN
  | [.list ds] => (match intsOf ds with
    | some (n :: r) => some (none, .int (mostI n r))
    | _ => none)
  | _ => none
theorem rn_min : RGN K (rMin K) minD := by
  intro R H xs ds Q s o p
  unfold minD at p
  split at p
  · rename_i l
    cases q : intsOf l with
    | none => rw [q] at p; exact p.elim
    | some ns =>
      rw [q] at p
      cases ns with
      | nil => exact p.elim
      | cons n r =>
        cases o with
        | cons h t => cases t with
          | nil => cases h with
            | lst h z o =>
              refine ⟨_, n :: r, rfl, by rw [← o.ints q]; exact s.seq h, Nat.succ_pos _, fun m hm hl => ?_⟩
              have e : m = leastI n r := by
                obtain ⟨h1, h2, h3⟩ := leastI_ok n r
                have a : m ≤ leastI n r := by
                  rcases h1 with e | e
                  · rw [e]; exact hl n List.mem_cons_self
                  · exact hl _ (List.mem_cons_of_mem _ e)
                have b : leastI n r ≤ m := by
                  rcases List.mem_cons.mp hm with e | e
                  · rw [e]; exact h2
                  · exact h3 m e
                omega
              rw [e]
              exact RPostD.now p s (.sc (.int _) rfl)
  · exact p.elim
theorem rn_max : RGN K (rMax K) maxD := by
  intro R H xs ds Q s o p
  unfold maxD at p
  split at p
  · rename_i l
    cases q : intsOf l with
    | none => rw [q] at p; exact p.elim
    | some ns =>
      rw [q] at p
      cases ns with
      | nil => exact p.elim
      | cons n r =>
        cases o with
        | cons h t => cases t with
          | nil => cases h with
            | lst h z o =>
              refine ⟨_, n :: r, rfl, by rw [← o.ints q]; exact s.seq h, Nat.succ_pos _, fun m hm hl => ?_⟩
              have e : m = mostI n r := by
                obtain ⟨h1, h2, h3⟩ := mostI_ok n r
                have a : mostI n r ≤ m := by
                  rcases h1 with e | e
                  · rw [e]; exact hl n List.mem_cons_self
                  · exact hl _ (List.mem_cons_of_mem _ e)
                have b : m ≤ mostI n r := by
                  rcases List.mem_cons.mp hm with e | e
                  · rw [e]; exact h2
                  · exact h3 m e
                omega
              rw [e]
              exact RPostD.now p s (.sc (.int _) rfl)
  · exact p.elim

/-! ### isinstance of a built-in class -/
/-- the name of a value's class, where it is one of these -/
def kindD : D → Option String
  | .none => some "NoneType"
  | .bool _ => some "bool"
  | .int _ => some "int"
  | .str _ => some "str"
  | .list _ => some "list"
  | .tuple _ => some "tuple"
  | .dict [] => some "dict"
  | .dict _ => none
/-- is a value of the class a one of the class b? -/
def isaS (a b : String) : Bool := a == b || (a == "bool" && b == "int")
theorem DA.ty {R H : Hp} {v : V} {d : D} {a : String} (s : Same R H) (h : DA K R v d) (e : kindD d = some a) : TyX K H v (.type a) := by
  cases h with
  | non => cases e; exact .base .non
  | bl b => cases e; exact .base (.bl b)
  | int i => cases e; exact .base (.int i)
  | str x => cases e; exact .base (.str x)
  | lst h z o =>
    cases e
    rcases h with (h | ⟨ob, h⟩) | ⟨o, its, n, hk, hc, _⟩
    · exact .base (.lst (s _ _ h))
    · exact .base (.frz (s _ _ h))
    · exact .kList hk hc
  | tup h z o =>
    cases e
    rcases h with (h | ⟨ob, h⟩) | ⟨o, its, n, hk, hc, _⟩
    · exact .base (.tup (s _ _ h))
    · exact .fTuple (s _ _ h)
    · exact .kTuple hk hc
  | dic h => cases e; exact .base (.dK (s _ _ h))
  | rng => cases e
  | exc => cases e
  | exn => cases e
theorem kits : ∀ a ∈ ["NoneType", "bool", "int", "str", "list", "tuple", "dict"], ∀ b ∈ ["bool", "int", "str", "list", "tuple", "dict"], kitB a b = some (isaS a b) := by decide +kernel
theorem kindD_in {d : D} {a : String} (e : kindD d = some a) : a ∈ ["NoneType", "bool", "int", "str", "list", "tuple", "dict"] := by
  cases d with
  | dict kv =>
    cases kv with
    | nil => cases e; decide
    | cons _ _ => cases e
  | _ => cases e; decide
/-- isinstance(e, b) -/
def isaD (b : String) (d : D) : Option (Lv × D) := match kindD d with
  | some a => some (none, .bool (isaS a b))
  | none => none
def eIsa (b : String) (fe : Ev → Mu → ER) : Ev → Mu → ER := eOp1 (isaD b) fe
theorem se_isa {Z : Zs} {δ : Option Nat} {te : TE} {fe : Ev → Mu → ER} {b : String} (hb : b ∈ ["bool", "int", "str", "list", "tuple", "dict"]) (h : SE K Z δ te fe) : SE K Z δ (tCB (rIsi K) (tCons te (tCons (tC (.ty b)) tNil))) (eIsa b fe) := by
  intro σ H R ε μ w Q s e M p
  refine h.then (Q := Q) s e M (fun d μ1 => erO μ1 (isaD b d)) p fun v H1 R1 w1 d μ1 G1 e1 M1 o1 p1 => ?_
  have p2 := EPost.op M1 p1
  unfold isaD at p2
  cases q : kindD d with
  | none => rw [q] at p2; exact p2.elim
  | some a =>
    rw [q] at p2
    exact ⟨v, .ty b, .type a, .type b, isaS a b, rfl, .ty b, o1.ty G1.rh q, kit_ty (kits a (kindD_in q) b hb), RPostD.now p2 G1.rh (.sc (.bl _) rfl)⟩
end

/-! ### repr -/
def okShow (d : D) : Bool := pln d && (d.showable && (decide (d.depth ≤ 60) && decide (d.shown.length ≤ SZ)))
def reprD : OpN
  | [d] => if okShow d then some (none, .str d.shown) else none
  | _ => none
/-- its reading -/
def rRepr (K : Fg) : List V → Hp → VK → Prop := fun xs H Q => ∃ v d, xs = [v] ∧ Dp K H v d ∧ d.showable = true ∧ d.hasDict = false ∧ d.depth ≤ 60 ∧ d.shown.length ≤ sizeLine ∧ Q (.str d.shown) H
theorem pln_hd : ∀ {d : D}, pln d = true → d.hasDict = false := by
  have key : ∀ n : Nat, (∀ d : D, sizeOf d ≤ n → pln d = true → d.hasDict = false) ∧ (∀ ds : List D, sizeOf ds ≤ n → plnAll ds = true → PyData.hasDictAll ds = false) := by
    intro n
    induction n with
    | zero =>
      refine ⟨fun d h => ?_, fun ds h => ?_⟩
      · cases d <;> simp at h
      · cases ds <;> simp at h
    | succ n ih =>
      refine ⟨fun d h p => ?_, fun ds h p => ?_⟩
      · cases d with
        | none => rfl
        | bool _ => rfl
        | int _ => rfl
        | str _ => rfl
        | list xs => simp only [PyData.hasDict]; exact ih.2 xs (by simp at h; omega) p
        | tuple xs => simp only [PyData.hasDict]; exact ih.2 xs (by simp at h; omega) p
        | dict _ => cases p
      · cases ds with
        | nil => rfl
        | cons x r =>
          have p := Bool.and_eq_true_iff.mp p
          simp only [PyData.hasDictAll, ih.1 x (by simp at h; omega) p.1, ih.2 r (by simp at h; omega) p.2, Bool.or_self]
  exact fun {d} p => (key (sizeOf d)).1 d (Nat.le_refl _) p
theorem call_reprG {X : Cx} (hg : X.A.guards = some []) (hu : X.A.units + 64 < cLine) : CallR X (.builtin "repr") (rRepr X.K) := by
  intro pins s σ H xs us Q I r h
  obtain ⟨v, d, rfl, hd, hs, hh, hdp, hz, q⟩ := h
  obtain ⟨u, rfl, rv⟩ := vals1 r
  have ref : ∀ {a : Addr}, u = .ref a → wpAny (model X.prog X.w) X.A (call (.builtin "repr") [u]) (EP X pins σ Q) X.xe s := fun {a} e => by
    obtain ⟨as, rd⟩ := Dp.reads I d v u hd rv
    subst e
    exact repr_of_reads' rd hs (PyData.noDict_hsm hh) hg (by omega) (fun _ _ e => e) (fun h' u tk k => ⟨.str d.shown, H, I.kept k, ⟨_, rfl⟩, q⟩) hz
  cases hd with
  | non => cases rv; exact PySem.P.repr_of_none ⟨.str _, H, I.tok _, ⟨_, rfl⟩, q⟩
  | bl b => cases rv; exact PySem.P.repr_of_bool ⟨.str _, H, I.tok _, ⟨_, rfl⟩, q⟩
  | int i =>
    obtain ⟨t, rfl⟩ := rv
    exact PySem.P.repr_of_int (of_decide_eq_true hs) ⟨.str _, H, I.tok _, ⟨_, rfl⟩, q⟩
  | str x =>
    obtain ⟨t, rfl⟩ := rv
    exact PySem.P.repr_of_str ⟨.str _, H, I.tok _, ⟨_, rfl⟩, q⟩ hz
  | lst hs ho => exact ref rv
  | tup hs ho => exact ref rv
theorem rn_repr {K : Fg} : RGN K (rRepr K) reprD := by
  intro R H xs ds Q s o p
  unfold reprD at p
  split at p
  · rename_i d
    by_cases z : okShow d = true
    · rw [if_pos z] at p
      cases o with
      | cons h t => cases t with
        | nil =>
          unfold okShow at z
          simp only [Bool.and_eq_true] at z
          exact ⟨_, d, rfl, h.dp s z.1, z.2.1, pln_hd z.1, of_decide_eq_true z.2.2.1, sz_le (of_decide_eq_true z.2.2.2), RPostD.now p s (.sc (.str _) rfl)⟩
    · rw [if_neg z] at p; exact p.elim
  · exact p.elim
end VF
end
section
set_option Elab.async false
set_option linter.all false
set_option maxRecDepth 100000
set_option maxHeartbeats 2000000
namespace VF
open PySem PySem.Spec L2
open PyProof.Rows hiding St

/-- what __init__ of an error class of ours promises: one field n -/
def spI (K : Fg) (n : Str) : Sp := fun vs H Q _ => ∃ a C v, vs = [.ref a, v] ∧ OexC K C ∧ PySem.W.findIn K (.ref C) n = some none ∧ H a = some (exo a C none) ∧ ∀ d, H d = none → d ≠ a → Q .non (upd (upd H d (exd d [(n, v)])) a (exo a C (some d)))
theorem spI_len {K : Fg} {n : Str} : ∀ vs H Q E, spI K n vs H Q E → vs.length = [("self" : Str), n].length := fun vs H Q E ⟨a, C, v, e, _⟩ => by rw [e]; rfl
/-- the body of such an __init__ -/
theorem init_read {K : Fg} {n : Str} {msg : Str} {vs : List V} {H : Hp} {Q : VK} {E : XK} (h : spI K n vs H Q E) :
    tSeq (tDrop (tVeI K (tCons (tVar 0) (tCons (tC (.str msg)) tNil)))) (tOst K n (tVar 0) (tVar 1)) { nx := fun _ H' => Q .non H', rt := Q } (L2.start [("self" : Str), n] vs) H := by
  obtain ⟨a, C, v, rfl, T, hno, ha, q⟩ := h
  refine ⟨.ref a, rfl, a, C, [.str msg], rfl, (by show 1 ≤ 1000; decide), T, ha, ?_⟩
  exact ⟨v, rfl, .ref a, rfl, a, C, rfl, T, hno, .inl ⟨ha, fun d hd hne => q d hd hne⟩⟩
/-- an error class of ours: its name, its field -/
structure ErT (P : Program) (w : World) (K : Fg) (mg : Str → Option Value) (base : Heap) (x n : Str) (C : Addr) : Prop where
  gC : mg x = some (.ref C)
  T : OexC K C
  no : PySem.W.findIn K (.ref C) n = some none
  fn : ∃ (fI : Addr) (fd : FuncData), PySem.W.findIn K (.ref C) "__init__" = some (some (.ref fI)) ∧ PySem.W.typeIn K (.ref fI) = some (.type "function") ∧ Binds K fd [("self" : Str), n] [] ∧ FnOk P w K mg base (L2.CX P w) 1 fI fd [("self" : Str), n] (spI K n)
theorem del_upd {H : Hp} {a d : Addr} {e o u v : HO} (hda : d ≠ a) (ha : H a = none) : upd (del (upd (upd (upd H a e) d u) a v) a) d o = upd H d o := by
  funext b
  by_cases h1 : b = d
  · rw [h1, upd_same, upd_same]
  · rw [upd_ne h1, upd_ne h1]
    by_cases h2 : b = a
    · rw [h2, del_same, ha]
    · rw [del_ne h2, upd_ne h2, upd_ne h1, upd_ne h2]
/-- raise C(e) -/
def tRz1 (K : Fg) (C : Addr) (W : WX) (n : Str) (ta : TA) : TS := fun _ σ H => tMkO C (spI K n) [] ta σ H fun cls d H' => W cls d σ H'
theorem ps_rz {X : Cx} {W : WX} {x n : Str} {C : Addr} {e : Expr} {te : TE} {p pos pos2 : Pos} (hc : X.calm = true) (tk : Takes X W) (T : ErT X.prog X.w X.K X.mg X.base x n C) (hr : Room 2 X.A) (hg : Gl X x) (ha : PE X e te)
    (hs : starEach (e :: []) X.env = (false, eval e X.env) :: starEach [] X.env := by rfl) (hdb : (x == ("__debug__" : Str)) = false := by decide) (hpl : (backTo pos (starEach [] X.env)).any (·.1) = false := by rfl) :
    PS X (.Raise (some (.Call (.Name x p) [e] [] pos)) none pos2) (tRz1 X.K C W n (tCons te tNil)) := by
  obtain ⟨fI, fd, iC, tI, hb, F⟩ := T.fn
  exact ps_raise hc tk (pmk_oex (CX := L2.CX X.prog X.w) (k := 1) (ps := [("self" : Str), n]) T.T iC tI F hr hb .nil passL hg T.gC (pa_cons ha pa_nil hs) hdb hs hpl)
def sRz (c n : Str) (bor : List Nat) (δ : Option Nat) (f : Ev → Mu → ER) : Sl → SR := fun ρ => evB (evS bor δ f ρ) ρ fun _ d ρ' => .rz c (some (n, d)) ρ'
theorem ss_rz {P : Program} {w0 : World} {K : Fg} {mg : Str → Option Value} {base : Heap} {Z : Zs} {δ : Option Nat} {bor : List Nat} {c n : Str} {t : TE} {f : Ev → Mu → ER} (T : ErT P w0 K mg base c n (Z.ea c)) (h : SE K Z δ t f) (hb : ∀ j, δ = some j → bor.contains j = false) :
    SS K Z (tRz1 K (Z.ea c) Z.W n (tCons t tNil)) (sRz c n bor δ f) := by
  intro σ H R ρ fp D' r p
  refine ev_st h hb r p fun m d ρ' v H' R' fp' wv G r' o n1 n2 p' => ?_
  obtain ⟨G2, r2, o2⟩ := frz_st G r' o n2
  refine ⟨(by show 1 ≤ 1000; decide), fun a hA => ⟨a, Z.ea c, v, rfl, T.T, T.no, upd_same, fun dd hd hne => ⟨rfl, dd, [(n, v)], upd_same, ?_, ?_, ?_⟩⟩⟩
  · rw [upd_ne hne, upd_same]
  · rw [upd_ne hne] at hd; exact hd
  · rw [upd_ne hne] at hd
    rw [del_upd hne hA]
    have G3 : Gr (fun _ => False) (frzH R' H' (Mem wv)) H' (frzH R' H' (Mem wv)) (upd H' dd (.xd [(n, v)])) := Gr.laid r2.le hd
    exact p' σ H' _ fp' G2 r2 n1 _ _ v dd (G3.mono fun _ z => z.elim) o2 upd_same (.inr hd)
end VF
end
section
set_option Elab.async false
set_option linter.all false
set_option maxRecDepth 100000
set_option maxHeartbeats 2000000
namespace VF
open PySem PySem.Spec L2
open PyProof.Rows hiding St

/-- a def of the text, called by its name -/
def Cal (P : Program) (w : World) (K : Fg) (mg : Str → Option Value) (base : Heap) (x : Str) (st : Stmt) (ps : List Str) (k : Nat) (sp : Sp) : Prop :=
  ∃ f fd, mg x = some (.ref f) ∧ PySem.W.keepIn K (.ref f) = true ∧ L2.Binds K fd ps [] ∧ FnG P w K mg base k f fd ps sp ∧ Fun K x x st f fd
section
variable {X : Cx} {st : Stmt} {k : Nat} {ps : List Str} {sp : Sp} {E : St → XK} {x : Str} {p pos : Pos} {e : Expr} {es : List Expr} {t : TA}
theorem pe_ca (c : Cal X.prog X.w X.K X.mg X.base x st ps k sp) (hr : Room k X.A) (hg : X.A.guards = some []) (hx : ∀ σ, PassesAt (L2.CX X.prog X.w) X σ (E σ)) (gl : Gl X x)
    (ha : PA X (e :: es) t) (hdb : (x == ("__debug__" : Str)) = false := by decide) (he : starEach (e :: es) X.env = (false, eval e X.env) :: starEach es X.env := by rfl) (hpl : (backTo pos (starEach es X.env)).any (·.1) = false := by rfl) :
    PE X (.Call (.Name x p) (e :: es) [] pos) (tCallS sp E t) := by
  obtain ⟨f, fd, h1, h2, h3, h4, _⟩ := c
  exact pe_callG h4 hr hg gl h1 h2 h3 hx ha hdb he hpl
theorem pe_ca0 (c : Cal X.prog X.w X.K X.mg X.base x st ps k sp) (hr : Room k X.A) (hg : X.A.guards = some []) (hx : ∀ σ, PassesAt (L2.CX X.prog X.w) X σ (E σ)) (gl : Gl X x)
    (hdb : (x == ("__debug__" : Str)) = false := by decide) : PE X (.Call (.Name x p) [] [] pos) (tCallS0 sp E) := by
  obtain ⟨f, fd, h1, h2, h3, h4, _⟩ := c
  exact pe_callG0 h4 hr hg gl h1 h2 h3 hx hdb
end
/-- a < b < c -/
def eCh (g g' : Op2) (fa fb fc : Ev → Mu → ER) : Ev → Mu → ER := fun ε μ => match fa ε μ with
  | .ok _ d μ1 => (match fb ε μ1 with
    | .ok _ e μ2 => (match g d e with
      | some (_, .bool true) => (match fc ε μ2 with
        | .ok _ c μ3 => erO μ3 (g' e c)
        | .bad => .bad
        | .rz c f => .rz c f)
      | some (_, .bool false) => .ok none (.bool false) μ2
      | _ => .bad)
    | .bad => .bad
    | .rz c f => .rz c f)
  | .bad => .bad
  | .rz c f => .rz c f
theorem Ow.bl {K : Fg} {R H : Hp} {m : Lv} {v : V} {b : Bool} {w : List Addr} (o : Ow K R H m v (.bool b) w) : v = .bl b := by
  cases o with
  | fz h => cases h; rfl
  | sc h _ => cases h; rfl
theorem se_ch {K : Fg} {Z : Zs} {δ : Option Nat} {ta tb tc : TE} {fa fb fc : Ev → Mu → ER} {r r' : R2} {g g' : Op2} (hr : RG2 K r g) (hr' : RG2 K r' g') (ha : SE K Z δ ta fa) (hb : SE K Z δ tb fb) (hc : SE K Z δ tc fc) : SE K Z δ (tChain r r' ta tb tc) (eCh g g' fa fb fc) := by
  intro σ H R ε μ w Q s e M p
  refine ha.then (Q := Q) s e M (fun d μ1 => match fb ε μ1 with
    | .ok _ e μ2 => (match g d e with
      | some (_, .bool true) => (match fc ε μ2 with
        | .ok _ c μ3 => erO μ3 (g' e c)
        | .bad => .bad
        | .rz c f => .rz c f)
      | some (_, .bool false) => .ok none (.bool false) μ2
      | _ => .bad)
    | .bad => .bad
    | .rz c f => .rz c f) p fun v H1 R1 w1 d μ1 G1 e1 M1 o1 p1 => ?_
  refine hb.then (Q := Q) G1.rh e1 M1 (fun e μ2 => match g d e with
      | some (_, .bool true) => (match fc ε μ2 with
        | .ok _ c μ3 => erO μ3 (g' e c)
        | .bad => .bad
        | .rz c f => .rz c f)
      | some (_, .bool false) => .ok none (.bool false) μ2
      | _ => .bad) p1 fun v2 H2 R2 w2 d2 μ2 G2 e2 M2 o2 p2 => ?_
  refine hr R2 H2 v v2 d d2 _ G2.rh (o1.mono G2.rr) o2 ?_
  split at p2
  · rename_i m0 q
    rw [q]
    intro v' H' R' wv G o n
    have G' : Gr (Mem w2) R2 H2 R' H' := G.mono fun _ z => z.elim
    refine ⟨true, o.bl, ?_⟩
    rw [if_pos rfl]
    exact hc.then (Q := Q) G.rh (e2.mono G.rr) (M2.keep G fun _ _ z => z) (fun c μ3 => erO μ3 (g' d2 c)) (EPost.on p2 G' fun _ h => .inl h) fun v3 H3 R3 w3 d3 μ3 G3 e3 M3 o3 p3 => hr' R3 H3 v2 v3 d2 d3 Q G3.rh ((o2.mono G.rr).mono G3.rr) o3 (EPost.op M3 p3)
  · rename_i m0 q
    rw [q]
    intro v' H' R' wv G o n
    have G' : Gr (Mem w2) R2 H2 R' H' := G.mono fun _ z => z.elim
    refine ⟨false, o.bl, ?_⟩
    rw [if_neg Bool.false_ne_true]
    exact (EPost.on p2 G' fun _ h => .inl h).now G.rh (M2.keep G fun _ _ z => z) (.sc (.bl _) rfl)
  · exact p2.elim
def sYes : Ev → Mu → TR := fun _ μ => .ok true μ
theorem st_yes {K : Fg} {Z : Zs} {δ : Option Nat} : ST K Z δ tYes sYes := fun σ H R ε μ w Q s e M p => p.now s M
end VF
end
section
set_option Elab.async false
set_option linter.all false
set_option maxRecDepth 100000
set_option maxHeartbeats 2000000
namespace VF
open PySem PySem.Spec L2
open PyProof.Rows hiding St

/-- the name of a built-in class -/
theorem pe_ty {X : Cx} {x : Str} {T : String} {pos : Pos} (hg : Gl X x) (hm : X.mg x = none) (hv : bootBuiltins x = some (.type T)) (hn : x ≠ "__name__" := by decide) (hd : (x == ("__debug__" : Str)) = false := by decide) : PE X (.Name x pos) (tC (.ty T)) :=
  pe_bltn hg hm hv (by rfl) hn hd
/-- a def, as the top has left it -/
def Df (K : Fg) (mg : Str → Option Value) (x : Str) (st : Stmt) (ps : List Str) : Prop := ∃ f fd, mg x = some (.ref f) ∧ PySem.W.keepIn K (.ref f) = true ∧ L2.Binds K fd ps [] ∧ Fun K x x st f fd
theorem Df.cal {P : Program} {w : World} {K : Fg} {mg : Str → Option Value} {base : Heap} {x : Str} {st : Stmt} {ps : List Str} {k : Nat} {sp : Sp} (h : Df K mg x st ps) (F : ∀ {f fd}, Fun K x x st f fd → FnG P w K mg base k f fd ps sp) : Cal P w K mg base x st ps k sp := by
  obtain ⟨f, fd, h1, h2, h3, h4⟩ := h
  exact ⟨f, fd, h1, h2, h3, F h4, h4⟩
theorem _root_.L2.Room.un64 {k : Nat} {A : Around} (r : Room k A) : A.units + 64 < cLine := by have := r.un; omega
theorem _root_.L2.Room.un65 {k : Nat} {A : Around} (r : Room k A) : A.units + 65 < cLine := by have := r.un; omega

/-! ### the rules, the written part named (in a comprehension's block the reading may not speak of the block) -/
section
variable {X : Cx} {K : Fg} (h : X.K = K)
include h
theorem op_addK : OpR X (binaryOp .Add) (rAddG K) := h ▸ op_addG
theorem op_eqK (hu : X.A.units + 64 < cLine) : OpR X (compareOp .Eq) (rEqD K) := h ▸ op_eqD hu
theorem op_neK (hu : X.A.units + 64 < cLine) : OpR X (compareOp .NotEq) (rNeD K) := h ▸ op_neD hu
theorem op_inK (hu : X.A.units + 65 < cLine) : OpR X (compareOp .In) (rInD K) := h ▸ op_inD hu
theorem op_ninK (hu : X.A.units + 65 < cLine) : OpR X (compareOp .NotIn) (rNotInD K) := h ▸ op_notInD hu
theorem ix_K : IxR X (rIx K) := h ▸ ix_seq
theorem sl_K : SlR X (rSlL K) := h ▸ sl_list
theorem call_isiG : CallR X (.builtin "isinstance") (rIsi K) := h ▸ call_isi
theorem call_lenK : CallR X (.builtin "len") (fun xs H Q => ∃ x n, xs = [x] ∧ LenV K x H n ∧ Q (.int n) H) := h ▸ call_len
theorem cr_sumK (hc : X.calm = true) : CallR X (.builtin "sum") (rSum K) := h ▸ cr_sum hc
theorem cr_minK (hc : X.calm = true) : CallR X (.builtin "min") (rMin K) := h ▸ cr_min hc
theorem cr_maxK (hc : X.calm = true) : CallR X (.builtin "max") (rMax K) := h ▸ cr_max hc
theorem call_lstK : CallR X (.type "list") (fun xs H Q => ∃ p ys, xs = [.ref p] ∧ (SqL K H p ys ∨ SqT K H p ys) ∧ ∀ l, H l = none → Q (.ref l) (upd H l (.lst ys))) := h ▸ call_list_of
theorem call_tupK : CallR X (.type "tuple") (fun xs H Q => ∃ p ys, xs = [.ref p] ∧ ((SqL K H p ys ∧ ∀ l, H l = none → Q (.ref l) (upd H l (.tup ys))) ∨ (SqT K H p ys ∧ Q (.ref p) H))) := h ▸ call_tuple_of
theorem call_reprK (hg : X.A.guards = some []) (hu : X.A.units + 64 < cLine) : CallR X (.builtin "repr") (rRepr K) := h ▸ call_reprG hg hu
theorem pg_tupK {es : List Expr} {k : Nat} {t : TGs} {n : Nat} {pos : Pos} (hc : X.calm = true) (hh : PGs X es t) (hn : (assignEach es X.env).length = n) (hst : (assignEach es X.env).findIdx? (·.1) = none) : PG X (.Tuple es k pos) (gTup K n t) := h ▸ pg_tup hc hh hn hst
theorem pi_anyK {tg it : Expr} {te : TE} (he : PE X it te) : PI X tg it (iAny K te) := h ▸ pi_any he
theorem pi_enumK {e : Expr} {ta : TA} {p pos tpos : Pos} {elts : List Expr} {kk : Nat} (hg : Gl X "enumerate") (hm : X.mg "enumerate" = none) (ha : PA X [e] ta) (hs : starEach [e] X.env = [(false, eval e X.env)]) : PI X (.Tuple elts kk tpos) (.Call (.Name "enumerate" p) [e] [] pos) (iEnum K ta) := h ▸ pi_enum hg hm ha hs
theorem pi_zipK {e e2 : Expr} {ta : TA} {p pos tpos : Pos} {elts : List Expr} {kk : Nat} (hg : Gl X "zip") (hm : X.mg "zip" = none) (ha : PA X [e, e2] ta) (hs : starEach [e, e2] X.env = (false, eval e X.env) :: starEach [e2] X.env)
    (hpl : (backTo pos (starEach [e2] X.env)).any (·.1) = false) : PI X (.Tuple elts kk tpos) (.Call (.Name "zip" p) [e, e2] [] pos) (iZip K ta) := h ▸ pi_zip hg hm ha hs hpl
theorem pi_revK {tg e : Expr} {ta : TA} {p pos : Pos} (hg : Gl X "reversed") (hm : X.mg "reversed" = none) (ha : PA X [e] ta) (hs : starEach [e] X.env = [(false, eval e X.env)]) : PI X tg (.Call (.Name "reversed" p) [e] [] pos) (iRev K ta) := h ▸ pi_reversed hg hm ha hs
theorem pt_truK {a : Expr} {ta : TE} (ha : PE X a ta) (he : ∀ whole, isTrue a X.env whole = (do let v ← whole; standAt a.pos; holding [v] (truthy v))) : PT X a (fun σ H Q => ta σ H fun x H' => ∃ k, TruV K x H' k ∧ Q k H') := h ▸ pt_truth ha he
end
theorem sp_none {K : Fg} {Z : Zs} {δ : Option Nat} : SOb K Z δ tNoPart none := rfl
theorem sp_some {K : Fg} {Z : Zs} {δ : Option Nat} {te : TE} {f : Ev → Mu → ER} (h : SE K Z δ te f) : SOb K Z δ (tPart te) (some f) := ⟨te, rfl, h⟩
end VF
end
section
set_option Elab.async false
set_option linter.all false
set_option maxRecDepth 100000
set_option maxHeartbeats 2000000
namespace VF
open PySem PySem.Spec L2
open PyProof.Rows hiding St

/-! ### stores into one's own lists: x[i] = v, x[i][j] = v -/
section
variable {K : Fg} {R H : Hp}
/-- one item of what is one's own, and the rest about it -/
theorem Ows.focus : ∀ {m : Lv} {vs : List V} {ds : List D} {w : List Addr}, Ows K R H m vs ds w → ∀ {j : Nat} {d : D}, ds[j]? = some d → ∃ v w1 wj w2, vs[j]? = some v ∧ w = w1 ++ (wj ++ w2) ∧ Ow K R H m v d wj ∧ (∀ p ∈ wj, p ∉ w1 ∧ p ∉ w2) ∧
    ∀ (m2 : Lv) (R' H' : Hp) (y : V) (e : D) (wy : List Addr), lle m2 m → Same R R' → (∀ p, p ∈ w1 ∨ p ∈ w2 → H' p = H p ∧ R' p = none) → Ow K R' H' m2 y e wy → (∀ p ∈ wy, p ∉ w1 ∧ p ∉ w2) → Ows K R' H' m2 (vs.set j y) (ds.set j e) (w1 ++ (wy ++ w2))
  | _, _, _, _, .nil, _, _, h => by simp at h
  | m, _, _, _, .cons (v := v) (vs := vs) (d := d0) (ds := ds) (w := w) (u := u) h t n, 0, d, e => by
    obtain rfl : d0 = d := by simpa using e
    refine ⟨v, [], w, u, rfl, rfl, h, fun p hp => ⟨(fun z => nomatch z), n p hp⟩, fun m2 R' H' y e' wy lm s k oy hy => ?_⟩
    show Ows K R' H' m2 (y :: vs) (e' :: ds) (wy ++ u)
    exact .cons oy (Ows.mv s (Ows.le lm t) fun p hp => k p (.inr hp)) fun p hp => (hy p hp).2
  | m, _, _, _, .cons (v := v) (vs := vs) (d := d0) (ds := ds) (w := w) (u := u) h t n, j + 1, d, e => by
    obtain ⟨vj, w1, wj, w2, h1, rfl, h3, h4, h5⟩ := Ows.focus t (j := j) (d := d) (by simpa using e)
    refine ⟨vj, w ++ w1, wj, w2, by simpa using h1, (List.append_assoc _ _ _).symm, h3, fun p hp => ⟨fun z => ?_, (h4 p hp).2⟩, fun m2 R' H' y e' wy lm s k oy hy => ?_⟩
    · rcases List.mem_append.mp z with z | z
      · exact n p z (List.mem_append_right _ (List.mem_append_left _ hp))
      · exact (h4 p hp).1 z
    · rw [List.append_assoc]
      refine .cons ((h.le lm).mv s fun p hp => k p (.inl (List.mem_append_left _ hp))) (h5 m2 R' H' y e' wy lm s (fun p hp => k p (hp.imp (fun z => List.mem_append_right _ z) id)) oy fun p hp => ⟨fun z => (hy p hp).1 (List.mem_append_right _ z), (hy p hp).2⟩) fun p hp z => ?_
      rcases List.mem_append.mp z with z | z
      · exact n p hp (List.mem_append_left _ z)
      · rcases List.mem_append.mp z with z | z
        · exact (hy p z).1 (List.mem_append_left _ hp)
        · exact n p hp (List.mem_append_right _ (List.mem_append_right _ z))
end
section
variable {K : Fg} {Z : Zs} {δ δ' : Option Nat} {bor bor' : List Nat}
/-- one object of a slot's own has changed -/
theorem chg_st {i : Nat} {σ : St} {fp : Fp} {R H : Hp} {Q : St → Hp → Prop} {ρ' : Sl} {H' R' : Hp} {fp' : Fp} {wv : List Addr} (G : Gr (InF fp) R H R' H') (r' : Reps K Z.pv R' H' σ ρ' fp') (n1 : ∀ p, InF fp' p → InF fp p ∨ H p = none)
    (n2 : ∀ p ∈ wv, (InF fp p ∨ H p = none) ∧ ¬ InF fp' p) {v : V} (hv : σ[i]? = some (some v)) {b : Bool} {m : Lv} {d1 : D} (e : ρ'[i]? = some (.ow b m d1)) {q0 : Addr} {o0 : HO} (hq : q0 ∈ fp' i) {m2 : Lv} {d2 : D} {w2 : List Addr}
    (hnew : Ow K R' (upd H' q0 o0) m2 v d2 w2) (hw : ∀ p ∈ w2, p ∈ fp' i ∨ p ∈ wv) (p : Stp K Z fp R H (ρ'.set i (.ow b m2 d2)) Q) : Q σ (upd H' q0 o0) := by
  obtain ⟨v', h1, hbv, o1⟩ := r'.at' i _ e
  have ev : v' = v := by
    rw [hv] at h1
    cases h1; rfl
  subst ev
  have hi : i < ρ'.length := (List.getElem?_eq_some_iff.mp e).1
  have hR : R' q0 = none := (r'.out q0 ⟨i, hq⟩).1
  have G2 : Gr (fun a => a = q0) R' H' R' (upd H' q0 o0) := Gr.upd r'.le hR
  have r1 : Reps K Z.pv R' (upd H' q0 o0) σ (ρ'.set i .no) (fpS fp' i []) := (r'.forget (i := i)).keep G2 fun p hp z => by
    subst z
    obtain ⟨j, hj⟩ := hp
    by_cases z : j = i
    · subst z; rw [fpS_eq] at hj; cases hj
    · rw [fpS_ne z] at hj; exact z (r'.dj j i p hj hq)
  have r2 := r1.setO (i := i) (b := b) (by simpa using hi) hbv hnew fun p hp hin => by
    obtain ⟨j, hj⟩ := hin
    by_cases z : j = i
    · subst z; rw [fpS_eq] at hj; cases hj
    · rw [fpS_ne z] at hj
      rcases hw p hp with hp | hp
      · exact z (r'.dj j i p hj hp)
      · exact (n2 p hp).2 ⟨j, hj⟩
  have eσ : σ.set i (some v') = σ := by
    apply List.ext_getElem?
    intro k
    by_cases z : i = k
    · subst z
      rw [List.getElem?_set_self (by rw [← r'.len]; exact hi), hv]
    · rw [List.getElem?_set_ne z]
  rw [eσ, List.set_set] at r2
  refine p σ _ R' _ (G.trans G2 fun p hp => n1 p (by subst hp; exact ⟨i, hq⟩)) r2 fun p hp => ?_
  rcases hp.fpS with z | z
  · rcases hw p z with z | z
    · exact n1 p ⟨i, z⟩
    · exact (n2 p z).1
  · rcases z.fpS with z | z
    · cases z
    · exact n1 p z
def setD (i : Nat) (m' : Lv) (d : D) (k : Int) (ρ : Sl) : SR := match ρ[i]? with
  | some (.ow b m (.list ds)) => if owned m then (match ixN ds.length k with
    | some j => .nx (ρ.set i (.ow b (lmin m (up m')) (.list (ds.set j d))))
    | none => .bad) else .bad
  | _ => .bad
theorem set_st {i : Nat} {σ : St} {fp : Fp} {R H : Hp} {D' : Ends} {m' : Lv} {d : D} {ρ' : Sl} {y : V} {k : Int} {H' R' : Hp} {fp' : Fp} {wv : List Addr} (G : Gr (InF fp) R H R' H') (r' : Reps K Z.pv R' H' σ ρ' fp') (o : Ow K R' H' m' y d wv) (n1 : ∀ p, InF fp' p → InF fp p ∨ H p = none)
    (n2 : ∀ p ∈ wv, (InF fp p ∨ H p = none) ∧ ¬ InF fp' p) {v : V} (hv : σ[i]? = some (some v)) (p : SPost K Z fp R H D' (setD i m' d k ρ')) : rSetL v (.int k) y H' (fun H1 => D'.nx σ H1) := by
  unfold setD at p
  split at p
  · rename_i b m ds e
    by_cases hc : owned m = true
    · rw [if_pos hc] at p
      obtain ⟨v', h1, hbv, o1⟩ := r'.at' i _ e
      have ev : v' = v := by
        rw [hv] at h1
        cases h1; rfl
      subst ev
      obtain ⟨q, vs, w', rfl, ew, hq, hR, hn, hz, os⟩ := o1.isLst hc
      have hl : vs.length = ds.length := Ows.length os
      cases hj : ixN ds.length k with
      | none => rw [hj] at p; exact p.elim
      | some j =>
        rw [hj] at p
        refine ⟨q, vs, k, j, rfl, rfl, hq, by rw [hl]; exact hj, ?_⟩
        have jl : j < ds.length := (ixN_seq hj).2.1
        obtain ⟨vj, w1, wj, w2, g1, g2, g3, g4, g5⟩ := Ows.focus os (j := j) (List.getElem?_eq_getElem jl)
        have qin : q ∈ fp' i := by rw [ew]; exact List.mem_cons_self
        have sub : ∀ {p}, p ∈ w1 ∨ p ∈ w2 → p ∈ w' := fun {p} h => by
          rw [g2]
          rcases h with h | h
          · exact List.mem_append_left _ h
          · exact List.mem_append_right _ (List.mem_append_right _ h)
        have ninp : ∀ {p}, p ∈ w' → p ∉ wv := fun {p} h z => (n2 p z).2 ⟨i, by rw [ew]; exact List.mem_cons_of_mem _ h⟩
        have G2 : Gr (fun a => a = q) R' H' R' (upd H' q (.lst (vs.set j y))) := Gr.upd r'.le hR
        have o2 := o.keep G2 fun p hp z => (n2 p hp).2 (by subst z; exact ⟨i, qin⟩)
        have hnew : Ow K R' (upd H' q (.lst (vs.set j y))) (lmin m (up m')) (.ref q) (.list (ds.set j d)) (q :: (w1 ++ (wv ++ w2))) := by
          refine .lst upd_same hR (fun z => ?_) (by rw [List.length_set]; exact hz) ?_
          · rcases List.mem_append.mp z with z | z
            · exact hn (sub (.inl z))
            · rcases List.mem_append.mp z with z | z
              · exact (n2 q z).2 ⟨i, qin⟩
              · exact hn (sub (.inr z))
          · exact g5 _ R' _ y d wv Lv.app1 (Same.refl R') (fun p hp => ⟨upd_ne fun z => hn (z ▸ sub hp), (Ows.out os p (sub hp)).1⟩) (o2.le Lv.app2) fun p hp => ⟨fun z => ninp (sub (.inl z)) hp, fun z => ninp (sub (.inr z)) hp⟩
        exact chg_st G r' n1 n2 hv e qin hnew (fun p hp => by
          rcases List.mem_cons.mp hp with rfl | hp
          · exact .inl qin
          · rcases List.mem_append.mp hp with hp | hp
            · exact .inl (by rw [ew]; exact List.mem_cons_of_mem _ (sub (.inl hp)))
            · rcases List.mem_append.mp hp with hp | hp
              · exact .inr hp
              · exact .inl (by rw [ew]; exact List.mem_cons_of_mem _ (sub (.inr hp)))) p
    · rw [if_neg hc] at p; exact p.elim
  · exact p.elim

/-- an evaluation that changes no list: all stands as it stood -/
def VPostN (K : Fg) (Z : Zs) (σ : St) (fp : Fp) (R H : Hp) (Q : VK) : ES → Prop
  | .bad => False
  | .ok m d ρ' => ∀ v H' R' fp' wv, (∀ a o, H a = some o → H' a = some o) → Gr (InF fp) R H R' H' → Reps K Z.pv R' H' σ ρ' fp' → Ow K R' H' m v d wv → (∀ p, InF fp' p → InF fp p ∨ H p = none) → (∀ p ∈ wv, (InF fp p ∨ H p = none) ∧ ¬ InF fp' p) → Q v H'
  | .rz c f => RPost K Z σ (InF fp) R H c f
theorem ev_okN {t : TE} {f : Ev → Mu → ER} {Q : VK} {σ : St} {ρ : Sl} {fp : Fp} {R H : Hp} (h : SE K Z none t f) (r : Reps K Z.pv R H σ ρ fp) (p : VPostN K Z σ fp R H Q (evS bor none f ρ)) : t σ H Q := by
  unfold evS at p
  by_cases hm : hasMu none (muOf none ρ) = true
  · rw [if_pos hm] at p
    refine h σ H (frzH R H (Bor bor fp)) (envF bor 0 ρ) (muOf none ρ) (wOf none fp) Q (frzH_up r.le) r.env (r.mu hm fun _ z => nomatch z) ?_
    cases q : f (envF bor 0 ρ) (muOf none ρ) with
    | bad => rw [q] at p; exact p
    | rz c f => rw [q] at p; exact RPost.ofBor r.le (fun p hp => wOf_in hp) p
    | ok m d μ' =>
      rw [q] at p
      dsimp only at p
      by_cases hm' : hasMu none μ' = true
      · rw [if_pos hm'] at p
        intro v H' R' w' wv G M o n1 n2
        have kp : ∀ a o, H a = some o → H' a = some o := fun a o e => G.keep a o (fun z => nomatch z) e
        obtain ⟨R2, fp', G2, r2, e2, a, b, c⟩ := r.after hm (fun _ z => nomatch z) G M hm' n1 (cloL m && cloMu μ') fun z => (Bool.and_eq_true_iff.mp z).2
        have o2 : Ow K R2 H' m v d wv := by
          cases hc : (cloL m && cloMu μ') with
          | true =>
            have hl := cloL_none (Bool.and_eq_true_iff.mp hc).1
            subst hl
            exact o.all fun p hp => ⟨rfl, c hc p (n2 p hp).1⟩
          | false => rw [e2 hc]; exact o
        refine p v H' R2 fp' wv kp G2 r2 o2 a fun p hp => ⟨?_, fun z => ?_⟩
        · rcases (n2 p hp).1 with z | z
          · exact .inl (wOf_in z)
          · exact .inr z
        · rcases b p z with z | ⟨z, z2⟩
          · exact (n2 p hp).2 z
          · rcases (n2 p hp).1 with y | y
            · exact z2 y
            · exact (r.out p z).2 y
      · rw [if_neg hm'] at p; exact p.elim
  · rw [if_neg hm] at p; exact p.elim
/-- x[i] = v -/
def sSet (i : Nat) (bor : List Nat) (δ : Option Nat) (f : Ev → Mu → ER) (bor' : List Nat) (g : Ev → Mu → ER) : Sl → SR := fun ρ => match ρ[i]? with
  | some (.ow _ m (.list _)) => if owned m then evB (evS bor δ f ρ) ρ (fun m' d ρ1 => evB (evS bor' none g ρ1) ρ1 fun _ kd ρ2 => match kd with
    | .int k => setD i m' d k ρ2
    | _ => .bad) else .bad
  | _ => .bad
theorem Ow.int {K : Fg} {R H : Hp} {m : Lv} {v : V} {k : Int} {w : List Addr} (o : Ow K R H m v (.int k) w) : v = .int k := by
  cases o with
  | fz h => cases h; rfl
  | sc h _ => cases h; rfl
theorem ss_set {i : Nat} {t ti : TE} {f g : Ev → Mu → ER} (h : SE K Z δ t f) (hb : ∀ j, δ = some j → bor.contains j = false) (hg : SE K Z none ti g) : SS K Z (tAsg t (gSub (tVar i) ti rSetL)) (sSet i bor δ f bor' g) := by
  intro σ H R ρ fp D' r p
  unfold sSet at p
  split at p
  · rename_i b m ds e
    by_cases hm : owned m = true
    · rw [if_pos hm] at p
      obtain ⟨v, h1, _, o⟩ := r.at' i _ e
      refine ev_st h hb r p fun m' d ρ1 y H1 R1 fp1 wv G1 r1 o1 n1 n2 p1 => ?_
      refine ⟨v, h1, ?_⟩
      refine ev_okN hg r1 (bor := bor') ?_
      unfold evB at p1
      cases q : evS bor' none g ρ1 with
      | bad => rw [q] at p1; exact p1
      | rz c f => rw [q] at p1; exact p1 σ H1 R1 fp1 G1 r1 n1
      | ok m2 kd ρ2 =>
        rw [q] at p1
        intro iv H2 R2 fp2 wv2 kp G2 r2 o2 n3 n4
        cases kd with
        | int k =>
          obtain rfl := o2.int
          refine set_st (G1.trans G2 n1) r2 (o1.keep G2 fun p hp => (n2 p hp).2) (fun p hp => (n3 p hp).elim (n1 p) fun z => (G1.back z).symm) (fun p hp => ⟨(n2 p hp).1, fun z => (n3 p z).elim (n2 p hp).2 (o1.out p hp).2⟩) h1 p1
        | _ => exact p1.elim
    · rw [if_neg hm] at p; exact p.elim
  · exact p.elim
def setD2 (i : Nat) (m' : Lv) (d : D) (k l : Int) (ρ : Sl) : SR := match ρ[i]? with
  | some (.ow b m (.list ds)) => if owned m && owned (pd m) then (match ixN ds.length k with
    | some j => (match ds[j]? with
      | some (.list es) => (match ixN es.length l with
        | some j2 => .nx (ρ.set i (.ow b (lmin m (up (up m'))) (.list (ds.set j (.list (es.set j2 d))))))
        | none => .bad)
      | _ => .bad)
    | none => .bad) else .bad
  | _ => .bad
def rowOk (s : Option Slot) (k : Int) : Bool := match s with
  | some (.ow _ m (.list ds)) => owned m && (ixN ds.length k).isSome
  | _ => false
/-- x[a][b] = v -/
def sSet2 (i : Nat) (bor : List Nat) (δ : Option Nat) (f : Ev → Mu → ER) (bora : List Nat) (fa : Ev → Mu → ER) (borb : List Nat) (fb : Ev → Mu → ER) : Sl → SR := fun ρ => match ρ[i]? with
  | some (.ow _ m (.list _)) => if owned m && (!borb.contains i) then evB (evS bor δ f ρ) ρ (fun m' d ρ1 => evB (evS bora none fa ρ1) ρ1 fun _ kd ρ2 => match kd with
    | .int k => if rowOk ρ2[i]? k then evB (evS borb none fb ρ2) ρ2 (fun _ ld ρ3 => match ld with
      | .int l => setD2 i m' d k l ρ3
      | _ => .bad) else .bad
    | _ => .bad) else .bad
  | _ => .bad
theorem Lv.app3 {m m' : Lv} : lle (pd (lmin m (up (up m')))) (pd m) := lle.pd lmin_l
theorem Lv.app4 {m m' : Lv} : lle (pd (pd (lmin m (up (up m'))))) m' := by
  have h : lle (pd (pd (lmin m (up (up m'))))) (pd (pd (up (up m')))) := lmin_r.pd.pd
  rwa [pd_up, pd_up] at h
theorem set2_st {i : Nat} {σ : St} {fp : Fp} {R H : Hp} {D' : Ends} {m' : Lv} {d : D} {ρ' : Sl} {y : V} {k l : Int} {H' R' : Hp} {fp' : Fp} {wv : List Addr} (G : Gr (InF fp) R H R' H') (r' : Reps K Z.pv R' H' σ ρ' fp') (o : Ow K R' H' m' y d wv) (n1 : ∀ p, InF fp' p → InF fp p ∨ H p = none)
    (n2 : ∀ p ∈ wv, (InF fp p ∨ H p = none) ∧ ¬ InF fp' p) {q : Addr} {vs : List V} {row : V} (hv : σ[i]? = some (some (.ref q))) (hq : H' q = some (.lst vs)) (hrow : L2.atI vs k = some row) (p : SPost K Z fp R H D' (setD2 i m' d k l ρ')) : rSetL row (.int l) y H' (fun H1 => D'.nx σ H1) := by
  unfold setD2 at p
  split at p
  · rename_i b m ds e
    by_cases hc : (owned m && owned (pd m)) = true
    · rw [if_pos hc] at p
      obtain ⟨c1, c2⟩ := Bool.and_eq_true_iff.mp hc
      obtain ⟨v', h1, hbv, o1⟩ := r'.at' i _ e
      have ev : v' = .ref q := by
        rw [hv] at h1
        cases h1; rfl
      subst ev
      obtain ⟨q', vs', w', eq', ew, hq', hR, hn, hz, os⟩ := o1.isLst c1
      cases eq'
      obtain rfl : vs' = vs := by
        rw [hq] at hq'
        cases hq'; rfl
      have hl : vs'.length = ds.length := Ows.length os
      have qin : q ∈ fp' i := by rw [ew]; exact List.mem_cons_self
      unfold L2.atI at hrow
      rw [hl] at hrow
      cases hj : ixN ds.length k with
      | none => rw [hj] at p; exact p.elim
      | some j =>
        rw [hj] at p hrow
        dsimp only at p
        have hrow : vs'[j]? = some row := hrow
        split at p
        · rename_i es hes
          cases hj2 : ixN es.length l with
          | none => rw [hj2] at p; exact p.elim
          | some j2 =>
            rw [hj2] at p
            obtain ⟨vj, w1, wj, w2, g1, g2, g3, g4, g5⟩ := Ows.focus os (j := j) hes
            obtain rfl : vj = row := by
              rw [hrow] at g1
              cases g1; rfl
            obtain ⟨qj, us, wr, rfl, ewr, hqj, hRj, hnj, hzj, osj⟩ := g3.isLst c2
            have hlj : us.length = es.length := Ows.length osj
            refine ⟨qj, us, l, j2, rfl, rfl, hqj, by rw [hlj]; exact hj2, ?_⟩
            have jl2 : j2 < es.length := (ixN_seq hj2).2.1
            have sub : ∀ {p}, p ∈ w1 ∨ p ∈ wj ∨ p ∈ w2 → p ∈ w' := fun {p} h => by
              rw [g2]
              rcases h with h | h | h
              · exact List.mem_append_left _ h
              · exact List.mem_append_right _ (List.mem_append_left _ h)
              · exact List.mem_append_right _ (List.mem_append_right _ h)
            have qjw : qj ∈ wj := by rw [ewr]; exact List.mem_cons_self
            have qjin : qj ∈ fp' i := by rw [ew]; exact List.mem_cons_of_mem _ (sub (.inr (.inl qjw)))
            have ninp : ∀ {p}, p ∈ w' → p ∉ wv := fun {p} h z => (n2 p z).2 ⟨i, by rw [ew]; exact List.mem_cons_of_mem _ h⟩
            have nqq : q ≠ qj := fun z => hn (by subst z; exact sub (.inr (.inl qjw)))
            have G2 : Gr (fun a => a = qj) R' H' R' (upd H' qj (.lst (us.set j2 y))) := Gr.upd r'.le hRj
            have o2 := o.keep G2 fun p hp z => (n2 p hp).2 (by subst z; exact ⟨i, qjin⟩)
            -- the row
            obtain ⟨vr, u1, ur, u2, f1, f2, f3, f4, f5⟩ := Ows.focus osj (j := j2) (List.getElem?_eq_getElem jl2)
            have subr : ∀ {p}, p ∈ u1 ∨ p ∈ u2 → p ∈ wr := fun {p} h => by
              rw [f2]
              rcases h with h | h
              · exact List.mem_append_left _ h
              · exact List.mem_append_right _ (List.mem_append_right _ h)
            have wrin : ∀ {p}, p ∈ wr → p ∈ wj := fun {p} h => by rw [ewr]; exact List.mem_cons_of_mem _ h
            have hrow2 : Ow K R' (upd H' qj (.lst (us.set j2 y))) (pd (lmin m (up (up m')))) (.ref qj) (.list (es.set j2 d)) (qj :: (u1 ++ (wv ++ u2))) := by
              refine .lst upd_same hRj (fun z => ?_) (by rw [List.length_set]; exact hzj) ?_
              · rcases List.mem_append.mp z with z | z
                · exact hnj (subr (.inl z))
                · rcases List.mem_append.mp z with z | z
                  · exact (n2 qj z).2 ⟨i, qjin⟩
                  · exact hnj (subr (.inr z))
              · exact f5 _ R' _ y d wv (lle.pd Lv.app3) (Same.refl R') (fun p hp => ⟨upd_ne fun z => hnj (z ▸ subr hp), (Ows.out osj p (subr hp)).1⟩) (o2.le Lv.app4) fun p hp => ⟨fun z => ninp (sub (.inr (.inl (wrin (subr (.inl z)))))) hp, fun z => ninp (sub (.inr (.inl (wrin (subr (.inr z)))))) hp⟩
            -- the whole
            have inr : ∀ {p}, p ∈ qj :: (u1 ++ (wv ++ u2)) → p ∈ wj ∨ p ∈ wv := fun {p} hp => by
              rcases List.mem_cons.mp hp with rfl | hp
              · exact .inl qjw
              · rcases List.mem_append.mp hp with hp | hp
                · exact .inl (wrin (subr (.inl hp)))
                · rcases List.mem_append.mp hp with hp | hp
                  · exact .inr hp
                  · exact .inl (wrin (subr (.inr hp)))
            have k1 := g5 (pd (lmin m (up (up m')))) R' (upd H' qj (.lst (us.set j2 y))) (.ref qj) (.list (es.set j2 d)) (qj :: (u1 ++ (wv ++ u2))) Lv.app3 (Same.refl R')
              (fun p hp => ⟨upd_ne fun z => by
                subst z
                rcases hp with hp | hp
                · exact (g4 _ qjw).1 hp
                · exact (g4 _ qjw).2 hp, (Ows.out os p (sub (hp.elim .inl fun z => .inr (.inr z)))).1⟩) hrow2 fun p hp => by
                rcases inr hp with z | z
                · exact g4 p z
                · exact ⟨fun x => ninp (sub (.inl x)) z, fun x => ninp (sub (.inr (.inr x))) z⟩
            have eset : vs'.set j (.ref qj) = vs' := by
              apply List.ext_getElem?
              intro n
              by_cases z : j = n
              · subst z
                rw [List.getElem?_set_self (List.getElem?_eq_some_iff.mp hrow).1, hrow]
              · rw [List.getElem?_set_ne z]
            rw [eset] at k1
            have in3 : ∀ {p}, p ∈ w1 ++ (qj :: (u1 ++ (wv ++ u2)) ++ w2) → p ∈ w' ∨ p ∈ wv := fun {p} hp => by
              rcases List.mem_append.mp hp with hp | hp
              · exact .inl (sub (.inl hp))
              · rcases List.mem_append.mp hp with hp | hp
                · exact (inr hp).imp (fun z => sub (.inr (.inl z))) id
                · exact .inl (sub (.inr (.inr hp)))
            have hnew : Ow K R' (upd H' qj (.lst (us.set j2 y))) (lmin m (up (up m'))) (.ref q) (.list (ds.set j (.list (es.set j2 d)))) (q :: (w1 ++ (qj :: (u1 ++ (wv ++ u2)) ++ w2))) := .lst (by rw [upd_ne nqq]; exact hq) hR (fun z => (in3 z).elim hn fun z => (n2 q z).2 ⟨i, qin⟩) hz k1
            exact chg_st G r' n1 n2 hv e qjin hnew (fun p hp => by
              rcases List.mem_cons.mp hp with rfl | hp
              · exact .inl qin
              · exact (in3 hp).imp (fun z => by rw [ew]; exact List.mem_cons_of_mem _ z) id) p
        · exact p.elim
    · rw [if_neg hc] at p; exact p.elim
  · exact p.elim
/-- x[a][b] = v -/
theorem ss_set2 {i : Nat} {t ta tb : TE} {f fa fb : Ev → Mu → ER} {bora borb : List Nat} (h : SE K Z δ t f) (hb : ∀ j, δ = some j → bor.contains j = false) (ha : SE K Z none ta fa) (hbb : SE K Z none tb fb) : SS K Z (tAsg t (gSub (tOp (rIx K) (tVar i) ta) tb rSetL)) (sSet2 i bor δ f bora fa borb fb) := by
  intro σ H R ρ fp D' r p
  unfold sSet2 at p
  split at p
  · rename_i b m ds e
    by_cases hm : (owned m && (!borb.contains i)) = true
    · rw [if_pos hm] at p
      obtain ⟨hm1, hm2⟩ := Bool.and_eq_true_iff.mp hm
      obtain ⟨v, h1, _, o⟩ := r.at' i _ e
      refine ev_st h hb r p fun m' d ρ1 y H1 R1 fp1 wv G1 r1 o1 n1 n2 p1 => ?_
      refine ⟨v, h1, ?_⟩
      refine ev_okN ha r1 (bor := bora) ?_
      unfold evB at p1
      cases q : evS bora none fa ρ1 with
      | bad => rw [q] at p1; exact p1
      | rz c f => rw [q] at p1; exact p1 σ H1 R1 fp1 G1 r1 n1
      | ok m2 kd ρ2 =>
        rw [q] at p1
        intro iv H2 R2 fp2 wv2 kp G2 r2 o2 n3 n4
        cases kd with
        | int k =>
          obtain rfl := o2.int
          have Ga := G1.trans G2 n1
          have na : ∀ p, InF fp2 p → InF fp p ∨ H p = none := fun p hp => (n3 p hp).elim (n1 p) fun z => (G1.back z).symm
          have n2a : ∀ p ∈ wv, (InF fp p ∨ H p = none) ∧ ¬ InF fp2 p := fun p hp => ⟨(n2 p hp).1, fun z => (n3 p z).elim (n2 p hp).2 (o1.out p hp).2⟩
          have oa := o1.keep G2 fun p hp => (n2 p hp).2
          -- the row's place
          dsimp only at p1
          by_cases hro : rowOk ρ2[i]? k = true
          · rw [if_pos hro] at p1
            unfold rowOk at hro
            split at hro
            · rename_i b2 ms ds2 e2
              obtain ⟨c1, c2⟩ := Bool.and_eq_true_iff.mp hro
              obtain ⟨v', g1, _, oo⟩ := r2.at' i _ e2
              obtain rfl : v' = v := by
                rw [h1] at g1
                cases g1; rfl
              obtain ⟨qq, vs, w', rfl, ew, hq, hR, hn, hz, os⟩ := oo.isLst c1
              have hl : vs.length = ds2.length := Ows.length os
              obtain ⟨j, hj⟩ := Option.isSome_iff_exists.mp c2
              have jl : j < vs.length := by rw [hl]; exact (ixN_seq hj).2.1
              have hrow : L2.atI vs k = some vs[j] := by
                unfold L2.atI
                rw [hl, hj]
                exact List.getElem?_eq_getElem jl
              refine .inl ⟨qq, vs, k, vs[j], rfl, rfl, SqL.of hq, hrow, ?_⟩
              refine ev_okN hbb r2 (bor := borb) ?_
              cases q3 : evS borb none fb ρ2 with
              | bad => rw [q3] at p1; exact p1.elim
              | rz c f => rw [q3] at p1; exact p1 σ H2 R2 fp2 Ga r2 na
              | ok m3 ld ρ3 =>
                rw [q3] at p1
                intro iv3 H3 R3 fp3 wv3 kp3 G3 r3 o3 n5 n6
                cases ld with
                | int l =>
                  obtain rfl := o3.int
                  exact set2_st (Ga.trans G3 na) r3 (oa.keep G3 fun p hp => (n2a p hp).2) (fun p hp => (n5 p hp).elim (na p) fun z => (Ga.back z).symm) (fun p hp => ⟨(n2 p hp).1, fun z => (n5 p z).elim (n2a p hp).2 (oa.out p hp).2⟩) h1 (kp3 _ _ hq) hrow p1
                | _ => exact p1.elim
            · cases hro
          · rw [if_neg hro] at p1; exact p1.elim
        | _ => exact p1.elim
    · rw [if_neg hm] at p; exact p.elim
  · exact p.elim
end
end VF
end
section
set_option Elab.async false
set_option linter.all false
set_option maxRecDepth 100000
set_option maxHeartbeats 2000000
namespace VF
open PySem PySem.Spec L2
open PyProof.Rows hiding St

/-! ### greater numbers; lists taken many times -/
def CPowW (i j : Int) : Prop := 0 ≤ j ∧ (Builtin.Int.intBits i : Int) * j ≤ 2 ^ 27
theorem op_powW {X : Cx} : OpR X (binaryOp .Pow) (rI CPowW fun i j => .int (i ^ j.toNat)) := opI fun _ _ _ _ _ _ _ hc q => pow_int hc.1 hc.2 q
def cPowW (i j : Int) : Bool := decide (0 ≤ j) && decide ((Builtin.Int.intBits i : Int) * j ≤ 2 ^ 27)
abbrev powWD : Op2 := icD cPowW fun i j => i ^ j.toNat
def cMulW (i j : Int) : Bool := decide (i.natAbs.log2 + j.natAbs.log2 < 1000000)
abbrev mulD : Op2 := icD cMulW fun i j => i * j
section
variable {K : Fg}
theorem rg_powW : RG2 K (rI CPowW fun i j => .int (i ^ j.toNat)) powWD := rg_ic fun i j h => by
  unfold cPowW at h
  rw [Bool.and_eq_true_iff] at h
  exact ⟨of_decide_eq_true h.1, of_decide_eq_true h.2⟩
theorem rg_mul : RG2 K (rI CMulW fun i j => .int (i * j)) mulD := rg_ic fun i j h => show i.natAbs.log2 + j.natAbs.log2 < 1000000 from of_decide_eq_true h
end
/-- [..] * k -/
def eRep (fa fb : Ev → Mu → ER) : Ev → Mu → ER := fun ε μ => match fa ε μ with
  | .ok m (.list ds) μ1 => if owned m then (match fb ε μ1 with
    | .ok _ (.int k) μ2 => if decide (0 ≤ k) && (decide (k ≤ (SZ : Int)) && decide (ds.length * k.toNat ≤ SZ)) then .ok (if ds.all scal then none else some 1) (.list (List.replicate k.toNat ds).flatten) μ2 else .bad
    | .ok _ _ _ => .bad
    | .bad => .bad
    | .rz c f => .rz c f) else .bad
  | .ok _ _ _ => .bad
  | .bad => .bad
  | .rz c f => .rz c f
section
variable {K : Fg} {Z : Zs} {δ : Option Nat}
theorem DAs.rep {R : Hp} {vs : List V} {ds : List D} (h : DAs K R vs ds) : ∀ n, DAs K R (List.replicate n vs).flatten (List.replicate n ds).flatten
  | 0 => .nil
  | n + 1 => by
    rw [List.replicate_succ, List.replicate_succ, List.flatten_cons, List.flatten_cons]
    exact h.append (DAs.rep h n)
theorem DAs.owsS {R H : Hp} {m : Lv} : ∀ {vs : List V} {ds : List D}, DAs K R vs ds → ds.all scal = true → Ows K R H m vs ds []
  | _, _, .nil, _ => .nil
  | _, _, .cons h t, s => by
    rw [List.all_cons, Bool.and_eq_true_iff] at s
    exact .cons (w := []) (u := []) (.sc h s.1) (DAs.owsS t s.2) fun _ z => nomatch z
theorem all_rep {ds : List D} (h : ds.all scal = true) : ∀ n, (List.replicate n ds).flatten.all scal = true
  | 0 => rfl
  | n + 1 => by rw [List.replicate_succ, List.flatten_cons, List.all_append, h, all_rep h n]; rfl
theorem len_rep {α : Type} (l : List α) : ∀ n, (List.replicate n l).flatten.length = l.length * n
  | 0 => rfl
  | n + 1 => by rw [List.replicate_succ, List.flatten_cons, List.length_append, len_rep l n, Nat.mul_succ, Nat.add_comm]
theorem se_rep {ta tb : TE} {fa fb : Ev → Mu → ER} (ha : SE K Z δ ta fa) (hb : SE K Z δ tb fb) : SE K Z δ (tOp rRep ta tb) (eRep fa fb) := by
  intro σ H R ε μ w Q s e M p
  refine ha σ H R ε μ w _ s e M ?_
  unfold eRep at p
  cases q : fa ε μ with
  | bad => rw [q] at p; exact p
  | rz c f => rw [q] at p; exact p
  | ok m d μ1 =>
    rw [q] at p
    intro v H1 R1 w1 wv G1 M1 o1 n1 n2
    cases d with
    | list ds =>
      dsimp only at p
      by_cases hm : owned m = true
      · rw [if_pos hm] at p
        obtain ⟨l, vs, w', rfl, ew, hq, hR, hn, hz, os⟩ := o1.isLst hm
        -- the items frozen
        have sF : Same R1 (frzH R1 H1 (Mem wv)) := frzH_le G1.rh
        have GF : Gr (Mem w) R H (frzH R1 H1 (Mem wv)) H1 := ⟨G1.rr.trans sF, frzH_up G1.rh, G1.keep, fun a ha => by
          by_cases q : a ∈ wv
          · rcases (n2 a q).1 with z | z
            · exact .inr (.inr z)
            · exact .inr (.inl z)
          · rw [frzH_out q] at ha
            exact G1.new a ha⟩
        have MF : MOk K (frzH R1 H1 (Mem wv)) H1 σ δ μ1 w1 := M1.mv sF fun p hp => ⟨rfl, by
          rw [frzH_out fun q => (n2 p q).2 hp]
          exact (M1.out p hp).1⟩
        have hvs : DAs K (frzH R1 H1 (Mem wv)) vs ds := Ows.frz sF os fun p hp => frzH_in (by rw [ew]; exact List.mem_cons_of_mem _ hp)
        have hl : frzH R1 H1 (Mem wv) l = some (.lst vs) := by rw [frzH_in (by rw [ew]; exact List.mem_cons_self)]; exact hq
        refine hb σ H1 _ ε μ1 w1 _ GF.rh (e.mono GF.rr) MF ?_
        cases q2 : fb ε μ1 with
        | bad => rw [q2] at p; exact p
        | rz c f => rw [q2] at p; exact RPost.on p GF n1
        | ok m2 d2 μ2 =>
          rw [q2] at p
          intro v2 H2 R2 w2 wv2 G2 M2 o2 n3 n4
          cases d2 with
          | int k =>
            dsimp only at p
            by_cases hc : (decide (0 ≤ k) && (decide (k ≤ (SZ : Int)) && decide (ds.length * k.toNat ≤ SZ))) = true
            · rw [if_pos hc] at p
              simp only [Bool.and_eq_true] at hc
              have c1 : 0 ≤ k := of_decide_eq_true hc.1
              have c2 : k ≤ (SZ : Int) := of_decide_eq_true hc.2.1
              have zz : ((SZ : Nat) : Int) = 1000000 := rfl
              have c3 : ds.length * k.toNat ≤ SZ := of_decide_eq_true hc.2.2
              obtain rfl := o2.int
              have hlen : vs.length = ds.length := hvs.length
              have G3 := GF.trans G2 n1
              refine ⟨l, k, vs, rfl, rfl, G2.rh _ _ (G2.rr _ _ hl), by omega, by omega, by rw [hlen]; exact sz_le c3, fun a ha => ?_⟩
              have GL := Gr.laid (o := .lst (List.replicate k.toNat vs).flatten) G2.rh ha
              have hRa : R2 a = none := Same.noH G2.rh ha
              have hr : DAs K R2 (List.replicate k.toNat vs).flatten (List.replicate k.toNat ds).flatten := (DAs.mono G2.rr hvs).rep _
              have hsz : (List.replicate k.toNat vs).flatten.length ≤ sizeLine := by rw [len_rep, hlen]; exact sz_le c3
              have fr : ∀ p, p ∈ w1 ∨ H1 p = none → p ∈ w ∨ H p = none := fun p hp => hp.elim (n1 p) fun z => (GF.back z).symm
              refine p (.ref a) _ R2 w2 [a] (G3.trans GL fun _ z => z.elim) (M2.keep GL fun _ _ z => z) ?_ (fun p hp => fr p (n3 p hp)) fun p hp => ?_
              · by_cases hs : ds.all scal = true
                · rw [if_pos hs]
                  exact .lst upd_same hRa (fun z => nomatch z) hsz (hr.owsS (all_rep hs _))
                · rw [if_neg hs]
                  exact .lst upd_same hRa (fun z => nomatch z) hsz (DAs.ows hr)
              · obtain rfl : p = a := by simpa using hp
                exact ⟨(G3.back ha).symm, fun z => (M2.out p z).2 ha⟩
            · rw [if_neg hc] at p; exact p.elim
          | _ => exact p.elim
      · rw [if_neg hm] at p; exact p.elim
    | _ => exact p.elim
end
end VF
end
section
set_option Elab.async false
set_option linter.all false
set_option maxRecDepth 100000
set_option maxHeartbeats 2000000
namespace VF
open PySem PySem.Spec L2
open PyProof.Rows hiding St

/-! ### calls by names; an empty dict -/
def permL {α : Type} : List Nat → List α → List α
  | [], _ => []
  | i :: π, l => match l[i]? with
    | some x => x :: permL π l
    | none => permL π l
def eDic : Ev → Mu → ER := fun _ μ => .ok none (.dict []) μ
def tPerm (n : Nat) (π : List Nat) (t : TA) : TA := fun σ H Q => t σ H fun zs H2 => zs.length = n ∧ Q (permL π zs) H2
def uPerm (n : Nat) (π : List Nat) (fi : Ev → Mu → IR) : Ev → Mu → IR := fun ε μ => match fi ε μ with
  | .ok os μ1 => if os.length = n then .ok (permL π os) μ1 else .bad
  | .bad => .bad
  | .rz c f => .rz c f
section
variable {K : Fg} {Z : Zs} {δ : Option Nat}
theorem AOk.cons {R : Hp} {σ : St} {v : V} {o : Option D} {vs : List V} {os : Ev} (h1 : ∀ d, o = some d → DA K R v d) (h2 : o = none → ∃ j, δ = some j ∧ σ[j]? = some (some v)) (a : AOk K R σ δ vs os) : AOk K R σ δ (v :: vs) (o :: os) := by
  refine ⟨by simp [a.len], fun k d e => ?_, fun k e => ?_⟩
  · cases k with
    | zero => exact ⟨v, rfl, h1 d (by simpa using e)⟩
    | succ k => simpa using a.dat k d (by simpa using e)
  · cases k with
    | zero =>
      obtain ⟨j, e1, e2⟩ := h2 (by simpa using e)
      exact ⟨j, v, e1, e2, rfl⟩
    | succ k => simpa using a.io k (by simpa using e)
theorem AOk.perm {R : Hp} {σ : St} {vs : List V} {os : Ev} (a : AOk K R σ δ vs os) : ∀ π : List Nat, AOk K R σ δ (permL π vs) (permL π os)
  | [] => ⟨rfl, fun k d h => by simp [permL] at h, fun k h => by simp [permL] at h⟩
  | i :: π => by
    unfold permL
    by_cases hi : i < os.length
    · have hv : i < vs.length := by rw [a.len]; exact hi
      rw [List.getElem?_eq_getElem hi, List.getElem?_eq_getElem hv]
      refine AOk.cons (fun d e => ?_) (fun e => ?_) (AOk.perm a π)
      · obtain ⟨v, h1, h2⟩ := a.dat i d (by rw [List.getElem?_eq_getElem hi, e])
        rw [List.getElem?_eq_getElem hv] at h1
        cases h1; exact h2
      · obtain ⟨j, v, h1, h2, h3⟩ := a.io i (by rw [List.getElem?_eq_getElem hi, e])
        rw [List.getElem?_eq_getElem hv] at h3
        cases h3; exact ⟨j, h1, h2⟩
    · rw [List.getElem?_eq_none (Nat.le_of_not_lt hi), List.getElem?_eq_none (by rw [a.len]; exact Nat.le_of_not_lt hi)]
      exact AOk.perm a π
theorem su_perm {n : Nat} {π : List Nat} {t : TA} {fi : Ev → Mu → IR} (h : SU K Z δ t fi) : SU K Z δ (tPerm n π t) (uPerm n π fi) := by
  intro σ H R ε μ w Q s e M p
  refine h σ H R ε μ w _ s e M ?_
  unfold uPerm at p
  cases q : fi ε μ with
  | bad => rw [q] at p; exact p
  | rz c f => rw [q] at p; exact p
  | ok os μ1 =>
    rw [q] at p
    dsimp only at p
    by_cases hl : os.length = n
    · rw [if_pos hl] at p
      exact fun vs H' R' w' G M' n1 a => ⟨a.len.trans hl, p _ H' R' w' G M' n1 (a.perm π)⟩
    · rw [if_neg hl] at p; exact p.elim
theorem se_dnew : SE K Z δ tDNewK eDic := by
  intro σ H R ε μ w Q s e M p l hl
  have G2 := Gr.laid (o := .dK []) s hl
  refine p (.ref l) _ R w [l] (G2.mono fun _ z => z.elim) (M.keep G2 fun _ _ z => z) (.dic upd_same (Same.noH s hl)) (fun _ hp => .inl hp) fun p hp => ?_
  obtain rfl : p = l := by simpa using hp
  exact ⟨.inr hl, fun z => (M.out p z).2 hl⟩
end
theorem vals_at {vs : List V} {us : List Value} (r : Vals vs us) {i : Nat} (h : i < vs.length) (h2 : i < us.length) : RelV vs[i] us[i] := by
  obtain ⟨u, h3, h4⟩ := Vals.get r (List.getElem?_eq_getElem h)
  rw [List.getElem?_eq_getElem h2] at h3
  cases h3; exact h4
theorem vals_perm {vs : List V} {us : List Value} (r : Vals vs us) : ∀ π : List Nat, Vals (permL π vs) (permL π us)
  | [] => .nil
  | i :: π => by
    have hl := r.length
    unfold permL
    by_cases hi : i < vs.length
    · have hu : i < us.length := by rw [← hl]; exact hi
      rw [List.getElem?_eq_getElem hi, List.getElem?_eq_getElem hu]
      exact .cons (vals_at r hi hu) (vals_perm r π)
    · rw [List.getElem?_eq_none (Nat.le_of_not_lt hi), List.getElem?_eq_none (by rw [← hl]; exact Nat.le_of_not_lt hi)]
      exact vals_perm r π
section
variable {X : Cx} {st : Stmt} {k : Nat} {ps ks : List Str} {sp : Sp} {E : L2.St → XK} {x : Str} {p pos : Pos} {kws : List Keyword} {tk : TA} {π : List Nat} {n : Nat}
theorem pe_caW (c : Cal X.prog X.w X.K X.mg X.base x st ps k sp) (hr : Room k X.A) (hg : X.A.guards = some []) (hx : ∀ σ, PassesAt (L2.CX X.prog X.w) X σ (E σ)) (gl : Gl X x)
    (hb : ∀ (kV doc pm : Value) (an : Option Addr) (cdv ct : Value) (ws : List Value), ws.length = n → bindArgs (PySem.W.fnOf x x (defArgs st) (defBody st) (defScope st) .none kV doc pm an cdv ct) ⟨[], ks.zip ws⟩ = pure (ps.zip (permL π ws)))
    (hkw : PK X kws tk) (hall : (backToKw pos (keywordEach kws X.env)).all (·.1.isSome) = true := by rfl) (hks : (backToKw pos (keywordEach kws X.env)).filterMap (·.1) = ks := by rfl)
    (hdb : (x == ("__debug__" : Str)) = false := by decide)
    (hpl : ((backTo pos (starEach [] X.env)).any (·.1) || (backToKw pos (keywordEach kws X.env)).any (·.1.isNone)) = false := by rfl) :
    PE X (.Call (.Name x p) [] kws pos) (tCallS sp E (tPerm n π tk)) := by
  obtain ⟨f, fd, hm, hk, _, F, Fu⟩ := c
  obtain ⟨oc, od, kV, doc, pm, an, cdv, ct, osl, rfl, lk, hcd⟩ := Fu.ex
  refine ⟨fun pins s σ H Q I h => ?_⟩
  refine wpAny_Call_Name_kw (ld_glob I gl hm ?_ hdb)
  refine PySem.W.callWith_KW0 (h₀ := X.base) I.ok.mod.kin hk hall (thn (hkw.run pos pins s σ H _ I h) fun ws s1 ⟨zs, H1, I1, r, hl, q⟩ => ⟨I1.kIn, ?_⟩) hpl
  rw [hks]
  have b := hb kV doc pm an cdv ct ws (r.length.symm.trans hl)
  refine wpAny_call (codeAny_mono (F.run X.A X.stack s1 H1 ⟨[], ks.zip ws⟩ (permL π ws) (permL π zs) Q (E σ) hr hg I1.env0 (.of_eq b) (vals_perm r π) q) ?_)
  rintro (er | fl) s' z
  · exact hx σ pins H1 s1 er s' I1 z
  · cases fl with
    | ret u => exact I1.after z
    | next => exact z.elim
    | brk => exact z.elim
    | cont => exact z.elim
end
end VF
end
section
set_option Elab.async false
set_option linter.all false
set_option maxRecDepth 100000
set_option maxHeartbeats 2000000
namespace VF
open PySem PySem.Spec L2
open PyProof.Rows hiding St

/-! ### ranges as values -/
def rRngV : List V → Hp → VK → Prop := fun xs H Q => (∃ j, xs = [V.int j] ∧ ∀ p, H p = none → Q (.ref p) (upd H p (.rng 0 j))) ∨ ∃ i j, xs = [V.int i, V.int j] ∧ ∀ p, H p = none → Q (.ref p) (upd H p (.rng i j))
theorem cr_rngV {X : Cx} : CallR X (.type "range") rRngV := by
  intro pins s σ H vs us Q I r h
  rcases h with ⟨j, rfl, q⟩ | ⟨i, j, rfl, q⟩
  · obtain ⟨u1, rfl, rj⟩ := vals1 r
    obtain ⟨t, rfl⟩ := rj
    refine call_range_1 ⟨.ref s.heap.objs.size, upd H s.heap.objs.size (.rng 0 j), I.laid (t' := s.toks + 1 + 1) (fun b o e => Heap.get?_push_of_some _ e) (Nat.le_refl _) ?_, rfl, q _ (I.hok.fresh (Nat.le_refl _))⟩
    exact ⟨_, _, _, Heap.get?_push_size _ rfl⟩
  · obtain ⟨u1, u2, rfl, ri, rj⟩ := vals2 r
    obtain ⟨t, rfl⟩ := ri
    obtain ⟨u, rfl⟩ := rj
    refine call_range_2 ⟨.ref s.heap.objs.size, upd H s.heap.objs.size (.rng i j), I.laid (t' := s.toks + 1) (fun b o e => Heap.get?_push_of_some _ e) (Nat.le_refl _) ?_, rfl, q _ (I.hok.fresh (Nat.le_refl _))⟩
    exact ⟨t, u, s.toks, Heap.get?_push_size _ rfl⟩
def rngVD : OpN
  | [.int j] => some (some 0, dRng 0 j)
  | [.int i, .int j] => some (some 0, dRng i j)
  | _ => none
section
variable {K : Fg}
/-- a new thing that is frozen at once -/
theorem RPostD.frz {R H : Hp} {Q : VK} {d : D} {o : HO} (s : Same R H) {a : Addr} (ha : H a = none) (h : ∀ R', R' a = some o → DA K R' (.ref a) d) (p : RPostD K R H Q (some (some 0, d))) : Q (.ref a) (upd H a o) := by
  have GL := Gr.laid (o := o) s ha
  refine p (.ref a) (upd H a o) (frzH R (upd H a o) (fun q => q = a)) [] ⟨frzH_le GL.rh, frzH_up GL.rh, GL.keep, fun q hq => ?_⟩ (.fz (h _ ?_)) fun q hq => nomatch hq
  · by_cases z : q = a
    · subst z; exact .inr (.inl ha)
    · rw [frzH_out (w := fun q => q = a) z] at hq; exact .inl hq
  · rw [frzH_in (w := fun q => q = a) rfl]; exact upd_same
theorem rn_rngV : RGN K rRngV rngVD := by
  intro R H xs ds Q s o p
  unfold rngVD at p
  split at p
  · cases o with
    | cons h t => cases t with
      | nil => cases h with
        | int _ => exact .inl ⟨_, rfl, fun a ha => RPostD.frz s ha (fun R' e => .rng e) p⟩
  · cases o with
    | cons h t => cases t with
      | cons h2 t => cases t with
        | nil => cases h with
          | int _ => cases h2 with
            | int _ => exact .inr ⟨_, _, rfl, fun a ha => RPostD.frz s ha (fun R' e => .rng e) p⟩
  · exact p.elim
end
/-! ### len(set(x)) of different ints; sorted(x) of ints -/
def lenSetD : Op1
  | .list ds => (match intsOf ds with
    | some ns => if decide ns.Nodup && decide (ns.length ≤ 4000) then some (none, .int (ns.length : Nat)) else none
    | none => none)
  | _ => none
theorem se_lenset {K : Fg} {Z : Zs} {δ : Option Nat} {ta : TE} {fa : Ev → Mu → ER} (h : SE K Z δ ta fa) : SE K Z δ (RZ.tLenSetI K ta) (eOp1 lenSetD fa) := by
  intro σ H R ε μ w Q s e M p
  refine h.then (Q := Q) s e M (fun d μ1 => erO μ1 (lenSetD d)) p fun v H1 R1 w1 d μ1 G1 e1 M1 o1 p1 => ?_
  have p2 := EPost.op M1 p1
  unfold lenSetD at p2
  split at p2
  · rename_i l
    cases q : intsOf l with
    | none => rw [q] at p2; exact p2.elim
    | some ns =>
      rw [q] at p2
      dsimp only at p2
      split at p2
      · rename_i z
        obtain ⟨z1, z2⟩ := Bool.and_eq_true_iff.mp z
        cases o1 with
        | lst hs hz o =>
          exact ⟨_, ns, rfl, by rw [← o.ints q]; exact G1.rh.seq hs, of_decide_eq_true z1, of_decide_eq_true z2, RPostD.now p2 G1.rh (.sc (.int _) rfl)⟩
      · exact p2.elim
  · exact p2.elim
def insI (x : Int) : List Int → List Int
  | [] => [x]
  | y :: r => if x ≤ y then x :: y :: r else y :: insI x r
def srtI : List Int → List Int
  | [] => []
  | x :: r => insI x (srtI r)
theorem insI_perm (x : Int) : ∀ l : List Int, (insI x l).Perm (x :: l)
  | [] => .refl _
  | y :: r => by
    unfold insI
    by_cases h : x ≤ y
    · rw [if_pos h]
    · rw [if_neg h]; exact ((insI_perm x r).cons y).trans (.swap x y r)
theorem srtI_perm : ∀ l : List Int, (srtI l).Perm l
  | [] => .refl _
  | x :: r => (insI_perm x _).trans ((srtI_perm r).cons x)
theorem insI_sorted (x : Int) : ∀ {l : List Int}, l.Pairwise (· ≤ ·) → (insI x l).Pairwise (· ≤ ·)
  | [], _ => by simp [insI]
  | y :: r, h => by
    obtain ⟨h1, h2⟩ := List.pairwise_cons.mp h
    unfold insI
    by_cases z : x ≤ y
    · rw [if_pos z]
      refine List.pairwise_cons.mpr ⟨fun a ha => ?_, h⟩
      rcases List.mem_cons.mp ha with rfl | ha
      · exact z
      · exact Int.le_trans z (h1 a ha)
    · rw [if_neg z]
      refine List.pairwise_cons.mpr ⟨fun a ha => ?_, insI_sorted x h2⟩
      rcases List.mem_cons.mp ((insI_perm x r).mem_iff.mp ha) with rfl | ha
      · omega
      · exact h1 a ha
theorem srtI_sorted : ∀ l : List Int, (srtI l).Pairwise (· ≤ ·)
  | [] => .nil
  | x :: r => insI_sorted x (srtI_sorted r)
theorem sorted_uniq : ∀ {l m : List Int}, l.Perm m → l.Pairwise (· ≤ ·) → m.Pairwise (· ≤ ·) → l = m
  | [], m, p, _, _ => by rw [List.nil_perm.mp p]
  | x :: r, [], p, _, _ => by simp at p
  | x :: r, y :: q, p, h1, h2 => by
    obtain ⟨a1, a2⟩ := List.pairwise_cons.mp h1
    obtain ⟨b1, b2⟩ := List.pairwise_cons.mp h2
    have e : x = y := by
      have hx : x ∈ y :: q := p.mem_iff.mp List.mem_cons_self
      have hy : y ∈ x :: r := p.mem_iff.mpr List.mem_cons_self
      rcases List.mem_cons.mp hx with e | hx
      · exact e
      · rcases List.mem_cons.mp hy with e | hy
        · exact e.symm
        · exact Int.le_antisymm (a1 y hy) (b1 x hx)
    subst e
    rw [sorted_uniq (List.Perm.cons_inv p) a2 b2]
def sortedD : OpN
  | [.list ds] => (match intsOf ds with
    | some ns => if ns.length < 64 then some (none, .list ((srtI ns).map PyData.int)) else none
    | none => none)
  | _ => none
theorem das_ints {K : Fg} {R : Hp} : ∀ ns : List Int, DAs K R (ns.map V.int) (ns.map PyData.int)
  | [] => .nil
  | n :: r => .cons (.int n) (das_ints r)
theorem rn_sorted {K : Fg} : RGN K (rSorted K) sortedD := by
  intro R H xs ds Q s o p
  unfold sortedD at p
  split at p
  · rename_i l
    cases q : intsOf l with
    | none => rw [q] at p; exact p.elim
    | some ns =>
      rw [q] at p
      dsimp only at p
      by_cases z : ns.length < 64
      · rw [if_pos z] at p
        cases o with
        | cons h t => cases t with
          | nil => cases h with
            | lst hs hz o =>
              refine ⟨_, ns, rfl, by rw [← o.ints q]; exact s.seq hs, z, fun ns' a hp hsr ha => ?_⟩
              obtain rfl : ns' = srtI ns := sorted_uniq (hp.trans (srtI_perm ns).symm) hsr (srtI_sorted ns)
              have G := Gr.laid (o := .lst ((srtI ns).map V.int)) s ha
              have hn : R a = none := Same.noH s ha
              refine p _ _ R [a] G (.lst upd_same hn (fun z => nomatch z) ?_ ?_) fun q hq => ?_
              · rw [List.length_map, (srtI_perm ns).length_eq]; exact sz_le (by show _ ≤ 1000000; omega)
              · exact DAs.owsS (das_ints _) (by rw [List.all_map]; exact List.all_eq_true.mpr fun _ _ => rfl)
              · obtain rfl : q = a := by simpa using hq
                exact ha
      · rw [if_neg z] at p; exact p.elim
  · exact p.elim
theorem cr_sortedK {X : Cx} {K : Fg} (h : X.K = K) : CallR X (.builtin "sorted") (rSorted K) := h ▸ cr_sorted
theorem pe_lensetK {X : Cx} {K : Fg} (h : X.K = K) {a : Expr} {ta : TE} {p p2 q pos : Pos} (hg : Gl X "len") (hm : X.mg "len" = none) (hg2 : Gl X "set") (hm2 : X.mg "set" = none) (ha : PE X a ta) (hc : X.calm = true)
    (na : starEach [a] X.env = (false, eval a X.env) :: starEach [] X.env) : PE X (.Call (.Name "len" p) [.Call (.Name "set" p2) [a] [] q] [] pos) (RZ.tLenSetI K ta) := h ▸ RZ.pe_lenSetI hg hm hg2 hm2 ha hc na
end VF
end
section
set_option Elab.async false
set_option linter.all false
set_option maxRecDepth 100000
set_option maxHeartbeats 2000000
namespace VF
open PySem PySem.Spec L2
open PyProof.Rows hiding St

/-! ### a new list handed in to be changed -/
inductive UR where
  | bad
  | ok (os : Ev) (m : Lv) (d : D) (μ : Mu)
  | rz (c : Str) (f : Option (Str × D))
def UTPost (K : Fg) (Z : Zs) (σ : St) (δ : Option Nat) (k : Nat) (w : List Addr) (R H : Hp) (Q : List V → Hp → Prop) : UR → Prop
  | .bad => False
  | .ok os m d μ' => ∀ vs H' R' w' wt v, Gr (Mem w) R H R' H' → MOk K R' H' σ δ μ' w' → (∀ p ∈ w', p ∈ w ∨ H p = none) → vs.length = os.length → (∀ (i : Nat) (e : D), os[i]? = some (some e) → ∃ u, vs[i]? = some u ∧ DA K R' u e) → vs[k]? = some v → Ow K R' H' m v d wt →
      (∀ p ∈ wt, (p ∈ w ∨ H p = none) ∧ p ∉ w') → Q vs H'
  | .rz c f => RPost K Z σ (Mem w) R H c f
def SUT (K : Fg) (Z : Zs) (δ : Option Nat) (k : Nat) (t : TA) (f : Ev → Mu → UR) : Prop :=
  ∀ σ H R ε μ w Q, Same R H → EOk K R σ ε → MOk K R H σ δ μ w → UTPost K Z σ δ k w R H Q (f ε μ) → t σ H Q
def wHere (fe : Ev → Mu → ER) (fr : Ev → Mu → IR) : Ev → Mu → UR := fun ε μ => match fe ε μ with
  | .ok m d μ1 => (match fr ε μ1 with
    | .ok os μ2 => if os.all Option.isSome then .ok (none :: os) m d μ2 else .bad
    | .bad => .bad
    | .rz c f => .rz c f)
  | .bad => .bad
  | .rz c f => .rz c f
def wCons (fe : Ev → Mu → ER) (fr : Ev → Mu → UR) : Ev → Mu → UR := fun ε μ => match fe ε μ with
  | .ok _ e μ1 => (match fr ε μ1 with
    | .ok os m d μ2 => .ok (some e :: os) m d μ2
    | .bad => .bad
    | .rz c f => .rz c f)
  | .bad => .bad
  | .rz c f => .rz c f
def eUserT (k n : Nat) (M : Ev → Mu → ER) (fi : Ev → Mu → UR) : Ev → Mu → ER := fun ε μ => match fi ε μ with
  | .ok os m0 d0 μ1 => if os.length = n then (match M os (some (m0, d0)) with
    | .ok m d _ => .ok m d μ1
    | .bad => .bad
    | .rz c f => .rz c f) else .bad
  | .bad => .bad
  | .rz c f => .rz c f
section
variable {K : Fg} {Z : Zs} {δ : Option Nat}
theorem sut_here {te : TE} {tr : TA} {fe : Ev → Mu → ER} {fr : Ev → Mu → IR} (he : SE K Z δ te fe) (hr : SU K Z δ tr fr) : SUT K Z δ 0 (tCons te tr) (wHere fe fr) := by
  intro σ H R ε μ w Q s e M p
  refine he σ H R ε μ w _ s e M ?_
  unfold wHere at p
  cases q : fe ε μ with
  | bad => rw [q] at p; exact p
  | rz c f => rw [q] at p; exact p
  | ok m d μ1 =>
    rw [q] at p
    intro v H1 R1 w1 wv G1 M1 o1 n1 k1
    refine hr σ H1 R1 ε μ1 w1 _ G1.rh (e.mono G1.rr) M1 ?_
    dsimp only at p
    have fr1 : ∀ p, p ∈ w1 ∨ H1 p = none → p ∈ w ∨ H p = none := fun p hp => hp.elim (n1 p) fun z => (G1.back z).symm
    cases q2 : fr ε μ1 with
    | bad => rw [q2] at p; exact p
    | rz c f => rw [q2] at p; exact RPost.on p G1 n1
    | ok os μ2 =>
      rw [q2] at p
      dsimp only at p
      by_cases ha : os.all Option.isSome = true
      · rw [if_pos ha] at p
        intro vs H2 R2 w2 G2 M2 n2 a
        have o2 := o1.keep G2 fun p hp => (k1 p hp).2
        refine p (v :: vs) H2 R2 w2 wv v (G1.trans G2 n1) M2 (fun p hp => fr1 p (n2 p hp)) (by simp [a.len]) (fun i e' he' => ?_) rfl o2 fun p hp => ⟨(k1 p hp).1, fun z => ?_⟩
        · cases i with
          | zero => simp at he'
          | succ i => simpa using a.dat i e' (by simpa using he')
        · rcases n2 p z with z | z
          · exact (k1 p hp).2 z
          · exact (o1.out p hp).2 z
      · rw [if_neg ha] at p; exact p.elim
theorem sut_cons {k : Nat} {te : TE} {tr : TA} {fe : Ev → Mu → ER} {fr : Ev → Mu → UR} (he : SE K Z δ te fe) (hr : SUT K Z δ k tr fr) : SUT K Z δ (k + 1) (tCons te tr) (wCons fe fr) := by
  intro σ H R ε μ w Q s e M p
  unfold wCons at p
  refine he.f s e M ?_
  cases q : fe ε μ with
  | bad => rw [q] at p; exact p
  | rz c f => rw [q] at p; exact p
  | ok m d μ1 =>
    rw [q] at p
    intro v H1 R1 w1 G1 M1 n1 o1
    refine hr σ H1 R1 ε μ1 w1 _ G1.rh (e.mono G1.rr) M1 ?_
    dsimp only at p
    have fr1 : ∀ p, p ∈ w1 ∨ H1 p = none → p ∈ w ∨ H p = none := fun p hp => hp.elim (n1 p) fun z => (G1.back z).symm
    cases q2 : fr ε μ1 with
    | bad => rw [q2] at p; exact p
    | rz c f => rw [q2] at p; exact RPost.on p G1 n1
    | ok os m0 d0 μ2 =>
      rw [q2] at p
      intro vs H2 R2 w2 wt v0 G2 M2 n2 hl hd hv o2 k2
      refine p (v :: vs) H2 R2 w2 wt v0 (G1.trans G2 n1) M2 (fun p hp => fr1 p (n2 p hp)) (by simp [hl]) (fun i e' he' => ?_) (by simpa using hv) o2 fun p hp => ⟨fr1 p (k2 p hp).1, (k2 p hp).2⟩
      cases i with
      | zero =>
        have : d = e' := by simpa using he'
        exact ⟨v, rfl, this ▸ o1.mono G2.rr⟩
      | succ i => simpa using hd i e' (by simpa using he')
theorem se_userT {k n : Nat} {M : Ev → Mu → ER} {t : TA} {fi : Ev → Mu → UR} (h : SUT K Z δ k t fi) : SE K Z δ (tCallS (spV K Z.ea (some k) n M) (WE Z.W) t) (eUserT k n M fi) := by
  intro σ H R ε μ w Q s e Mo p
  refine h σ H R ε μ w _ s e Mo ?_
  unfold eUserT at p
  cases q : fi ε μ with
  | bad => rw [q] at p; exact p
  | rz c f => rw [q] at p; exact p
  | ok os m0 d0 μ1 =>
    rw [q] at p
    dsimp only at p
    by_cases hn : os.length = n
    · rw [if_pos hn] at p
      intro vs H1 R1 w1 wt v G1 M1 n1 hl hd hv o1 k1
      have fr1 : ∀ p, p ∈ wt ∨ H1 p = none → p ∈ w ∨ H p = none := fun p hp => hp.elim (fun z => (k1 p z).1) fun z => (G1.back z).symm
      refine ⟨hl.trans hn, R1, os, some (m0, d0), wt, hn, G1.rh, ⟨by rw [List.length_map, hl]; exact Nat.le_refl _, fun i e' he' => ?_⟩, rfl, ⟨v, by rw [List.getElem?_map, hv]; rfl, o1⟩, ?_⟩
      · obtain ⟨u, h1, h2⟩ := hd i e' he'
        exact ⟨u, by rw [List.getElem?_map, h1]; rfl, h2⟩
      · cases q2 : M os (some (m0, d0)) with
        | bad => rw [q2] at p; exact p
        | rz c f =>
          rw [q2] at p
          cases f with
          | none => exact fun H' R' G => p H' R' (G1.trans G fun p hp => (k1 p hp).1)
          | some nd => exact fun H' R' v dd G hv h1 hn => p H' R' v dd (G1.trans G fun p hp => (k1 p hp).1) hv h1 (fr1 dd hn)
        | ok m d μ2 =>
          rw [q2] at p
          intro v2 H2 R2 w2 wv G2 M2 o2 n2 k2
          refine p v2 H2 R2 w1 wv (G1.trans G2 fun p hp => (k1 p hp).1) (M1.keep G2 fun p hp z => (k1 p z).2 hp) o2 n1 fun p hp => ⟨fr1 p (k2 p hp).1, fun z => ?_⟩
          rcases (k2 p hp).1 with y | y
          · exact (k1 p y).2 z
          · exact (M1.out p z).2 y
    · rw [if_neg hn] at p; exact p.elim
end
end VF
end
section
set_option Elab.async false
set_option linter.all false
set_option maxRecDepth 100000
set_option maxHeartbeats 2000000
namespace VF
open PySem PySem.Spec L2
open PyProof.Rows hiding St

/-! ### x[::-1] -/
def lvS (ds : List D) : Lv := if ds.all scal then none else some 1
theorem RPostD.listS {K : Fg} {R H : Hp} {Q : VK} {vs : List V} {ds : List D} (s : Same R H) (o : DAs K R vs ds) (z : vs.length ≤ sizeLine) (p : RPostD K R H Q (some (lvS ds, .list ds))) : ∀ a, H a = none → Q (.ref a) (upd H a (.lst vs)) := by
  intro a ha
  have G := Gr.laid (o := .lst vs) s ha
  have hn : R a = none := Same.noH s ha
  refine p _ _ R [a] G (.lst upd_same hn (fun z => nomatch z) z ?_) fun q hq => by
    have : q = a := by simpa using hq
    rw [this]; exact ha
  unfold lvS
  by_cases h : ds.all scal = true
  · rw [if_pos h]; exact DAs.owsS o h
  · rw [if_neg h]; exact DAs.ows o
def revD : Op1
  | .list ds => some (lvS ds.reverse, .list ds.reverse)
  | _ => none
theorem se_rev {K : Fg} {Z : Zs} {δ : Option Nat} {ta : TE} {fa : Ev → Mu → ER} (h : SE K Z δ ta fa) : SE K Z δ (tRevL K ta) (eOp1 revD fa) := by
  intro σ H R ε μ w Q s e M p
  refine h.then (Q := Q) s e M (fun d μ1 => erO μ1 (revD d)) p fun v H1 R1 w1 d μ1 G1 e1 M1 o1 p1 => ?_
  have p2 := EPost.op M1 p1
  unfold revD at p2
  split at p2
  · cases o1 with
    | lst hs hz o => exact ⟨_, _, rfl, G1.rh.seq hs, RPostD.listS G1.rh (DAs.reverse o) (by rw [List.length_reverse]; exact hz) p2⟩
  · exact p2.elim
theorem pe_revK {X : Cx} {K : Fg} (h : X.K = K) {e : Expr} {te : TE} {k : Nat} {p1 p2 p3 pos : Pos} (he : PE X e te) : PE X (.Subscript e (.Slice none none (some (.UnaryOp .USub (.Constant (.int 1) k p1) p2)) p3) pos) (tRevL K te) := h ▸ pe_revL he

/-! ### comprehensions of two sources -/
structure Sta (K : Fg) (R1 H1 : Hp) (D0 : Addr) (m : Lv) (accD : List D) (R' H' : Hp) (acc : List V) (wa : List Addr) : Prop where
  gr : Gr (fun a => a = D0) R1 H1 R' H'
  at' : H' D0 = some (.lst acc)
  no : R' D0 = none
  ows : Ows K R' H' m acc accD wa
  nin : D0 ∉ wa
  fr : ∀ p ∈ wa, H1 p = none
section
variable {K : Fg} {R1 H1 R2 H2 R3 H3 : Hp} {D0 : Addr} {m : Lv} {accD : List D} {acc : List V} {wa : List Addr}
theorem Sta.step (h : Sta K R1 H1 D0 m accD R2 H2 acc wa) (G : Gr (fun _ => False) R2 H2 R3 H3) : Sta K R1 H1 D0 m accD R3 H3 acc wa where
  gr := h.gr.trans G fun _ z => z.elim
  at' := G.keep _ _ (fun z => z) h.at'
  no := by
    by_cases z : R3 D0 = none
    · exact z
    · rcases G.new _ z with z | z | z
      · exact absurd h.no z
      · rw [h.at'] at z; cases z
      · exact z.elim
  ows := Ows.keep h.ows G fun _ _ z => z
  nin := h.nin
  fr := h.fr
theorem Sta.push {v : V} {c : D} {m' : Lv} {wv : List Addr} (h : Sta K R1 H1 D0 m accD R2 H2 acc wa) (hD : H1 D0 = none) (G : Gr (fun _ => False) R2 H2 R3 H3) (o : Ow K R3 H3 m' v c wv) (l : lle m m') (n : ∀ p ∈ wv, H2 p = none) :
    Sta K R1 H1 D0 m (accD ++ [c]) R3 (upd H3 D0 (.lst (acc ++ [v]))) (acc ++ [v]) (wa ++ (wv ++ [])) := by
  have h3 := h.step G
  have G6 : Gr (fun a => a = D0) R3 H3 R3 (upd H3 D0 (.lst (acc ++ [v]))) := Gr.upd G.rh h3.no
  have nD : D0 ∉ wv := fun z => by have := n _ z; rw [h.at'] at this; cases this
  refine ⟨h3.gr.trans G6 fun p hp => .inl hp, upd_same, h3.no, ?_, fun z => ?_, fun p hp => ?_⟩
  · exact Ows.app (Ows.keep h3.ows G6 fun p hp z => h3.nin (z ▸ hp)) (.cons ((o.le l).keep G6 fun p hp z => nD (z ▸ hp)) .nil fun _ _ z => nomatch z) fun p hp z => by
      have z : p ∈ wv := by simpa using z
      exact (Ows.out h.ows p hp).2 (n p z)
  · rcases List.mem_append.mp z with z | z
    · exact h3.nin z
    · exact nD (by simpa using z)
  · rcases List.mem_append.mp hp with hp | hp
    · exact h.fr p hp
    · have hp : p ∈ wv := by simpa using hp
      rcases h.gr.back (n p hp) with z | z
      · exact z
      · subst z; exact hD
end
def cRun2 (m : Lv) (vs1 : List Nat) (b : D → Ev → Option Ev) (t : Ev → Mu → TR) (g1 : Ev → Mu → GR) (b1 : D → Ev → Option Ev) (t1 : Ev → Mu → TR) (f : Ev → Mu → ER) (ε : Ev) : Nat → List D → CR
  | _, [] => .ok [] none
  | n, d :: ds => match b d ε with
    | none => .bad
    | some ε1 => match t ε1 none with
      | .ok true _ => (match g1 ε1 none with
        | .ok _ ds1 _ => if n + ds1.length ≤ SZ then (match cRun m b1 t1 f (wipeE ε1 vs1) ds1 none with
          | .ok es _ => (match cRun2 m vs1 b t g1 b1 t1 f ε (n + ds1.length) ds with
            | .ok es' μ => .ok (es ++ es') μ
            | .bad => .bad)
          | .bad => .bad) else .bad
        | _ => .bad)
      | .ok false _ => cRun2 m vs1 b t g1 b1 t1 f ε n ds
      | _ => .bad
def eLc2 (m : Lv) (vs vs1 : List Nat) (b : D → Ev → Option Ev) (g : Ev → Mu → GR) (t : Ev → Mu → TR) (g1 : Ev → Mu → GR) (b1 : D → Ev → Option Ev) (t1 : Ev → Mu → TR) (f : Ev → Mu → ER) : Ev → Mu → ER := fun ε μ => match g ε μ with
  | .ok _ ds μ1 => (match cRun2 m vs1 b t g1 b1 t1 f (wipeE ε vs) 0 ds with
    | .ok es _ => .ok (up m) (.list es) μ1
    | .bad => .bad)
  | .bad => .bad
  | .rz c f => .rz c f
section
variable {K : Fg} {Z : Zs} {wi wi1 : TI} {g g1 : TG} {tt tt1 : TT} {te : TE} {vs vs1 : List Nat} {b b1 : D → Ev → Option Ev} {gi gi1 : Ev → Mu → GR} {ft ft1 : Ev → Mu → TR} {fe : Ev → Mu → ER} {m : Lv}
theorem mem0 {p : Addr} : Mem [] p → False := fun z => nomatch z
theorem se_lc2 (hi : SG K Z none wi gi) (hb : BG K vs g b) (ht : ST K Z.no none tt ft) (hi1 : SG K Z.no none wi1 gi1) (hb1 : BG K vs1 g1 b1) (ht1 : ST K Z.no none tt1 ft1) (he : SE K Z.no none te fe) : SE K Z none (tLc2 wi g tt wi1 g1 tt1 te vs vs1) (eLc2 m vs vs1 b gi ft gi1 b1 ft1 fe) := by
  intro σ H R ε μ w Q s e M p
  have hw : w = [] := M
  subst hw
  refine hi σ H R ε μ [] _ s e M ?_
  unfold eLc2 at p
  cases q : gi ε μ with
  | bad => rw [q] at p; exact p
  | rz c f => rw [q] at p; exact p
  | ok cl ds μ1 =>
    rw [q] at p
    dsimp only at p
    intro J H1 R1 w1 G1 M1 n1 k1 z1 D0 hD
    have hw1 : w1 = [] := M1
    subst hw1
    have k1 := k1.wk
    have p0 := EPost.on p G1 n1
    let W : Nat → Nat → Hp → Prop := fun i k H' => k = ds.length - i ∧ i ≤ ds.length ∧ ∃ R' acc accD wa n, Sta K R1 H1 D0 m accD R' H' acc wa ∧ accD.length ≤ n ∧ n ≤ SZ ∧
      EPost K Z σ none [] R1 H1 Q (match cRun2 m vs1 b ft gi1 b1 ft1 fe (wipeE ε vs) n (ds.drop i) with | .ok es _ => .ok (up m) (.list (accD ++ es)) μ1 | .bad => .bad)
    refine ⟨W, ⟨ds.length, rfl, Nat.zero_le _, R1, [], [], [], 0, ⟨(Gr.laid G1.rh hD).mono fun _ z => z.elim, upd_same, Same.noH G1.rh hD, .nil, fun z => (nomatch z), fun p hp => (nomatch hp)⟩, Nat.le_refl _, Nat.zero_le _, ?_⟩, ?_⟩
    · rw [List.drop_zero]
      simpa using p0
    rintro i k H2 ⟨rfl, hi', R2, acc, accD, wa, n, S2, la, lz, p2⟩
    have sR : Same R1 R2 := S2.gr.rr
    by_cases hlt : i < ds.length
    · refine .inr ⟨k1.go i H2 (sR.trans S2.gr.rh) hlt, W (i + 1) (ds.length - (i + 1)), fun H' h => ⟨_, by omega, h⟩, fun x H3 y => ?_⟩
      obtain ⟨d, hd, Hy⟩ := k1.yld i H2 x H3 (sR.trans S2.gr.rh) hlt y
      obtain ⟨R3, G3, dx⟩ := Hy R2 sR S2.gr.rh
      have hdrop : ds.drop i = d :: ds.drop (i + 1) := by
        obtain ⟨h1, h2⟩ := List.getElem?_eq_some_iff.mp hd
        rw [List.drop_eq_getElem_cons h1, h2]
      rw [hdrop] at p2
      simp only [cRun2] at p2
      cases qb : b d (wipeE ε vs) with
      | none => rw [qb] at p2; exact p2.elim
      | some ε1 =>
        rw [qb] at p2
        dsimp only at p2
        have e3 : EOk K R3 (wipe σ vs) (wipeE ε vs) := wipe_ok (e.mono (G1.rr.trans (sR.trans G3.rr))) vs
        refine hb (wipe σ vs) H3 R3 (wipeE ε vs) d x ε1 _ G3.rh e3 dx qb fun σ4 e4 l4 q4 => ?_
        have hw4 : wipe σ4 vs = wipe σ vs := by
          refine wipe_same (by rw [l4, wipe_length]) fun j hj => ?_
          rw [q4 j hj, wipe_out hj]
        refine ⟨hw4, ?_⟩
        have S3 := S2.step G3
        refine ht σ4 H3 R3 ε1 none [] _ G3.rh e4 rfl ?_
        cases qt : ft ε1 none with
        | bad => rw [qt] at p2; exact p2.elim
        | rz c f => rw [qt] at p2; exact p2.elim
        | ok bt μ3 =>
          rw [qt] at p2
          intro H4 R4 w4 G4 M5 n4
          have G4' : Gr (fun _ => False) R3 H3 R4 H4 := G4.mono fun _ z => mem0 z
          have S4 := S3.step G4'
          cases bt with
          | false =>
            rw [if_neg Bool.false_ne_true]
            exact ⟨rfl, hlt, R4, acc, accD, wa, n, S4, la, lz, p2⟩
          | true =>
            rw [if_pos rfl]
            dsimp only at p2
            refine hi1 σ4 H4 R4 ε1 none [] _ G4.rh (e4.mono G4.rr) rfl ?_
            cases qg : gi1 ε1 none with
            | bad => rw [qg] at p2; exact p2.elim
            | rz c f => rw [qg] at p2; exact p2.elim
            | ok cl1 ds1 μ4 =>
              rw [qg] at p2
              dsimp only at p2
              by_cases hz : n + ds1.length ≤ SZ
              · rw [if_pos hz] at p2
                intro J1 H5 R5 w5 G5 M6 n5 kk zz
                have kk := kk.wk
                have S5 := S4.step (G5.mono fun _ z => mem0 z)
                have e5 : EOk K R5 σ4 ε1 := e4.mono (G4.rr.trans G5.rr)
                let W1 : Nat → Nat → Hp → Prop := fun j k H' => k = ds1.length - j ∧ j ≤ ds1.length ∧ ∃ R' acc' accD' wa' μ', Sta K R1 H1 D0 m accD' R' H' acc' wa' ∧ Same R5 R' ∧ accD'.length ≤ n + j ∧
                  EPost K Z σ none [] R1 H1 Q (match cRun m b1 ft1 fe (wipeE ε1 vs1) (ds1.drop j) μ' with
                    | .ok es _ => (match cRun2 m vs1 b ft gi1 b1 ft1 fe (wipeE ε vs) (n + ds1.length) (ds.drop (i + 1)) with
                      | .ok es' _ => .ok (up m) (.list (accD' ++ (es ++ es'))) μ1
                      | .bad => .bad)
                    | .bad => .bad)
                refine ⟨W1, ⟨ds1.length, rfl, Nat.zero_le _, R5, acc, accD, wa, none, S5, Same.refl R5, by omega, ?_⟩, ?_⟩
                · rw [List.drop_zero]
                  revert p2
                  cases cRun m b1 ft1 fe (wipeE ε1 vs1) ds1 none with
                  | bad => exact id
                  | ok es μ6 =>
                    dsimp only
                    cases cRun2 m vs1 b ft gi1 b1 ft1 fe (wipeE ε vs) (n + ds1.length) (ds.drop (i + 1)) with
                    | bad => exact id
                    | ok es' μ7 => exact id
                rintro j k H6 ⟨rfl, hj', R6, acc6, accD6, wa6, μ6, S6, s56, la6, p6⟩
                by_cases hjl : j < ds1.length
                · refine .inr ⟨kk.go j H6 (s56.trans S6.gr.rh) hjl, W1 (j + 1) (ds1.length - (j + 1)), fun H' h => ⟨_, by omega, h⟩, fun x1 H7 y1 => ?_⟩
                  obtain ⟨d1, hd1, Hy1⟩ := kk.yld j H6 x1 H7 (s56.trans S6.gr.rh) hjl y1
                  obtain ⟨R7, G7, dx1⟩ := Hy1 R6 s56 S6.gr.rh
                  have hdrop1 : ds1.drop j = d1 :: ds1.drop (j + 1) := by
                    obtain ⟨h1, h2⟩ := List.getElem?_eq_some_iff.mp hd1
                    rw [List.drop_eq_getElem_cons h1, h2]
                  rw [hdrop1] at p6
                  simp only [cRun] at p6
                  cases qb1 : b1 d1 (wipeE ε1 vs1) with
                  | none => rw [qb1] at p6; exact p6.elim
                  | some ε2 =>
                    rw [qb1] at p6
                    dsimp only at p6
                    have e7 : EOk K R7 (wipe σ4 vs1) (wipeE ε1 vs1) := wipe_ok (e5.mono (s56.trans G7.rr)) vs1
                    refine hb1 (wipe σ4 vs1) H7 R7 (wipeE ε1 vs1) d1 x1 ε2 _ G7.rh e7 dx1 qb1 fun σ8 e8 l8 q8 => ?_
                    have hw8 : wipe σ8 vs1 = wipe σ4 vs1 := by
                      refine wipe_same (by rw [l8, wipe_length]) fun j hj => ?_
                      rw [q8 j hj, wipe_out hj]
                    refine ⟨hw8, ?_⟩
                    have S7 := S6.step G7
                    refine ht1 σ8 H7 R7 ε2 μ6 [] _ G7.rh e8 rfl ?_
                    cases qt1 : ft1 ε2 μ6 with
                    | bad => rw [qt1] at p6; exact p6.elim
                    | rz c f => rw [qt1] at p6; exact p6.elim
                    | ok bt1 μ8 =>
                      rw [qt1] at p6
                      intro H9 R9 w9 G9 M9 n9
                      have S9 := S7.step (G9.mono fun _ z => mem0 z)
                      have s59 : Same R5 R9 := s56.trans (G7.rr.trans G9.rr)
                      cases bt1 with
                      | false =>
                        rw [if_neg Bool.false_ne_true]
                        exact ⟨rfl, hjl, R9, acc6, accD6, wa6, μ8, S9, s59, by omega, p6⟩
                      | true =>
                        rw [if_pos rfl]
                        dsimp only at p6
                        refine he σ8 H9 R9 ε2 μ8 [] _ G9.rh (e8.mono G9.rr) rfl ?_
                        cases qe : fe ε2 μ8 with
                        | bad => rw [qe] at p6; exact p6.elim
                        | rz c f => rw [qe] at p6; exact p6.elim
                        | ok m' c μ9 =>
                          rw [qe] at p6
                          dsimp only at p6
                          by_cases hm : lleB m m' = true
                          · rw [if_pos hm] at p6
                            intro v Ha Ra wa' wv Ga Ma oa na ka
                            have Ga' : Gr (fun _ => False) R9 H9 Ra Ha := Ga.mono fun _ z => mem0 z
                            have Sp := S9.push hD Ga' oa (lleB_ok hm) fun p hp => (ka p hp).1.resolve_left fun z => nomatch z
                            have lacc : acc6.length = accD6.length := Ows.length S9.ows
                            refine ⟨acc6, (S9.step Ga').at', by rw [lacc]; exact sz_lt (by omega), rfl, hjl, Ra, _, accD6 ++ [c], _, μ9, Sp, s59.trans Ga.rr, by simp; omega, ?_⟩
                            revert p6
                            cases cRun m b1 ft1 fe (wipeE ε1 vs1) (ds1.drop (j + 1)) μ9 with
                            | bad => exact id
                            | ok es μ10 =>
                              dsimp only
                              cases cRun2 m vs1 b ft gi1 b1 ft1 fe (wipeE ε vs) (n + ds1.length) (ds.drop (i + 1)) with
                              | bad => exact id
                              | ok es' μ11 => simp only [List.append_assoc, List.singleton_append, List.cons_append]; exact id
                          · rw [if_neg hm] at p6; exact p6.elim
                · have ej : j = ds1.length := Nat.le_antisymm hj' (Nat.le_of_not_lt hjl)
                  subst ej
                  refine .inl ⟨kk.stop H6 (s56.trans S6.gr.rh), rfl, hlt, R6, acc6, accD6, wa6, n + ds1.length, S6, la6, hz, ?_⟩
                  rw [List.drop_length] at p6
                  simp only [cRun, List.nil_append] at p6
                  exact p6
              · rw [if_neg hz] at p2; exact p2.elim
    · have ei : i = ds.length := Nat.le_antisymm hi' (Nat.le_of_not_lt hlt)
      subst ei
      refine .inl ⟨k1.stop H2 (sR.trans S2.gr.rh), ?_⟩
      rw [List.drop_length] at p2
      simp only [cRun2, List.append_nil] at p2
      have lacc : acc.length = accD.length := Ows.length S2.ows
      have G2' : Gr (Mem []) R1 H1 R2 H2 := ⟨S2.gr.rr, S2.gr.rh, fun a o hn ha => S2.gr.keep a o (fun z => by subst z; rw [hD] at ha; cases ha) ha, fun a ha => (S2.gr.new a ha).imp id fun z => z.elim .inl fun z => .inl (by subst z; exact hD)⟩
      refine p2 (.ref D0) H2 R2 [] (D0 :: wa) G2' rfl (.lst S2.at' S2.no S2.nin ?_ ?_) (fun p hp => nomatch hp) fun p hp => ⟨?_, fun z => nomatch z⟩
      · rw [lacc]; exact sz_le (Nat.le_trans la lz)
      · rw [pd_up]; exact S2.ows
      · rcases List.mem_cons.mp hp with rfl | hp
        · exact .inr hD
        · exact .inr (S2.fr p hp)
end
end VF
end
section
set_option Elab.async false
set_option linter.all false
set_option maxRecDepth 100000
set_option maxHeartbeats 2000000
namespace VF
open PySem PySem.Spec L2
open PyProof.Rows hiding St

/-! ### the law's call, for promises with no guards -/
/-- a heap in which the script alone is told of, if at all -/
structure OneH (P : Program) (w : World) (K : Fg) (s : Shared) (a : Addr) (H : Hp) : Prop where
  only : Only H
  hok : HOk P w H s.heap
  just : ∀ q, H q ≠ none → q = a
  out : H a ≠ none → K.lookup a = none
section
variable {P : Program} {w : World} {K : Fg} {mg mb : Str → Option Value} {k : Nat} {fa a : Addr} {fd : FuncData} {x : Str} {sp : Sp} {s : Shared} {vs : List Value} {ns : List Int} {H : Hp}
theorem OneH.none (h : OneH P w K s a H) {q : Addr} (n : q ≠ a) : H q = .none := by
  cases e : H q with
  | none => rfl
  | some u => exact absurd (h.just q (by rw [e]; exact fun z => nomatch z)) n
theorem OneH.env (h : OneH P w K s a H) (kin : K.In s.heap) (g1 : s.heap.Ns mainGlobals mg) (g2 : s.heap.Ns builtinsNs mb) (g3 : ∀ y : Str, y ≠ "__name__" → mb y = bootBuiltins y) (g4 : s.heap.NoLimit) (g5 : s.gens = #[])
    (at' : s.heap.get? a = some { cls := .type "list", data := .seq vs.toArray }) : K.In (hidT s.heap H) ∧ (hidT s.heap H).Ns mainGlobals mg ∧ Env0 P w K mg (hidT s.heap H) callerA [] s H := by
  have nodict : ∀ {q : Addr} {o : Obj} {es : Array DictEntry} {n : Nat}, s.heap.get? q = some o → o.data = .dict es n → H q = .none := by
    intro q o es n e d
    refine h.none fun z => ?_
    rw [z, at'] at e
    cases e
    cases d
  have mv : ∀ {q : Addr} {m : Str → Option Value}, s.heap.Ns q m → (hidT s.heap H).Ns q m := by
    rintro q m ⟨o, es, n, e, d, r⟩
    exact ⟨o, es, n, hidT_get e (nodict e d), d, r⟩
  have kb : K.In (hidT s.heap H) := by
    intro q o e
    refine hidT_get (kin q o e) ?_
    by_cases z : q = a
    · subst z
      cases e2 : H q with
      | none => rfl
      | some u =>
        have := h.out (by rw [e2]; exact fun z => nomatch z)
        rw [this] at e; cases e
    · exact h.none z
  refine ⟨kb, mv g1, rfl, ⟨kb, mv g1, ⟨mb, mv g2, g3⟩, ?_⟩, ?_, Nat.le_of_eq (hidT_size _ _), trivial, ?_, h.hok, .of_eq g5⟩
  · obtain ⟨mc, h1, h2⟩ := g4
    exact ⟨mc, mv h1, h2⟩
  · exact fun q o e => of_hidT e
  · intro q hq
    exact absurd hq (List.not_mem_nil (a := q))
theorem OneH.call (h : OneH P w K s a H) (kin : K.In s.heap) (g1 : s.heap.Ns mainGlobals mg) (g2 : s.heap.Ns builtinsNs mb) (g3 : ∀ y : Str, y ≠ "__name__" → mb y = bootBuiltins y) (g4 : s.heap.NoLimit) (g5 : s.gens = #[])
    (at' : s.heap.get? a = some { cls := .type "list", data := .seq vs.toArray }) (hr : Room k callerA) (F : ∀ base : Heap, K.In base → base.Ns mainGlobals mg → FnG P w K mg base k fa fd [x] sp) (hbind : ∀ (s : Shared) (u : Value), BindsTo s fd ⟨[u], []⟩ [(x, u)])
    (q : sp [.ref a] H (fun v _ => v = .bl true) fun _ _ _ => False) (nx : ∀ e s', L2.CX P w [] H s (fun _ _ _ => False) e s' → False) :
    codeAny (model P w) callerA (.call (.ref fa) ⟨[.ref a], []⟩) (fun r s' => r = .ok (.ret (.bool true)) ∧ OldK s.heap s'.heap ∧ s'.os = s.os ∧ AllBare s'.gens) s := by
  obtain ⟨kb, nb, env⟩ := h.env kin g1 g2 g3 g4 g5 at'
  have run := (F _ kb nb).run callerA [] s H ⟨[.ref a], []⟩ [.ref a] [.ref a] _ _ hr rfl env (hbind s (.ref a)) (.cons rfl .nil) q
  refine codeAny_mono run ?_
  rintro (er | fl) s' z
  · exact (nx er s' z).elim
  · cases fl with
    | next => exact z.elim
    | brk => exact z.elim
    | cont => exact z.elim
    | ret u =>
      obtain ⟨v, H', z1, z2, un, ho, rv, rfl⟩ := z
      obtain rfl : u = Value.bool true := rv
      refine ⟨rfl, OldK.of_keep ?_, z1, z2⟩
      intro b o e
      rcases h.only b with n | ⟨ob, xs, n⟩
      · exact un.keep b o e n (fun z => absurd z (List.not_mem_nil (a := b))) (List.not_mem_nil (a := b))
      · obtain ⟨e1, _⟩ := h.hok b _ n
        obtain ⟨e2, _⟩ := ho b _ (un.frzs b ob _ n)
        rw [e1] at e
        rw [← e]; exact e2
theorem law_callG (kin : K.In s.heap) (g1 : s.heap.Ns mainGlobals mg) (g2 : s.heap.Ns builtinsNs mb) (g3 : ∀ y : Str, y ≠ "__name__" → mb y = bootBuiltins y) (g4 : s.heap.NoLimit) (g5 : s.gens = #[])
    (at' : s.heap.get? a = some { cls := .type "list", data := .seq vs.toArray }) (hi : IntsAre vs ns) (hl : ns.length ≤ sizeLine) (hr : Room k callerA) (F : ∀ base : Heap, K.In base → base.Ns mainGlobals mg → FnG P w K mg base k fa fd [x] sp) (hbind : ∀ (s : Shared) (u : Value), BindsTo s fd ⟨[u], []⟩ [(x, u)])
    (hsp : ∀ H : Hp, SqL K H a (ns.map V.int) → sp [.ref a] H (fun v _ => v = .bl true) fun _ _ _ => False) (nx : ∀ H e s', L2.CX P w [] H s (fun _ _ _ => False) e s' → False) :
    codeAny (model P w) callerA (.call (.ref fa) ⟨[.ref a], []⟩) (fun r s' => r = .ok (.ret (.bool true)) ∧ OldK s.heap s'.heap ∧ s'.os = s.os ∧ AllBare s'.gens) s := by
  have rv := vals_ints hi
  cases lk : K.lookup a with
  | some o =>
    have e := kin a o lk
    rw [at'] at e
    cases e
    have one : OneH P w K s a (fun _ => none) := ⟨fun _ => .inl rfl, (fun q u z => nomatch z), fun q z => absurd rfl z, fun z => absurd rfl z⟩
    refine one.call kin g1 g2 g3 g4 g5 at' hr F hbind (hsp _ (.inr ⟨_, vs.toArray, _, lk, rfl, rfl, rfl, ?_, by simpa using rv⟩)) (nx _)
    rw [List.size_toArray, hi.length]; exact hl
  | none =>
    let H : Hp := upd (fun _ => none) a (.frz { cls := .type "list", data := .seq vs.toArray } (.lst (ns.map V.int)))
    have off : ∀ q, q ≠ a → H q = none := fun q n => upd_ne n
    have one : OneH P w K s a H := by
      refine ⟨fun q => ?_, fun q u z => ?_, fun q z => ?_, fun _ => lk⟩
      · by_cases n : q = a
        · subst n; exact .inr ⟨_, _, upd_same⟩
        · exact .inl (off q n)
      · by_cases n : q = a
        · subst n
          have z2 : some _ = some u := upd_same.symm.trans z
          cases z2
          exact ⟨at', by rw [List.length_map]; exact hl, vs, _, rv, at'⟩
        · rw [off q n] at z; cases z
      · by_cases n : q = a
        · exact n
        · exact absurd (off q n) z
    exact one.call kin g1 g2 g3 g4 g5 at' hr F hbind (hsp _ (.inl (.inr ⟨_, upd_same⟩))) (nx _)
end
/-- nothing leaves where nothing is wanted -/
theorem cx_none {P : Program} {w : World} {H : Hp} {s s' : Shared} {e : Value} (h : L2.CX P w [] H s (fun _ _ _ => False) e s') : False := by
  obtain ⟨_, _, _, _, _, _, _, _, _, _, _, _, z⟩ := h
  exact z.elim
theorem walk_ofG {l : PySem.W.OpenLaw} {n k : Nat} {q : Program} {loose : List Str} {XP : (Str → Option Value) → Heap → Prop} {YP : World → Heap → Prop} {d : DefRec} {K : Params → PySem.W.Frag} {x : Str} (m1 : l.most = some n) (m2 : n ≤ sizeLine) (m3 : d.params.defaults = [])
    (hr : Room k callerA) (hY : ∀ (w : World) (h : Heap), YP w h → (K w.params).In h)
    (F : ∀ (w : World) (mg : Str → Option Value) (fa : Addr) (h : Heap), (K w.params).In h → h.Ns mainGlobals mg → mg d.name = some (.ref fa) → ∃ (fd : FuncData) (sp : Sp), (∀ (s : Shared) (u : Value), BindsTo s fd ⟨[u], []⟩ [(x, u)]) ∧
      (∀ base : Heap, (K w.params).In base → base.Ns mainGlobals mg → FnG l.prog w (K w.params) mg base k fa fd [x] sp) ∧
      ∀ (H : Hp) (a : Addr) (ns : List Int), ns.length ≤ n → (∀ z ∈ ns, Builtin.Int.intBits z ≤ 1048576) → SqL (K w.params) H a (ns.map V.int) → sp [.ref a] H (fun v _ => v = .bl true) fun _ _ _ => False) :
    PySem.W.WalkO q loose XP YP l.row.toRowW d [] (fun f vs => PySem.call f vs) := by
  refine Att.attach_callB m1 m3 fun w s₀ s₁ mg mb fa o pm cd doc a vs ns G Y _ _ _ hmg hobj hints hlen hbits hg => ?_
  obtain ⟨fd, sp, hb, hF, hsp⟩ := F w mg fa _ (hY w _ Y) G.T.g hmg
  exact law_callG (hY w _ Y) G.T.g G.T.b G.T.builtins G.T.nolimit hg hobj hints (Nat.le_trans hlen m2) hr hF hb (fun H hS => hsp H a ns hlen hbits hS) fun H e s' z => cx_none z
theorem law_spV {K : Fg} {H : Hp} {a : Addr} {ns : List Int} {ea : Str → Addr} {N : Nat} {F : Sl → SR} (hl : ns.length ≤ sizeLine) (hS : SqL K H a (ns.map V.int)) (hF : ∃ m μ, fnM none N F [some (.list (ns.map PyData.int))] none = .ok m (.bool true) μ) :
    spV K ea none 1 (fnM none N F) [.ref a] H (fun v _ => v = .bl true) fun _ _ _ => False := by
  obtain ⟨m, μ, e⟩ := hF
  refine ⟨rfl, H, [some (.list (ns.map PyData.int))], none, [], rfl, Same.refl H, ⟨Nat.le_refl _, fun i d h => ?_⟩, rfl, rfl, ?_⟩
  · cases i with
    | zero =>
      obtain rfl : PyData.list (ns.map PyData.int) = d := by simpa using h
      exact ⟨_, rfl, .lst hS (by rw [List.length_map]; exact hl) (das_ints ns)⟩
    | succ i => simp at h
  · rw [e]
    exact fun v H' R' w' wv G M o n1 n2 => o.bl
end VF
end
section
set_option Elab.async false
set_option linter.all false
set_option maxRecDepth 100000
set_option maxHeartbeats 2000000
namespace VF
open PySem PySem.Spec L2
open PyProof.Rows hiding St

/-! ### what the top has written, from single facts -/
def bodyOf : Stmt → List Stmt
  | .ClassDef _ _ _ b _ _ _ _ _ _ _ => b
  | _ => []
/-- where a class stands -/
noncomputable def eaOf (mg : Str → Option Value) : Str → Addr := fun x => match mg x with
  | some (.ref C) => C
  | _ => 0
section
variable {P : Program} {w : World} {K : Fg} {mg : Str → Option Value} {base h : Heap}
theorem df_mk {x : Str} {st : Stmt} {ps : List Str} {f : Addr} {oc : Value} {od an : Option Addr} {osl : Array (Option Value)} {kV doc pm cdv ct : Value} (X : K.In h) (G : h.Ns mainGlobals mg) (a : PySem.W.nsIn K mainGlobals x = some (some (.ref f)))
    (l : K.lookup f = some ⟨oc, od, .func (PySem.W.fnOf x x (defArgs st) (defBody st) (defScope st) .none kV doc pm an cdv ct), osl⟩) (c : PySem.W.codeIn K cdv x = true) (k : PySem.W.keepIn K (.ref f) = true)
    (hb : ∀ (kV doc pm : Value) (an : Option Addr) (cdv ct : Value) (us : List Value), us.length = ps.length → bindArgs (PySem.W.fnOf x x (defArgs st) (defBody st) (defScope st) .none kV doc pm an cdv ct) ⟨us, []⟩ = pure (ps.zip us)) : Df K mg x st ps :=
  let F := fun_mk (st := st) l c k
  ⟨f, _, PySem.W.mg_of X G a, k, F.binds hb, F⟩
theorem er_mk {x n qual : Str} {st : Stmt} {C fI : Addr} {nm q : Str} {N : Addr} {bs bm : List Value} {sn : List Str} {sub : List Value} {ab : Bool} {col : Option Bool} {dd : Option Addr} {m0 m1 m2 m3 m5 : Option Value} {oc : Value} {od an : Option Addr} {osl : Array (Option Value)} {kV doc pm cdv ct : Value}
    (X : K.In h) (G : h.Ns mainGlobals mg) (a : PySem.W.nsIn K mainGlobals x = some (some (.ref C))) (xL : K.lookup C = some (excClassObj nm q C N bs bm true sn sub ab col dd m0 m1 m2 m3 m5 "ValueError.__new__")) (hbm : PySem.HandSPX.refsVE bm = true)
    (sa : PySem.W.findIn K (.ref C) "__setattr__" = some (some (.builtin "object.__setattr__"))) (no : PySem.W.findIn K (.ref C) n = some none) (exC : PySem.W.subIn K (.ref C) (.type "BaseException") = some true) (tyC : PySem.W.typeIn K (.ref C) = some (.type "type")) (kC : PySem.W.keepIn K (.ref C) = true)
    (iC : PySem.W.findIn K (.ref C) "__init__" = some (some (.ref fI))) (tI : PySem.W.typeIn K (.ref fI) = some (.type "function"))
    (l : K.lookup fI = some ⟨oc, od, .func (PySem.W.fnOf "__init__" qual (defArgs st) (defBody st) (defScope st) .none kV doc pm an cdv ct), osl⟩) (c : PySem.W.codeIn K cdv qual = true) (k : PySem.W.keepIn K (.ref fI) = true)
    (hb : ∀ (kV doc pm : Value) (an : Option Addr) (cdv ct : Value) (us : List Value), us.length = 2 → bindArgs (PySem.W.fnOf "__init__" qual (defArgs st) (defBody st) (defScope st) .none kV doc pm an cdv ct) ⟨us, []⟩ = pure ([("self" : Str), n].zip us))
    (F : ∀ {fd}, Fun K "__init__" qual st fI fd → FnOk P w K mg base (L2.CX P w) 1 fI fd [("self" : Str), n] (spI K n)) : ErT P w K mg base x n (eaOf mg x) := by
  have g := PySem.W.mg_of X G a
  have e : eaOf mg x = C := by unfold eaOf; rw [g]
  rw [e]
  have Fu := fun_mk (st := st) l c k
  exact ⟨g, ⟨⟨nm, q, N, bs, bm, sn, sub, ab, col, dd, m0, m1, m2, m3, m5, xL, hbm⟩, sa, exC, tyC, kC⟩, no, fI, _, iC, tI, Fu.binds hb, F Fu⟩
end
end VF
end
section
set_option Elab.async false
set_option linter.all false
set_option maxRecDepth 100000
set_option maxHeartbeats 2000000
namespace VF
open PySem PySem.Spec L2
open PyProof.Rows hiding St

/-! ### x += e, of ints -/
def sAug (i : Nat) (gI : Int → Int → Int) (bor : List Nat) (δ : Option Nat) (f : Ev → Mu → ER) : Sl → SR := fun ρ => match ρ[i]? with
  | some (.fz (.int a)) => evB (evS bor δ f ρ) ρ fun _ d ρ' => match d with
    | .int b => .nx (ρ'.set i (.fz (.int (gI a b))))
    | _ => .bad
  | _ => .bad
theorem ss_aug {K : Fg} {Z : Zs} {δ : Option Nat} {bor : List Nat} {i : Nat} {gI : Int → Int → Int} {t : TE} {f : Ev → Mu → ER} (h : SE K Z δ t f) (hb : ∀ j, δ = some j → bor.contains j = false) : SS K Z (tAug i t (ipI gI)) (sAug i gI bor δ f) := by
  intro σ H R ρ fp D' r p
  unfold sAug at p
  split at p
  · rename_i a e
    obtain ⟨_, v, h1, h2⟩ := r.at' i _ e
    have ev : v = .int a := by cases h2; rfl
    subst ev
    refine ⟨.int a, h1, ?_⟩
    refine ev_st h hb r p fun m d ρ' y H' R' fp' wv G r' o n1 n2 p' => ?_
    cases d with
    | int b =>
      obtain rfl := o.int
      refine ⟨a, b, rfl, rfl, ?_⟩
      have p2 : Stp K Z fp R H (ρ'.set i (.fz (.int (gI a b)))) D'.nx := p'
      refine p2 _ H' R' _ G (r'.setF (.int (gI a b))) fun q hq => ?_
      rcases hq.fpS with z | z
      · cases z
      · exact n1 q z
    | _ => exact p'.elim
  · exact p.elim
end VF
end
section
set_option Elab.async false
set_option linter.all false
set_option maxRecDepth 100000
set_option maxHeartbeats 2000000
/-! list(zip(a, b)), a and b lists: the zip's own pair goes out once, and while it lives each further pair is a new one. -/
namespace VF
open PySem PySem.Spec L2
open PyProof.Rows hiding St

/-- a zip whose pair at T has gone out -/
abbrev ZipOut (h : Heap) (z TI TO T : Addr) (f : Bool) : Prop :=
  h.get? z = some { cls := .type "zip", dict := none, data := .fields #[rawInt T, .bool f, .bool false, .ref TI, .ref TO], slots := #[] }
section
variable {prog : Program} {w : World} {A : Around} {E : Value → Shared → Prop} {s : Shared}
/-- the mark that the owner sets, once -/
theorem zl_mark {z TI TO T : Addr} {f : Bool} {Q : Bool → Shared → Prop} (hz : ZipOut s.heap z TI TO T f)
    (h : ∀ h₂, ZipOut h₂ z TI TO T true → Heap.SameBut z s.heap h₂ → Q false { s with heap := h₂ }) :
    wpAny (model prog w) A (if (Value.bool f != Value.bool true) = true then (do setField (.ref z) 1 (.bool true); pure false) else (do pure PUnit.unit; pure false)) Q E s := by
  cases f with
  | true =>
    rw [if_neg (show ¬ ((Value.bool true != Value.bool true) = true) from Bool.false_ne_true)]
    exact wpAny_bind (wpAny_pure (wpAny_pure (h _ hz (Heap.SameBut.refl _ _))))
  | false =>
    rw [if_pos (show (Value.bool false != Value.bool true) = true from rfl)]
    exact wpAny_bind (wpAny_setField_rec hz (by simp) fun h₃ he₃ hs₃ => wpAny_pure (h h₃ he₃ hs₃))
theorem zl_item {z TI TO i1 i2 l1 l2 T : Addr} {f : Bool} {k1 k2 : Nat} {xs ys : Array Value} {x y : Value} {oT : Obj} {Q : Option Value → Shared → Prop} (D : ZipApart z TI TO i1 i2 l1 l2)
    (hz : ZipOut s.heap z TI TO T f) (ht : s.heap.get? T = some oT) (htz : T ≠ z) (hTI : IsPair s.heap TI (.ref i1) (.ref i2))
    (h1 : s.heap.IsListIter i1 l1 k1) (h2 : s.heap.IsListIter i2 l2 k2) (hl1 : s.heap.IsList l1 xs) (hl2 : s.heap.IsList l2 ys) (hx : xs[k1]? = some x) (hy : ys[k2]? = some y)
    (hQ : ∀ h', ZipOut h' z TI TO T true → h'.IsListIter i1 l1 (k1 + 1) → h'.IsListIter i2 l2 (k2 + 1) → IsPair h' s.heap.objs.size x y → h'.objs.size = s.heap.objs.size + 1 →
      (∀ c o, c ≠ z → c ≠ i1 → c ≠ i2 → s.heap.get? c = some o → h'.get? c = some o) → Q (some (.ref s.heap.objs.size)) { s with heap := h' }) :
    wpAny (model prog w) A (pyNext (.ref z)) Q E s := by
  obtain ⟨hp, g, dr, tk, os⟩ := s
  have hT : Shared.TypeIs ⟨hp, g, dr, tk, os⟩ (.ref z) "zip" := ⟨_, hz, rfl⟩
  unfold pyNext
  refine wpAny_bind (wpAny_attempt (wpAny_callSpecial?_slot (name := Str.ofString "__next__") hT F.slot_zip_next (wpAny_call_entry F.slot_zip_next hT F.entry_zip_next ?_ (F.args_zip_next_1 _))))
  show wpAny _ _ (field (.ref z) 2 >>= _) _ _ ⟨hp, g, dr, tk, os⟩
  refine wpAny_bind (wpAny_field hz rfl (x := .bool false) rfl ?_)
  show wpAny _ _ (field (.ref z) 3 >>= _) _ _ ⟨hp, g, dr, tk, os⟩
  refine wpAny_bind (wpAny_field hz rfl (x := .ref TI) rfl ?_)
  refine wpAny_bind (wpAny_seqItems hTI rfl ?_)
  show wpAny _ _ (Builtin.SmallTypes.ownedTupleIsFree (.ref z) >>= _) _ _ ⟨hp, g, dr, tk, os⟩
  refine wpAny_bind ?_
  unfold Builtin.SmallTypes.ownedTupleIsFree
  refine wpAny_bind (wpAny_field hz rfl (x := rawInt T) rfl ?_)
  show wpAny _ _ (loadIfAlive ((T : Int).toNat) >>= _) _ _ ⟨hp, g, dr, tk, os⟩
  rw [Int.toNat_natCast]
  refine wpAny_bind (PySem.W.kdx_alive ht ?_)
  simp only [Option.isNone_some, Bool.false_eq_true, if_false]
  refine wpAny_bind (wpAny_field hz rfl (x := .bool f) rfl ?_)
  refine zl_mark hz fun h₂ hz₂ hs₂ => ?_
  simp only [Bool.false_eq_true, if_false]
  refine wpAny_bind ?_
  rw [← Array.forIn_toList]
  simp only [List.forIn_cons, List.forIn_nil]
  refine wpAny_bind (wpAny_bind (wpAny_holding ?_))
  show wpAny _ _ (Builtin.SmallTypes.nextOf (.ref i1) >>= _) _ _ _
  refine wpAny_bind (wpAny_nextOf_list_item (h1.extBut hs₂.extBut D.i1z) (hl1.extBut hs₂.extBut D.l1z) hx fun h₃ h1₃ hs₃ => wpAny_pure (wpAny_pure ?_))
  refine wpAny_bind (wpAny_bind (wpAny_holding ?_))
  show wpAny _ _ (Builtin.SmallTypes.nextOf (.ref i2) >>= _) _ _ _
  refine wpAny_bind (wpAny_nextOf_list_item ((h2.extBut hs₂.extBut D.i2z).extBut hs₃.extBut D.i12.symm) ((hl2.extBut hs₂.extBut D.l2z).extBut hs₃.extBut D.l2i1) hy fun h₄ h2₄ hs₄ => wpAny_pure (wpAny_pure (wpAny_pure ?_)))
  refine wpAny_bind (wpAny_newTuple (hsz := by show 2 ≤ sizeLine; decide) ?_)
  have e2 : h₂.objs.size = hp.objs.size := hs₂.1
  have e4 : h₄.objs.size = hp.objs.size := by rw [hs₄.1, hs₃.1]; exact e2
  have up : ∀ c o, c ≠ z → c ≠ i1 → c ≠ i2 → hp.get? c = some o → h₄.get? c = some o := fun c o c1 c2 c3 e => hs₄.extBut _ _ c3 (hs₃.extBut _ _ c2 (hs₂.extBut _ _ c1 e))
  have z₄ : ZipOut h₄ z TI TO T true := hs₄.extBut _ _ D.i2z.symm (hs₃.extBut _ _ D.i1z.symm hz₂)
  refine wpAny_pure ⟨_, rfl, wpAny_pure ?_⟩
  show Q (some (.ref h₄.objs.size)) _
  rw [e4]
  exact hQ _ (Heap.get?_push_of_some _ z₄) ((h1₃.extBut hs₄.extBut D.i12).at fun o e => Heap.get?_push_of_some _ e) (h2₄.at fun o e => Heap.get?_push_of_some _ e)
    (by have q : (h₄.push { cls := .type "tuple", data := .seq #[x, y] }).get? h₄.objs.size = some _ := Heap.get?_push_size _ rfl
        rw [e4] at q; exact q) (by rw [Heap.size_push, e4]) fun c o c1 c2 c3 e => Heap.get?_push_of_some _ (up c o c1 c2 c3 e)
theorem zl_end {z TI TO i1 i2 l1 l2 T : Addr} {f : Bool} {k1 k2 : Nat} {xs ys : Array Value} {oT : Obj} {Q : Option Value → Shared → Prop} (hh : A.handled = none) (D : ZipApart z TI TO i1 i2 l1 l2)
    (hz : ZipOut s.heap z TI TO T f) (ht : s.heap.get? T = some oT) (htz : T ≠ z) (hTI : IsPair s.heap TI (.ref i1) (.ref i2))
    (h1 : s.heap.IsListIter i1 l1 k1) (h2 : s.heap.IsListIter i2 l2 k2) (hl1 : s.heap.IsList l1 xs) (hl2 : s.heap.IsList l2 ys) (hend : xs[k1]? = none ∨ ys[k2]? = none)
    (hQ : ∀ h', (∀ c o, c ≠ z → c ≠ i1 → c ≠ i2 → s.heap.get? c = some o → h'.get? c = some o) → Q none { s with heap := h' }) :
    wpAny (model prog w) A (pyNext (.ref z)) Q E s := by
  obtain ⟨hp, g, dr, tk, os⟩ := s
  have hT : Shared.TypeIs ⟨hp, g, dr, tk, os⟩ (.ref z) "zip" := ⟨_, hz, rfl⟩
  unfold pyNext
  refine wpAny_bind (wpAny_attempt (wpAny_callSpecial?_slot (name := Str.ofString "__next__") hT F.slot_zip_next (wpAny_call_entry F.slot_zip_next hT F.entry_zip_next ?_ (F.args_zip_next_1 _))))
  show wpAny _ _ (field (.ref z) 2 >>= _) _ _ ⟨hp, g, dr, tk, os⟩
  refine wpAny_bind (wpAny_field hz rfl (x := .bool false) rfl ?_)
  show wpAny _ _ (field (.ref z) 3 >>= _) _ _ ⟨hp, g, dr, tk, os⟩
  refine wpAny_bind (wpAny_field hz rfl (x := .ref TI) rfl ?_)
  refine wpAny_bind (wpAny_seqItems hTI rfl ?_)
  show wpAny _ _ (Builtin.SmallTypes.ownedTupleIsFree (.ref z) >>= _) _ _ ⟨hp, g, dr, tk, os⟩
  refine wpAny_bind ?_
  unfold Builtin.SmallTypes.ownedTupleIsFree
  refine wpAny_bind (wpAny_field hz rfl (x := rawInt T) rfl ?_)
  show wpAny _ _ (loadIfAlive ((T : Int).toNat) >>= _) _ _ ⟨hp, g, dr, tk, os⟩
  rw [Int.toNat_natCast]
  refine wpAny_bind (PySem.W.kdx_alive ht ?_)
  simp only [Option.isNone_some, Bool.false_eq_true, if_false]
  refine wpAny_bind (wpAny_field hz rfl (x := .bool f) rfl ?_)
  refine zl_mark hz fun h₂ hz₂ hs₂ => ?_
  simp only [Bool.false_eq_true, if_false]
  refine wpAny_bind ?_
  rw [← Array.forIn_toList]
  simp only [List.forIn_cons, List.forIn_nil]
  refine wpAny_bind (wpAny_bind (wpAny_holding ?_))
  show wpAny _ _ (Builtin.SmallTypes.nextOf (.ref i1) >>= _) _ _ _
  cases hx : xs[k1]? with
  | none =>
    refine wpAny_bind (wpAny_nextOf_list_end hh (h1.extBut hs₂.extBut D.i1z) (hl1.extBut hs₂.extBut D.l1z) hx fun h₃ e hs₃ he => ?_)
    obtain ⟨oe, hoe, hce⟩ := he
    exact wpAny_bind (wpAny_isInstance (T := "StopIteration") (b := true) ⟨oe, hoe, hce⟩ isSubtype_stop (wpAny_pure (hQ _ fun c o c1 c2 c3 e => hs₃ _ _ c2 (hs₂.extBut _ _ c1 e))))
  | some x =>
    have hy : ys[k2]? = none := by
      rcases hend with h | h
      · rw [hx] at h; cases h
      · exact h
    refine wpAny_bind (wpAny_nextOf_list_item (h1.extBut hs₂.extBut D.i1z) (hl1.extBut hs₂.extBut D.l1z) hx fun h₃ h1₃ hs₃ => wpAny_pure (wpAny_pure ?_))
    refine wpAny_bind (wpAny_bind (wpAny_holding ?_))
    show wpAny _ _ (Builtin.SmallTypes.nextOf (.ref i2) >>= _) _ _ _
    refine wpAny_bind (wpAny_nextOf_list_end hh ((h2.extBut hs₂.extBut D.i2z).extBut hs₃.extBut D.i12.symm) ((hl2.extBut hs₂.extBut D.l2z).extBut hs₃.extBut D.l2i1) hy fun h₄ e hs₄ he => ?_)
    obtain ⟨oe, hoe, hce⟩ := he
    exact wpAny_bind (wpAny_isInstance (T := "StopIteration") (b := true) ⟨oe, hoe, hce⟩ isSubtype_stop (wpAny_pure (hQ _ fun c o c1 c2 c3 e => hs₄ _ _ c3 (hs₃.extBut _ _ c2 (hs₂.extBut _ _ c1 e)))))
end
/-- a list, as an object -/
abbrev liO (acc : Array Value) (c : Nat) : Obj := { cls := .type "list", dict := none, data := .seq acc c, slots := #[] }
/-- the addresses as hold the pairs of xs and ys, in order; they lie above lo and rise -/
structure Zps (xs ys : Array Value) (lo : Addr) (h : Heap) (as : List Addr) : Prop where
  rise : as.Pairwise (· < ·)
  above : ∀ a ∈ as, lo < a
  pair : ∀ (j : Nat) (a : Addr), as[j]? = some a → ∃ x y, xs[j]? = some x ∧ ys[j]? = some y ∧ IsPair h a x y
theorem Zps.there {xs ys : Array Value} {lo : Addr} {h : Heap} {as : List Addr} (g : Zps xs ys lo h as) {a : Addr} (ha : a ∈ as) : a < h.objs.size := by
  obtain ⟨j, hj⟩ := List.mem_iff_getElem?.mp ha
  obtain ⟨_, _, _, _, e⟩ := g.pair j a hj
  exact Heap.lt_size e
/-- how a zip stands before its item of number i -/
structure ZlSt (h : Heap) (z TI TO i1 i2 l1 l2 S : Addr) (xs ys : Array Value) (i : Nat) : Prop where
  zz : IsZip h z TI TO .none ∨ ∃ T f o, ZipOut h z TI TO T f ∧ h.get? T = some o ∧ S < T
  ti : IsPair h TI (.ref i1) (.ref i2)
  to : ∃ a b, IsPair h TO a b
  a1 : h.IsListIter i1 l1 i
  a2 : h.IsListIter i2 l2 i
  b1 : h.IsList l1 xs
  b2 : h.IsList l2 ys
structure ZlLow (z TI TO i1 i2 l1 l2 S : Addr) : Prop where
  z : z < S
  TI : TI < S
  TO : TO < S
  i1 : i1 < S
  i2 : i2 < S
  l1 : l1 < S
  l2 : l2 < S
section
variable {prog : Program} {w : World} {A : Around} {E : Value → Shared → Prop} {s : Shared} {z TI TO i1 i2 l1 l2 S : Addr} {xs ys : Array Value}
theorem ZlSt.put {h : Heap} {i : Nat} {g : Obj → Obj} (L : ZlLow z TI TO i1 i2 l1 l2 S) (st : ZlSt h z TI TO i1 i2 l1 l2 S xs ys i) : ZlSt (h.update S g) z TI TO i1 i2 l1 l2 S xs ys i := by
  have up : ∀ b o, b ≠ S → h.get? b = some o → (h.update S g).get? b = some o := fun b o hb e => (Heap.get?_update_other _ _ (Ne.symm hb)).trans e
  obtain ⟨zz, ti, ⟨a, b, to⟩, a1, a2, b1, b2⟩ := st
  refine ⟨?_, up _ _ (Nat.ne_of_lt L.TI) ti, ⟨a, b, up _ _ (Nat.ne_of_lt L.TO) to⟩, a1.at fun o e => up _ o (Nat.ne_of_lt L.i1) e, a2.at fun o e => up _ o (Nat.ne_of_lt L.i2) e, b1.at fun o e => up _ o (Nat.ne_of_lt L.l1) e, b2.at fun o e => up _ o (Nat.ne_of_lt L.l2) e⟩
  rcases zz with zz | ⟨T, f, o, zz, t, hT⟩
  · exact .inl (up _ _ (Nat.ne_of_lt L.z) zz)
  · exact .inr ⟨T, f, o, up _ _ (Nat.ne_of_lt L.z) zz, up _ _ (Nat.ne_of_gt hT) t, hT⟩
theorem zls_item {i : Nat} {x y : Value} {Q : Option Value → Shared → Prop} (D : ZipApart z TI TO i1 i2 l1 l2) (L : ZlLow z TI TO i1 i2 l1 l2 S) (hS : S < s.heap.objs.size) (st : ZlSt s.heap z TI TO i1 i2 l1 l2 S xs ys i) (hx : xs[i]? = some x) (hy : ys[i]? = some y)
    (hQ : ∀ h', ZlSt h' z TI TO i1 i2 l1 l2 S xs ys (i + 1) → IsPair h' s.heap.objs.size x y → h'.objs.size = s.heap.objs.size + 1 →
      (∀ c o, c ≠ z → c ≠ TO → c ≠ i1 → c ≠ i2 → s.heap.get? c = some o → h'.get? c = some o) → Q (some (.ref s.heap.objs.size)) { s with heap := h' }) :
    wpAny (model prog w) A (pyNext (.ref z)) Q E s := by
  obtain ⟨zz, ti, ⟨a, b, to⟩, a1, a2, b1, b2⟩ := st
  rcases zz with zz | ⟨T, f, o, zz, t, hT⟩
  · refine wpAny_pyNext_zip_item D zz ti to a1 a2 b1 b2 hx hy fun h' z' to' a1' a2' pr sz k => hQ h' ⟨.inr ⟨_, false, _, z', pr, hS⟩, k _ _ D.TIz D.TITO D.TIi1 D.TIi2 ti, ⟨_, _, to'⟩, a1', a2', b1.at fun o e => k _ o D.l1z D.l1TO D.l1i1 D.l1i2 e, b2.at fun o e => k _ o D.l2z D.l2TO D.l2i1 D.l2i2 e⟩ pr sz k
  · refine zl_item D zz t (fun e => by rw [e] at hT; exact Nat.lt_asymm hT L.z) ti a1 a2 b1 b2 hx hy fun h' z' a1' a2' pr sz k => hQ h' ⟨.inr ⟨T, true, o, z', k T o (fun e => ?_) (fun e => ?_) (fun e => ?_) t, hT⟩, k _ _ D.TIz D.TIi1 D.TIi2 ti, ⟨_, _, k _ _ D.TOz D.TOi1 D.TOi2 to⟩, a1', a2', b1.at fun o e => k _ o D.l1z D.l1i1 D.l1i2 e, b2.at fun o e => k _ o D.l2z D.l2i1 D.l2i2 e⟩ pr sz fun c o c1 _ c3 c4 e => k c o c1 c3 c4 e
    · rw [e] at hT; exact Nat.lt_asymm hT L.z
    · rw [e] at hT; exact Nat.lt_asymm hT L.i1
    · rw [e] at hT; exact Nat.lt_asymm hT L.i2
theorem zls_end {i : Nat} {Q : Option Value → Shared → Prop} (hh : A.handled = none) (D : ZipApart z TI TO i1 i2 l1 l2) (L : ZlLow z TI TO i1 i2 l1 l2 S) (st : ZlSt s.heap z TI TO i1 i2 l1 l2 S xs ys i) (he : xs[i]? = none ∨ ys[i]? = none)
    (hQ : ∀ h', (∀ c o, c ≠ z → c ≠ TO → c ≠ i1 → c ≠ i2 → s.heap.get? c = some o → h'.get? c = some o) → Q none { s with heap := h' }) : wpAny (model prog w) A (pyNext (.ref z)) Q E s := by
  obtain ⟨zz, ti, ⟨a, b, to⟩, a1, a2, b1, b2⟩ := st
  rcases zz with zz | ⟨T, f, o, zz, t, hT⟩
  · exact wpAny_pyNext_zip_end hh D zz ti to a1 a2 b1 b2 he hQ
  · exact zl_end hh D zz t (fun e => by rw [e] at hT; exact Nat.lt_asymm hT L.z) ti a1 a2 b1 b2 he fun h' k => hQ h' fun c o c1 _ c3 c4 e => k c o c1 c3 c4 e
variable {R : Result → Shared → Prop}
theorem zl_loop (hh : A.handled = none) (D : ZipApart z TI TO i1 i2 l1 l2) (L : ZlLow z TI TO i1 i2 l1 l2 S) (hn : min xs.size ys.size ≤ sizeLine) (res : Value) {h₁ : Heap}
    (hR : ∀ h' tk acc c as, (∀ b o, b ≠ S → b ≠ z → b ≠ TO → b ≠ i1 → b ≠ i2 → h₁.get? b = some o → h'.get? b = some o) → h'.get? S = some (liO acc c) → as.length = min xs.size ys.size → Zps xs ys S h' as →
      acc.toList = as.map Value.ref → R (.ok (.ret res)) { s with heap := h', toks := tk }) :
    ∀ (k i : Nat) (h : Heap) (tk c : Nat) (acc : Array Value) (as : List Addr), min xs.size ys.size - i = k → i ≤ min xs.size ys.size → ZlSt h z TI TO i1 i2 l1 l2 S xs ys i →
      (∀ b o, b ≠ S → b ≠ z → b ≠ TO → b ≠ i1 → b ≠ i2 → h₁.get? b = some o → h.get? b = some o) → h.get? S = some (liO acc c) → acc.toList = as.map Value.ref → as.length = i → Zps xs ys S h as →
      codeAny (model prog w) A (.builtin "list.extend.loop" ⟨[.ref S, .ref z, res], []⟩) R { s with heap := h, toks := tk } := by
  intro k
  induction k with
  | zero =>
    intro i h tk c acc as hk hi st kp hS hacc hal hG
    refine codeAny_builtin F.entry_extend_loop ?_
    rw [Around.under_plainId F.plain_extend_loop _]
    show wpAny _ A.in1 (pyNext (.ref z) >>= _) _ _ _
    have he : xs[i]? = none ∨ ys[i]? = none := by
      rcases Nat.le_total xs.size ys.size with q | q
      · exact .inl (Array.getElem?_eq_none (by omega))
      · exact .inr (Array.getElem?_eq_none (by omega))
    refine wpAny_bind (zls_end (s := { s with heap := h, toks := tk }) (A := A.in1) hh D L st he fun h' k' => ?_)
    refine wpAny_pure (hR h' tk acc c as (fun b o h0 h1 h2 h3 h4 e => k' b o h1 h2 h3 h4 (kp b o h0 h1 h2 h3 h4 e)) (k' S _ (Nat.ne_of_gt L.z) (Nat.ne_of_gt L.TO) (Nat.ne_of_gt L.i1) (Nat.ne_of_gt L.i2) hS) (by omega) ⟨hG.rise, hG.above, fun j a hj => ?_⟩ hacc)
    obtain ⟨x, y, h1, h2, h3⟩ := hG.pair j a hj
    have ha := hG.above a (List.mem_of_getElem? hj)
    exact ⟨x, y, h1, h2, k' a _ (Nat.ne_of_gt (Nat.lt_trans L.z ha)) (Nat.ne_of_gt (Nat.lt_trans L.TO ha)) (Nat.ne_of_gt (Nat.lt_trans L.i1 ha)) (Nat.ne_of_gt (Nat.lt_trans L.i2 ha)) h3⟩
  | succ k ih =>
    intro i h tk c acc as hk hi st kp hS hacc hal hG
    have hix : i < xs.size := by omega
    have hiy : i < ys.size := by omega
    have hsz : acc.size = i := by rw [← Array.length_toList, hacc, List.length_map, hal]
    have hSl : S < h.objs.size := Heap.lt_size hS
    refine codeAny_builtin F.entry_extend_loop ?_
    rw [Around.under_plainId F.plain_extend_loop _]
    show wpAny _ A.in1 (pyNext (.ref z) >>= _) _ _ _
    refine wpAny_bind (zls_item (s := { s with heap := h, toks := tk }) (A := A.in1) D L hSl st (Array.getElem?_eq_getElem hix) (Array.getElem?_eq_getElem hiy) fun h' st' pr sz k' => ?_)
    dsimp only at st' pr sz k' ⊢
    have k'' : ∀ b o, S ≤ b → h.get? b = some o → h'.get? b = some o := fun b o hb e => k' b o (Nat.ne_of_gt (Nat.lt_of_lt_of_le L.z hb)) (Nat.ne_of_gt (Nat.lt_of_lt_of_le L.TO hb)) (Nat.ne_of_gt (Nat.lt_of_lt_of_le L.i1 hb)) (Nat.ne_of_gt (Nat.lt_of_lt_of_le L.i2 hb)) e
    have hS' := k'' S _ (Nat.le_refl _) hS
    have up : ∀ b o, b ≠ S → h'.get? b = some o → (h'.update S (Obj.mapSeq (·.push (Value.ref h.objs.size)))).get? b = some o := fun b o hb e => (Heap.get?_update_other _ _ (Ne.symm hb)).trans e
    show wpAny _ A.in1 (updateSeq S (·.push (Value.ref h.objs.size)) >>= _) _ _ _
    refine wpAny_bind ?_
    refine wpAny_updateSeq hS' rfl (wpAny_pure ⟨plainId_quiet F.plain_extend_loop _, ih (i + 1) _ tk _ (acc.push (Value.ref h.objs.size)) (as ++ [h.objs.size]) (by omega) (by omega) (st'.put L)
      (fun b o h0 h1 h2 h3 h4 e => up b o h0 (k' b o h1 h2 h3 h4 (kp b o h0 h1 h2 h3 h4 e))) (Heap.get?_update_self _ hS' rfl) (by rw [Array.toList_push, hacc, List.map_append]; rfl) (by rw [List.length_append, hal]; rfl) ⟨?_, ?_, ?_⟩⟩) (by rw [hsz]; omega) (by show (acc.push (Value.ref h.objs.size)).size ≤ sizeLine + 1; rw [Array.size_push, hsz]; omega)
    · refine List.pairwise_append.mpr ⟨hG.rise, List.pairwise_singleton _ _, fun a ha b hb => ?_⟩
      rw [List.mem_singleton.mp hb]
      exact hG.there ha
    · intro a ha
      rcases List.mem_append.mp ha with ha | ha
      · exact hG.above a ha
      · rw [List.mem_singleton.mp ha]; exact hSl
    · intro j b hj
      rcases Nat.lt_trichotomy j as.length with q | q | q
      · rw [List.getElem?_append_left q] at hj
        obtain ⟨x, y, e1, e2, e3⟩ := hG.pair j b hj
        have hb := hG.above b (List.mem_of_getElem? hj)
        exact ⟨x, y, e1, e2, up b _ (Nat.ne_of_gt hb) (k'' b _ (Nat.le_of_lt hb) e3)⟩
      · subst q
        obtain rfl : h.objs.size = b := by simpa using hj
        exact ⟨_, _, by rw [hal]; exact Array.getElem?_eq_getElem hix, by rw [hal]; exact Array.getElem?_eq_getElem hiy, up _ _ (Nat.ne_of_gt hSl) pr⟩
      · rw [List.getElem?_eq_none (by rw [List.length_append, List.length_singleton]; omega)] at hj
        cases hj
end
theorem zip_no_len : typeLookup (.type "zip") "__len__" = pure none := by rw [typeLookup_type, builtinLookup_eq_fast]; kernel_rfl
theorem zip_no_hint : typeLookup (.type "zip") "__length_hint__" = pure none := by rw [typeLookup_type, builtinLookup_eq_fast]; kernel_rfl
section
variable {prog : Program} {w : World} {A : Around} {E : Value → Shared → Prop} {s : Shared} {z TI TO i1 i2 l1 l2 S : Addr} {xs ys : Array Value} {R : Result → Shared → Prop}
/-- what the list of a zip is worth -/
def ZlEnd (S z TO i1 i2 : Addr) (xs ys : Array Value) (R : Result → Shared → Prop) (s : Shared) (res : Value) : Prop :=
  ∀ h' tk acc c as, (∀ b o, b ≠ S → b ≠ z → b ≠ TO → b ≠ i1 → b ≠ i2 → s.heap.get? b = some o → h'.get? b = some o) → h'.get? S = some (liO acc c) → as.length = min xs.size ys.size → Zps xs ys S h' as →
    acc.toList = as.map Value.ref → R (.ok (.ret res)) { s with heap := h', toks := tk }
theorem zl_extend (hh : A.handled = none) (D : ZipApart z TI TO i1 i2 l1 l2) (L : ZlLow z TI TO i1 i2 l1 l2 S) (hn : min xs.size ys.size ≤ sizeLine) (res : Value) (c₀ : Nat) (hS : s.heap.get? S = some (liO #[] c₀))
    (st : ZlSt s.heap z TI TO i1 i2 l1 l2 S xs ys 0) (hz : IsZip s.heap z TI TO .none) (hR : ZlEnd S z TO i1 i2 xs ys R s res) :
    wpAny (model prog w) A.in1 (Builtin.List.listExtendWith (.ref S) (.ref z) res)
      (fun fin s' => match fin with | .done f => R (.ok f) s' | .again c' => c'.quiet = true ∧ codeAny (model prog w) A c' R s') (fun e s' => R (.error e) s') s := by
  have hT : s.TypeIs (.ref z) "zip" := ⟨_, hz, rfl⟩
  have hSz : S ≠ z := Nat.ne_of_gt L.z
  unfold Builtin.List.listExtendWith
  refine wpAny_bind (wpAny_typeOf hT ?_)
  have q1 : Builtin.List.listSameRef (.ref S) (.ref z) = false := by simp [Builtin.List.listSameRef, hSz]
  have q2 : (Value.type "zip" == Value.type "list") = false := by decide
  have q3 : (Value.type "zip" == Value.type "tuple") = false := by decide
  simp only [q1, q2, q3, Bool.or_false, Bool.false_eq_true, if_false]
  refine wpAny_bind (wpAny_pyIter_zip hz ?_)
  refine wpAny_bind (wpAny_holding ?_)
  unfold Builtin.List.listLengthHint
  refine wpAny_bind (wpAny_specialOf hT zip_no_len ?_)
  show wpAny _ A.in1 (specialOf (Value.ref z) (Str.ofString "__length_hint__") >>= _) _ _ _
  refine wpAny_bind (wpAny_specialOf hT zip_no_hint ?_)
  refine wpAny_pure ?_
  show wpAny _ A.in1 (rule "list.extend.makes-room" >>= fun _ => Builtin.List.listTouch (.ref S) >>= fun _ =>
    again (.builtin "list.extend.loop" ⟨[.ref S, .ref z, res], []⟩)) _ _ _
  refine wpAny_bind (wpAny_rule (wpAny_bind ?_))
  show wpAny _ A.in1 (updateSeq S (·.push .none) >>= fun _ => updateSeq S (·.pop)) _ _ _
  refine wpAny_bind (wpAny_updateSeq hS rfl ?_)
  have hS₂ := Heap.get?_update_self (Obj.mapSeq (·.push Value.none)) hS rfl
  refine wpAny_updateSeq (hz := by seq_fits) hS₂ rfl ?_
  have hS₃ := Heap.get?_update_self (Obj.mapSeq (·.pop)) hS₂ rfl
  exact wpAny_pure ⟨plainId_quiet F.plain_extend_loop _, zl_loop hh D L hn res (h₁ := s.heap) hR _ 0 _ s.toks _ #[] [] rfl (Nat.zero_le _) ((st.put L).put L)
    (fun b o h0 _ _ _ _ e => (Heap.get?_update_other _ _ (Ne.symm h0)).trans ((Heap.get?_update_other _ _ (Ne.symm h0)).trans e)) hS₃ rfl rfl ⟨.nil, (fun _ ha => nomatch ha), (fun j a hj => by simp at hj)⟩⟩
theorem zl_init (hh : A.handled = none) (D : ZipApart z TI TO i1 i2 l1 l2) (L : ZlLow z TI TO i1 i2 l1 l2 S) (hn : min xs.size ys.size ≤ sizeLine) (hS : s.heap.get? S = some (liO #[] 0))
    (st : ZlSt s.heap z TI TO i1 i2 l1 l2 S xs ys 0) (hz : IsZip s.heap z TI TO .none) (hR : ZlEnd S z TO i1 i2 xs ys R s .none) :
    wpAny (model prog w) A.in1 (Builtin.«list.__init__» ⟨[.ref S, .ref z], []⟩)
      (fun fin s' => match fin with | .done f => R (.ok f) s' | .again c' => c'.quiet = true ∧ codeAny (model prog w) A c' R s') (fun e s' => R (.error e) s') s := by
  show wpAny _ _ (do let old ← Builtin.List.listItems (.ref S); Builtin.List.listUpdate (.ref S) (fun _ => #[]); letGo old.toList.reverse; Builtin.List.listExtendWith (.ref S) (.ref z) .none) _ _ s
  refine wpAny_bind ?_
  unfold Builtin.List.listItems
  refine wpAny_bind (wpAny_seqItems hS rfl (wpAny_pure ?_))
  show wpAny _ _ (updateSeq S (fun _ => #[]) >>= fun _ => letGo (#[] : Array Value).toList.reverse >>= fun _ => Builtin.List.listExtendWith (.ref S) (.ref z) .none) _ _ s
  refine wpAny_bind (wpAny_updateSeq hS rfl ?_)
  have hS₂ := Heap.get?_update_self (Obj.mapSeq (fun _ => (#[] : Array Value))) hS rfl
  refine wpAny_bind (wpAny_letGo ?_)
  refine zl_extend hh D L hn .none _ hS₂ (st.put L) ((Heap.get?_update_other _ _ (Nat.ne_of_gt L.z)).trans hz) fun h' tk acc c as kp e1 e2 e3 e4 => hR h' tk acc c as (fun b o h0 h1 h2 h3 h4 e => kp b o h0 h1 h2 h3 h4 ((Heap.get?_update_other _ _ (Ne.symm h0)).trans e)) e1 e2 e3 e4
/-- list(z), z a zip of two lists that has just been made -/
theorem zl_call {Q : Value → Shared → Prop} (hh : A.handled = none) (D : ZipApart z TI TO i1 i2 l1 l2) (L : ZlLow z TI TO i1 i2 l1 l2 s.heap.objs.size) (hn : min xs.size ys.size ≤ sizeLine)
    (hz : IsZip s.heap z TI TO .none) (ti : IsPair s.heap TI (.ref i1) (.ref i2)) (to : IsPair s.heap TO .none .none) (a1 : s.heap.IsListIter i1 l1 0) (a2 : s.heap.IsListIter i2 l2 0) (b1 : s.heap.IsList l1 xs) (b2 : s.heap.IsList l2 ys)
    (hQ : ∀ h' tk acc c as, (∀ b o, b ≠ z → b ≠ TO → b ≠ i1 → b ≠ i2 → s.heap.get? b = some o → h'.get? b = some o) → h'.get? s.heap.objs.size = some (liO acc c) → as.length = min xs.size ys.size → Zps xs ys s.heap.objs.size h' as →
      acc.toList = as.map Value.ref → Q (.ref s.heap.objs.size) { s with heap := h', toks := tk }) :
    wpAny (model prog w) A (call (.type "list") [.ref z]) Q E s := by
  refine callType_codes (Q₁ := fun obj s₁ => obj = .ref s.heap.objs.size ∧ s₁ = { s with heap := s.heap.push { cls := .type "list", data := .seq #[] } }) F.called_list (F.typeCall_list_1 _) F.entry_list_init
    (code_list_new _ ⟨rfl, rfl⟩) fun obj s₁ h₁ => ?_
  obtain ⟨rfl, rfl⟩ := h₁
  have hS : (s.heap.push { cls := .type "list", data := .seq #[] }).get? s.heap.objs.size = some (liO #[] 0) := Heap.get?_push_size _ rfl
  have up : ∀ b o, s.heap.get? b = some o → (s.heap.push { cls := .type "list", data := .seq #[] }).get? b = some o := fun b o e => Heap.get?_push_of_some _ e
  refine ⟨⟨_, hS, rfl⟩, F.args_list_init_2 _ _, zl_init (A := A.in1) hh D L hn hS ⟨.inl (up _ _ hz), up _ _ ti, ⟨_, _, up _ _ to⟩, a1.at fun o e => up _ o e, a2.at fun o e => up _ o e, b1.at fun o e => up _ o e, b2.at fun o e => up _ o e⟩ (up _ _ hz) fun h' tk acc c as kp e1 e2 e3 e4 => ⟨rfl, ?_⟩⟩
  exact hQ h' tk acc c as (fun b o h1 h2 h3 h4 e => kp b o (Nat.ne_of_lt (Heap.lt_size e)) h1 h2 h3 h4 (up b o e)) e1 e2 e3 e4
end
end VF
end
section
set_option Elab.async false
set_option linter.all false
set_option maxRecDepth 100000
set_option maxHeartbeats 2000000
/-! list(zip(a, b)): the reading, what it means -/
namespace VF
open PySem PySem.Spec L2
open PyProof.Rows hiding St

/-! ### several new objects at once -/
section
variable {P : Program} {w : World} {fs ex : List Addr} {H H' : Hp} {h h' : Heap}
theorem Un.newly (x : HOk P w H h) (k : ∀ b u, h.get? b = some u → h'.get? b = some u) (n : ∀ b, b < h.objs.size → H' b = H b) : Un fs ex H H' h h' where
  keep := fun b u q _ _ _ => k b u q
  slot := fun b u q _ _ _ => ⟨u.slots, k b u q⟩
  free := fun b u q z _ => (n b (Heap.lt_size q)).trans z
  there := fun b u q _ => ⟨u, k b u q⟩
  tups := fun b xs q => (n b (x.lt q)).trans q
  frzs := fun b u xs q => (n b (x.lt q)).trans q
  tbls := fun b ps q => ⟨#[], by rw [n b (x.lt q), q]; simp⟩
theorem hok_newly (x : HOk P w H h) (k : ∀ b u, h.get? b = some u → h'.get? b = some u) (n : ∀ b, b < h.objs.size → H' b = H b) (new : ∀ a o, h.objs.size ≤ a → H' a = some o → ObjOk P w H' h' a o) : HOk P w H' h' := fun a o e => by
  rcases Nat.lt_or_ge a h.objs.size with q | q
  · rw [n a q] at e
    exact (x a o e).stay (fun b u _ z => k b u z) (fun b z => (n b (x.lt z)).trans z) fun b xs z => (n b (x.lt z)).trans z
  · exact new a o q e
theorem Inv.newly {X : Cx} {pins : List (Addr × Obj)} {σ : St} {s : Shared} {t' : Nat} (I : Inv X pins σ H s) (k : ∀ b u, s.heap.get? b = some u → h'.get? b = some u) (n : ∀ b, b < s.heap.objs.size → H' b = H b)
    (new : ∀ a o, s.heap.objs.size ≤ a → H' a = some o → ObjOk X.prog X.w H' h' a o) : Inv X pins σ H' { s with heap := h', toks := t' } := I.un (Un.newly I.hok k n) (hok_newly I.hok k n new)
end
/-- the pairs of two lists, laid -/
def layP (H : Hp) : List Addr → List V → List V → Hp
  | a :: as, x :: xs, y :: ys => layP (upd H a (.tup [x, y])) as xs ys
  | _, _, _ => H
theorem layP_out : ∀ {as : List Addr} {H : Hp} {xs ys : List V} {q : Addr}, q ∉ as → layP H as xs ys q = H q
  | [], _, _, _, _, _ => rfl
  | _ :: _, _, [], _, _, _ => rfl
  | _ :: _, _, _ :: _, [], _, _ => rfl
  | a :: as, H, x :: xs, y :: ys, q, h => by
    rw [layP, layP_out fun z => h (List.mem_cons_of_mem _ z), upd_ne fun z => h (by rw [z]; exact List.mem_cons_self)]
theorem layP_in : ∀ {as : List Addr} {H : Hp} {xs ys : List V} {q : Addr} {o : HO}, as.Nodup → layP H as xs ys q = some o → H q = some o ∨ ∃ (j : Nat) (x y : V), as[j]? = some q ∧ xs[j]? = some x ∧ ys[j]? = some y ∧ o = .tup [x, y]
  | [], _, _, _, _, _, _, e => .inl e
  | _ :: _, _, [], _, _, _, _, e => .inl e
  | _ :: _, _, _ :: _, [], _, _, _, e => .inl e
  | a :: as, H, x :: xs, y :: ys, q, o, nd, e => by
    rcases layP_in (List.nodup_cons.mp nd).2 e with z | ⟨j, x', y', h1, h2, h3, h4⟩
    · by_cases qa : q = a
      · subst qa
        rw [upd_same] at z
        exact .inr ⟨0, x, y, rfl, rfl, rfl, (Option.some.inj z).symm⟩
      · rw [upd_ne qa] at z; exact .inl z
    · exact .inr ⟨j + 1, x', y', by simpa using h1, by simpa using h2, by simpa using h3, h4⟩
/-- list(zip(a, b)), a and b lists -/
def rLz (K : Fg) : List V → Hp → VK → Prop := fun vs H Q => ∃ a b xs ys, vs = [.ref a, .ref b] ∧ SqL K H a xs ∧ SqL K H b ys ∧
  ∀ (as : List Addr) (l : Addr), as.length = min xs.length ys.length → as.Nodup → (∀ q ∈ as, H q = none) → l ∉ as → H l = none → Q (.ref l) (upd (layP H as xs ys) l (.lst (as.map V.ref)))
theorem das_refs : ∀ as : List Addr, Vals (as.map V.ref) (as.map Value.ref)
  | [] => .nil
  | _ :: as => .cons rfl (das_refs as)
theorem pe_lz {X : Cx} {e e2 : Expr} {ta : TA} {p p2 q pos : Pos} (hg : Gl X "list") (hm : X.mg "list" = none) (hg2 : Gl X "zip") (hm2 : X.mg "zip" = none) (ha : PA X [e, e2] ta) (hc : X.calm = true)
    (nz : starEach [.Call (.Name "zip" p2) [e, e2] [] q] X.env = (false, eval (.Call (.Name "zip" p2) [e, e2] [] q) X.env) :: starEach [] X.env)
    (hs : starEach [e, e2] X.env = (false, eval e X.env) :: starEach [e2] X.env) (hpl : (backTo q (starEach [e2] X.env)).any (·.1) = false) :
    PE X (.Call (.Name "list" p) [.Call (.Name "zip" p2) [e, e2] [] q] [] pos) (tCB (rLz X.K) ta) := by
  refine ⟨fun pins s σ H Q I h => ?_⟩
  refine Call_ (ld_blt I hg hm (by rfl : bootBuiltins "list" = some (.type "list")) ?_)
  refine PyProof.Rows.callWith_type1 (PyProof.Rows.args_cons ?_ nz) nz rfl
  refine Call_ (ld_blt I hg2 hm2 PyProof.Rows.boot_zip (PyProof.Rows.callWith_type1 (thn (ha.run q pins s σ H _ I h) fun us s1 ⟨vs, H1, I1, r1, q1⟩ => ?_) hs hpl))
  obtain ⟨a, b, xs, ys, rfl, hqx, hqy, k⟩ := q1
  cases r1 with
  | cons r rr =>
    cases rr with
    | cons r' rr =>
      cases rr
      cases r
      cases r'
      obtain ⟨its, rv, pl, hz⟩ := I1.list hqx
      obtain ⟨its2, rv2, pl2, hz2⟩ := I1.list hqy
      have la : @LT.lt Nat _ a s1.heap.objs.size := pl.lt
      have lb : @LT.lt Nat _ b s1.heap.objs.size := pl2.lt
      have len : min its.toArray.size its2.toArray.size = min xs.length ys.length := by rw [List.size_toArray, List.size_toArray, ← rv.length, ← rv2.length]
      refine call_zip_2 pl.isList pl2.isList fun h' zz hTI hTO h1 h2 hsz hk => ?_
      refine PyProof.Rows.args_nil ?_
      have lt5 : ∀ d : Nat, d ≤ s1.heap.objs.size + 4 → d < h'.objs.size := fun d hd => by rw [hsz]; omega
      have ne5 : ∀ d k : Nat, d < s1.heap.objs.size → d ≠ s1.heap.objs.size + k := fun d k h => by omega
      refine zl_call (s := { s1 with heap := h' }) (I1.ok.hd hc) (PySem.W.ktu_apart s1.heap.objs.size a b la lb)
        ⟨lt5 _ (Nat.le_refl _), lt5 _ (by omega), lt5 _ (by omega), lt5 _ (by omega), lt5 _ (by omega), lt5 _ (by omega), lt5 _ (by omega)⟩ (by rw [len]; omega) zz hTI hTO h1 h2 (pl.isList.at fun o e => hk _ o e) (pl2.isList.at fun o e => hk _ o e) fun h'' tk acc c as kp hS hl hG hacc => ?_
      dsimp only at kp hS hl hG hacc ⊢
      have all : ∀ d u, s1.heap.get? d = some u → h''.get? d = some u := fun d u e => by
        have lt : @LT.lt Nat _ d s1.heap.objs.size := Heap.lt_size e
        exact kp d u (ne5 d 4 lt) (ne5 d 3 lt) (ne5 d 0 lt) (ne5 d 1 lt) (hk d u e)
      have nd : as.Nodup := hG.rise.imp fun h => Nat.ne_of_lt h
      have big : ∀ d ∈ as, @LE.le Nat _ s1.heap.objs.size d := fun d hd => Nat.le_trans (by rw [hsz]; exact Nat.le_add_right _ _) (Nat.le_of_lt (hG.above d hd))
      have nS : h'.objs.size ∉ as := fun hd => Nat.lt_irrefl _ (hG.above _ hd)
      have bS : s1.heap.objs.size ≤ h'.objs.size := by rw [hsz]; exact Nat.le_add_right _ _
      have I2 : Inv X pins σ (upd (layP H1 as xs ys) h'.objs.size (.lst (as.map V.ref))) { s1 with heap := h'', toks := tk } := by
        refine Inv.newly I1 all (fun d hd => ?_) fun d o hd e => ?_
        · rw [upd_ne (fun z => by rw [z] at hd; exact Nat.lt_irrefl _ (Nat.lt_of_lt_of_le hd bS)), layP_out fun z => Nat.lt_irrefl _ (Nat.lt_of_lt_of_le hd (big d z))]
        · by_cases z : d = h'.objs.size
          · subst z
            rw [upd_same] at e
            cases e
            refine ⟨by rw [List.length_map, hl, len]; omega, as.map Value.ref, c, das_refs as, ?_⟩
            rw [← hacc]
            exact hS
          · rw [upd_ne z] at e
            rcases layP_in nd e with e | ⟨j, x, y, e1, e2, e3, rfl⟩
            · rw [I1.hok.fresh hd] at e; cases e
            · obtain ⟨x', y', g1, g2, g3⟩ := hG.pair j d e1
              obtain ⟨u, u1, u2⟩ := rv.get e2
              obtain ⟨v, v1, v2⟩ := rv2.get e3
              have ex : x' = u := by simpa [u1] using g1.symm
              have ey : y' = v := by simpa [v1] using g2.symm
              subst ex
              subst ey
              exact ⟨by show 2 ≤ sizeLine; decide, [x', y'], .cons u2 (.cons v2 .nil), ⟨_, g3, rfl, _, rfl⟩⟩
      exact ⟨.ref h'.objs.size, _, I2, rfl, k as _ (by rw [hl, len]) nd (fun d hd => I1.hok.fresh (big d hd)) nS (I1.hok.fresh bS)⟩
theorem pe_lzK {X : Cx} {K : Fg} (h : X.K = K) {e e2 : Expr} {ta : TA} {p p2 q pos : Pos} (hg : Gl X "list") (hm : X.mg "list" = none) (hg2 : Gl X "zip") (hm2 : X.mg "zip" = none) (ha : PA X [e, e2] ta) (hc : X.calm = true)
    (nz : starEach [.Call (.Name "zip" p2) [e, e2] [] q] X.env = (false, eval (.Call (.Name "zip" p2) [e, e2] [] q) X.env) :: starEach [] X.env)
    (hs : starEach [e, e2] X.env = (false, eval e X.env) :: starEach [e2] X.env) (hpl : (backTo q (starEach [e2] X.env)).any (·.1) = false) :
    PE X (.Call (.Name "list" p) [.Call (.Name "zip" p2) [e, e2] [] q] [] pos) (tCB (rLz K) ta) := h ▸ pe_lz hg hm hg2 hm2 ha hc nz hs hpl
section
variable {K : Fg}
theorem layP_da : ∀ {as : List Addr} {xs ys : List V} {ds es : List D} {R H : Hp}, as.Nodup → (∀ q ∈ as, H q = none) → as.length = min xs.length ys.length → Same R H → DAs K R xs ds → DAs K R ys es →
    ∃ R', Gr (fun _ => False) R H R' (layP H as xs ys) ∧ DAs K R' (as.map V.ref) (ziD ds es)
  | [], xs, ys, ds, es, R, H, _, _, hl, s, o, o2 => by
    refine ⟨R, Gr.refl s, ?_⟩
    cases o with
    | nil => exact .nil
    | cons a t => cases o2 with
      | nil => exact .nil
      | cons b t' => simp at hl
  | a :: as, xs, ys, ds, es, R, H, nd, hn, hl, s, o, o2 => by
    cases o with
    | nil => simp at hl
    | cons h1 t1 => cases o2 with
      | nil => simp at hl
      | cons h2 t2 =>
        obtain ⟨R1, G1, d1⟩ := new_pair s (hn a List.mem_cons_self) h1 h2
        obtain ⟨na, nd'⟩ := List.nodup_cons.mp nd
        obtain ⟨R2, G2, d2⟩ := layP_da nd' (fun q hq => by rw [upd_ne fun z => na (by rw [← z]; exact hq)]; exact hn q (List.mem_cons_of_mem _ hq)) (by simp only [List.length_cons] at hl; omega) G1.rh (DAs.mono G1.rr t1) (DAs.mono G1.rr t2)
        exact ⟨R2, G1.trans G2 fun _ z => z.elim, .cons (d1.mono G2.rr) d2⟩
theorem RPostD.on {R H R1 H1 : Hp} {Q : VK} {o : Option (Lv × D)} (p : RPostD K R H Q o) (G : Gr (fun _ => False) R H R1 H1) : RPostD K R1 H1 Q o := by
  cases o with
  | none => exact p
  | some z =>
    obtain ⟨m, d⟩ := z
    exact fun v H' R' wv G' ow n => p v H' R' wv (G.trans G' fun _ z => z.elim) ow fun q hq => (G.back (n q hq)).elim id fun z => z.elim
def lzD : OpN
  | [.list ds, .list es] => some (some 1, .list (ziD ds es))
  | _ => none
theorem rn_lz : RGN K (rLz K) lzD := by
  intro R H xs ds Q s o p
  unfold lzD at p
  split at p
  · cases o with
    | cons h t => cases t with
      | cons h2 t => cases t with
        | nil => cases h with
          | lst hs hz hd => cases h2 with
            | lst hs2 hz2 hd2 =>
              refine ⟨_, _, _, _, rfl, s.seq hs, s.seq hs2, fun as l hl nd hn nl hq => ?_⟩
              obtain ⟨R1, G1, d1⟩ := layP_da nd hn hl s hd hd2
              exact RPostD.list G1.rh d1 (by rw [List.length_map, hl]; omega) (RPostD.on p G1) l (by rw [layP_out nl]; exact hq)
  · exact p.elim
end
end VF
end
section
set_option Elab.async false
set_option linter.all false
set_option maxRecDepth 100000
set_option maxHeartbeats 2000000
/-! try: .. except (A, B, ..) as e: x = e, and what is asked of x afterwards -/
namespace VF
open PySem PySem.Spec L2
open PyProof.Rows hiding St

section
variable {M : Model} {A : Around} {E : Value → Shared → Prop} {s : Shared}
theorem for_yes {f : Value → PUnit → Sem (ForInStep PUnit)} {Q : PUnit → Shared → Prop} : ∀ {cs : List Value}, (∀ c ∈ cs, ∀ Q' : ForInStep PUnit → Shared → Prop, Q' (.yield ⟨⟩) s → wpAny M A (f c ⟨⟩) Q' E s) → Q ⟨⟩ s → wpAny M A (forIn cs PUnit.unit f) Q E s
  | [], _, q => by rw [List.forIn_nil]; exact wpAny_pure q
  | c :: cs, h, q => by
    rw [List.forIn_cons]
    exact wpAny_bind (h c List.mem_cons_self _ (for_yes (fun d hd => h d (List.mem_cons_of_mem _ hd)) q))
end
theorem exm_loop {M : Model} {A : Around} {E : Value → Shared → Prop} {s : Shared} {K : Fg} {cls : Value} (X : K.In s.heap) {Q : Option Bool × Unit → Shared → Prop} : ∀ {cs : List Value} {b : Bool}, PySem.W.exmAny K cls cs = some b → Q (if b = true then some true else none, ()) s →
    wpAny M A (forIn cs (none, ()) fun c _ => do
      let d ← isSubtype cls c
      if d = true then pure (ForInStep.done (some true, ())) else pure (ForInStep.yield (none, ()))) Q E s
  | [], b, h, q => by
    cases h
    rw [List.forIn_nil]
    exact wpAny_pure q
  | c :: cs, b, h, q => by
    obtain ⟨b1, d1, h1, h2, rfl⟩ := PySem.W.exmAny_cons h
    rw [List.forIn_cons]
    refine wpAny_bind (wpAny_bind ((PySem.W.exm_cls (M := M) X h1).2.here ?_))
    cases b1 with
    | true => rw [if_pos rfl]; exact wpAny_pure (wpAny_pure q)
    | false => rw [if_neg Bool.false_ne_true]; exact wpAny_pure (exm_loop X h2 q)
theorem exmAny_mem {K : Fg} {cls : Value} : ∀ {cs : List Value} {b : Bool}, PySem.W.exmAny K cls cs = some b → ∀ c ∈ cs, ∃ v, PySem.W.exmOne K cls c = some v
  | c :: cs, b, h, d, hd => by
    obtain ⟨b1, d1, h1, h2, rfl⟩ := PySem.W.exmAny_cons h
    rcases List.mem_cons.mp hd with rfl | hd
    · exact ⟨_, h1⟩
    · exact exmAny_mem h2 d hd
theorem exm_list {M : Model} {K : Fg} {cs : List Value} {cls : Value} {tp e : Addr} {b : Bool} {h : Heap} (X : K.In h) (LT : PySem.W.Looks M h (typeOf (.ref e)) cls)
    (hp : h.get? tp = some { cls := .type "tuple", data := .seq cs.toArray }) (hx : PySem.W.exmAny K cls cs = some b) : PySem.W.Looks M h (excMatches (.ref e) (.ref tp)) b := by
  intro A Q E s k₀ q
  have LT0 : PySem.W.Looks M h (isInstance (.ref tp) (.type "tuple")) true := ((PySem.W.Looks.ld hp).andThen .now).andThen (PySem.W.Looks.of_pure isSubtype_tuple_tuple)
  have LT0 := LT0.keeps k₀
  have LT := LT.keeps k₀
  have hp' := k₀ _ _ hp
  unfold excMatches
  refine wpAny_bind (LT0.here ?_)
  dsimp only
  rw [if_pos rfl]
  first
    | refine wpAny_bind (wpAny_seqItems hp' rfl ?_)
    | refine wpAny_bind (wpAny_bind (wpAny_seqItems hp' rfl (wpAny_pure ?_)))
  dsimp only [Option.getD_some, Option.getD]
  refine wpAny_bind (wpAny_pure ?_)
  refine wpAny_bind (for_yes (fun c hc Q' q' => ?_) ?_)
  · obtain ⟨v, hv⟩ := exmAny_mem hx c (by simpa using hc)
    refine wpAny_bind (((PySem.W.exm_cls (M := M) X hv).1.keeps k₀).here ?_)
    rw [if_neg (by decide)]
    exact wpAny_pure q'
  · refine wpAny_bind (LT.here ?_)
    refine wpAny_bind (exm_loop (X.keeps k₀) hx ?_)
    cases b with
    | true => exact wpAny_pure q
    | false => exact wpAny_pure q
/-! ### the classes that an except clause names -/
inductive NamesL (X : Cx) : List Expr → List Value → Prop
  | nil : NamesL X [] []
  | cons {x : Str} {c : Value} {np : Pos} {es : List Expr} {cs : List Value} : Names X x c → NamesL X es cs → NamesL X (.Name x np :: es) (c :: cs)
theorem ld_names {X : Cx} (ok : ∀ {x : Str} {c : Value}, Names X x c → True) {a : Addr} {pn pins : List (Addr × Obj)} {σ : St} {H : Hp} {s : Shared} {x : Str} {c : Value} {np : Pos} {Q : Value → Shared → Prop} {E : Value → Shared → Prop}
    (S : Inv (X.suite a pn) pins σ H s) (hc : Names X x c) (q : Q c s) : wpAny (model X.prog X.w) (X.A.mark (some (.ref a))) (eval (.Name x np) X.env) Q E s := by
  obtain ⟨hg, hdbg, hm | ⟨hm, hv, hnn⟩⟩ := hc
  · exact ld_glob (X := X.suite a pn) S hg hm q hdbg
  · exact ld_blt (X := X.suite a pn) S hg hm hv q hnn hdbg
/-- what an except clause asks -/
def Tst (X : Cx) (t : Expr) (cs : List Value) : Prop := ∀ {a : Addr} {pn pins : List (Addr × Obj)} {σ : St} {H : Hp} {s : Shared} {cls : Value} {b : Bool} {Q : Bool → Shared → Prop} {E : Value → Shared → Prop},
  Inv (X.suite a pn) pins σ H s → PySem.W.Looks (model X.prog X.w) s.heap (typeOf (.ref a)) cls → PySem.W.exmAny X.K cls cs = some b → (∀ h', (∀ d o, s.heap.get? d = some o → h'.get? d = some o) → Q b { s with heap := h' }) →
  wpAny (model X.prog X.w) (X.A.mark (some (.ref a))) (eval t X.env) (fun c s₁ => wpAny (model X.prog X.w) (X.A.mark (some (.ref a))) (excMatches (.ref a) c) Q E s₁) E s
theorem tst_name {X : Cx} {x : Str} {c : Value} {np : Pos} (hc : Names X x c) : Tst X (.Name x np) [c] := by
  intro a pn pins σ H s cls b Q E S LT hx k
  obtain ⟨b1, d1, h1, h2, rfl⟩ := PySem.W.exmAny_cons hx
  cases h2
  refine ld_names (fun _ => trivial) S hc ((PySem.W.exm_one S.kIn LT h1).here ?_)
  rw [show b1 = (b1 || false) from (Bool.or_false b1).symm]
  exact k s.heap fun _ _ e => e
theorem tst_items {X : Cx} {a : Addr} {pn pins : List (Addr × Obj)} {σ : St} {H : Hp} {s : Shared} {E : Value → Shared → Prop} (S : Inv (X.suite a pn) pins σ H s) {pos : Pos} : ∀ {es : List Expr} {cs : List Value} {Q : List Value → Shared → Prop}, NamesL X es cs → Q cs s →
    wpAny (model X.prog X.w) (X.A.mark (some (.ref a))) (spliced (backTo pos (starEach es X.env))) Q E s
  | [], _, _, .nil, q => wpAny_items_nil q
  | _ :: _, _, _, .cons h r, q => wpAny_items_cons (ld_names (fun _ => trivial) S h (tst_items S r q))
theorem tst_tup {X : Cx} {es : List Expr} {cs : List Value} {k : Nat} {tp : Pos} (h : NamesL X es cs) (hz : cs.length ≤ 1000) : Tst X (.Tuple es k tp) cs := by
  intro a pn pins σ H s cls b Q E S LT hx q
  refine wpAny_Tuple (tst_items S h ⟨Nat.le_trans hz (by decide), ?_⟩)
  have kp : ∀ d o, s.heap.get? d = some o → (s.heap.push { cls := .type "tuple", data := .seq cs.toArray }).get? d = some o := fun _ _ z => Heap.get?_push_of_some _ z
  exact (exm_list (S.kIn.keeps kp) (LT.keeps kp) (Heap.get?_push_size s.heap rfl) hx).here (q _ kp)
/-- an exception in flight, the heap grown -/
theorem fly_grow {B : Heap} {l : List Env} {a : Addr} {Z : Obj → Prop} {h h' : Heap} (x : HandSPX.FlyingZ B l a Z h) (k : ∀ b o, h.get? b = some o → h'.get? b = some o) : HandSPX.FlyingZ B l a Z h' := by
  obtain ⟨f1, f2, f3, oe, vs, T, oT, ts, h1, h2, h3, h4, h5, h6, h7, h8, h9⟩ := x
  exact ⟨fun b o e => k b o (f1 b o e), f2, Heap.FunFrames.of_keeps (fun b o e _ => ⟨o, k b o e, rfl⟩) f3, oe, vs, T, oT, ts, k _ _ h1, h2, h3, h4, h5, h6, k _ _ h7, h8, h9⟩
/-- a thing that stood untold is told of -/
theorem inv_lay {X : Cx} {pins : List (Addr × Obj)} {σ : St} {H : Hp} {s : Shared} {a : Addr} {φ : Heap → Prop} (I : Inv X pins σ H s) (na : H a = none) (n0 : X.s_0.heap.get? a = none) (nL : a ≠ X.env.locals)
    (nc : ∀ y c, X.env.cells.lookup y = some c → c ≠ a) (np : ∀ p ∈ X.pn ++ pins, p.1 ≠ a) (hφ : φ s.heap) (ho : ∃ o, s.heap.get? a = some o) (st : ∀ h1 h2 : Heap, φ h1 → (∀ o, h1.get? a = some o → h2.get? a = some o) → φ h2) :
    Inv X pins σ (upd H a (.ext φ)) s := by
  have ne : ∀ {b : Addr} {o : HO}, H b = some o → b ≠ a := fun e z => by rw [z, na] at e; cases e
  have n0' : ∀ {b : Addr} {o : Obj}, X.s_0.heap.get? b = some o → b ≠ a := fun e z => by rw [z, n0] at e; cases e
  refine ⟨I.ok, I.os, I.bare, ⟨I.base.keep, I.base.slot, fun b o e n x => ?_, I.base.there, fun b xs e => ?_, fun b o u e => ?_, fun b ps e => ?_⟩, I.loc, I.cell, ?_, fun y c e => ?_, fun p hp => ?_, fun b o e => ?_, I.len⟩
  · rw [upd_ne (n0' e)]; exact I.base.free b o e n x
  · have q := I.base.tups b xs e
    rw [upd_ne (ne q)]; exact q
  · have q := I.base.frzs b o u e
    rw [upd_ne (ne q)]; exact q
  · obtain ⟨m, q⟩ := I.base.tbls b ps e
    exact ⟨m, by rw [upd_ne (ne q)]; exact q⟩
  · rw [upd_ne fun z => nL z.symm]; exact I.free
  · rw [upd_ne (nc y c e)]; exact I.freeC y c e
  · obtain ⟨h1, h2, h3⟩ := I.pin p hp
    exact ⟨h1, by rw [upd_ne (np p hp)]; exact h2, h3⟩
  · by_cases z : b = a
    · subst z
      rw [upd_same] at e
      cases e
      exact ⟨hφ, ho, st⟩
    · rw [upd_ne z] at e
      exact (I.hok b o e).stay (fun c u _ q => q) (fun c q => by rw [upd_ne (ne q)]; exact q) fun c xs q => by rw [upd_ne (ne q)]; exact q
/-- what 'except (..) as n: ..' wishes of an exception of the body: slot i is n's; the suite done, the exception is told of -/
def wTell (K : Fg) (cs : List Value) (i : Nat) (ts : Addr → Value → Option Addr → TS) (Wout : WX) (D : Ends) : WX := fun cls d σ H =>
  ∃ b, PySem.W.exmAny K cls cs = some b ∧
    (b = true → ∃ C, cls = .ref C ∧ ∀ a, H a = none → ts a cls d { nx := fun σ' H' => H' a = none ∧ D.nx (σ'.set i none) (upd H' a (exH a C d)), rt := fun _ _ => False, bk := fun _ _ => False, ct := fun _ _ => False } (σ.set i (some (.ref a))) H) ∧
    (b = false → Wout cls d σ H)
section
variable {X : Cx} {n : Str} {cs : List Value} {t : Expr} {i : Nat} {body suite : List Stmt} {b₀ : Stmt} {pos pos' : Pos} {tb : WX → TS} {ts : Addr → Value → Option Addr → TS} {Wout : WX}
theorem ps_try_tell (hex : X.ex = []) (hs : X.stack = X.env :: X.outer) (hf : X.env.frame = some X.env.locals) (hN : X.N.Nodup) (hi : X.N[i]? = some n) (hln : X.env.kindOf n = some .local) (hc : Tst X t cs) (tk : Takes X Wout)
    (hb : ∀ (W : WX) (pn : List (Addr × Obj)) (xe : Value → Shared → Prop), Takes (X.tr pn xe) W → PassesOwn (model X.prog X.w) X.A X.env xe → PSs (X.tr pn xe) body (tb W))
    (hsu : ∀ (a : Addr) (oe : Obj) (cls : Value) (d : Option Addr) (pn : List (Addr × Obj)), Zc cls d oe → (∃ vs, oe.data = .fields vs) → PSs (X.suite a ((a, oe) :: pn)) (b₀ :: suite) (ts a cls d)) :
    PS X (.Try body [.ExceptHandler (some t) (some n) (b₀ :: suite) pos'] [] [] pos) (fun D σ H => tb (wTell X.K cs i ts Wout D) D σ H) := by
  refine ⟨fun pins s σ H D I h => ?_⟩
  have ok := I.ok
  have frames : X.A.frames = some (X.env :: X.outer) := ok.frames.trans (congrArg some hs)
  refine wpAny_Try_except (wpAny_mono ((hb (wTell X.K cs i ts Wout D) (X.pn ++ pins) (fun e s₁ => wpAny (model X.prog X.w) X.A (noteFrame e X.env) (fun _ s₂ => wpAny (model X.prog X.w) X.A (setFlight e none) (fun _ s₃ =>
    wpAny (model X.prog X.w) X.A (handleBy e X.env [.ExceptHandler (some t) (some n) (b₀ :: suite) pos']) (SP X pins D) X.xe s₃) X.xe s₂) X.xe s₁) (fun u s' xx => ?_) PassesOwn.looking).run [] s σ H D (I.toTry _) h) (fun f s1 hsp => ?_) (fun _ _ he => he))
  · obtain ⟨a, B, sI, pins', σ', H', cls, d, rfl, J', nb, up, sky, na, os, ag, b, hb1, hyes, hno⟩ := xx
    have J : Inv X pins σ' H' sI := J'.ofTry ok
    rw [hs] at sky
    show wpAny (model X.prog X.w) X.A (noteFrame (.ref a) X.env) _ _ _
    refine Sky.land Zc.steady frames hf sky fun h3 fl3 up3 => ?_
    have J3 : Inv X pins σ' H' { s' with heap := h3 } := J.landed nb fl3.1 (up.trans up3) os ag
    obtain ⟨oe3, vs3, he3, hz3, hd3⟩ := fl3.there
    have nfr : a ∉ frs (X.env :: X.outer) := fun hm => by
      obtain ⟨_, o', e', hnf⟩ := fl3.2.2.1.mem hm
      rw [he3] at e'
      cases e'
      exact hnf _ hd3
    have nL : a ≠ X.env.locals := fun z => nfr (List.mem_filterMap.mpr ⟨X.env, List.mem_cons_self, by rw [hf, z]⟩)
    have nF : a ∉ X.fs := fun hm => by
      obtain ⟨e, he, q⟩ := List.mem_filterMap.mp hm
      exact nfr (List.mem_filterMap.mpr ⟨e, List.mem_cons_of_mem _ he, q⟩)
    -- the exception was made after all that stood at the start
    have nI : sI.heap.get? a = none := by
      cases q : sI.heap.get? a with
      | none => rfl
      | some o =>
        have z := nb a o q (by rw [hs]; exact nfr)
        rw [fl3.2.1] at z
        cases z
    have S3 := J3.suite he3 hd3 na nL nF
    refine wpAny_handleBy_cons (codeAny_handlers_test ?_) (by intro q; cases q)
    refine hc S3 (fun A Q E s k q => wpAny_typeOf_ref (k _ _ he3) (by rw [hz3.1]; exact q)) hb1 fun hT kT => ?_
    have flT := fly_grow fl3 kT
    cases b with
    | true =>
      refine codeAny_handlers_suite_as (HandSPX.lands_againZ flT fun h4 fl4 up4 => ?_)
      have J4 : Inv X pins σ' H' { s' with heap := h4 } := J.landed nb fl4.1 ((up.trans up3).trans ((Heap.UpToSlots.of_keeps kT).trans up4)) os ag
      obtain ⟨oe4, vs4, he4, hz4, hd4⟩ := fl4.there
      have S4 := J4.suite he4 hd4 na nL nF
      refine store_ok (X := X.suite a ((a, oe4) :: (X.pn ++ pins))) (v := .ref a) S4 hN hi (.inl hln) rfl (fun s5 S5 => ?_) (.inr hln)
      obtain ⟨C, hC, yes⟩ := hyes rfl
      refine wpAny_mono ((hsu a oe4 cls d (X.pn ++ pins) hz4 ⟨_, hd4⟩).run [] s5 _ H' _ S5 (yes a na)) (fun f s6 hsp => ?_) (fun _ _ z => False.elim z)
      cases f with
      | next =>
        obtain ⟨σ6, H6, S6, n6, q6⟩ := hsp
        have T6 : Inv X ((a, oe4) :: pins) σ6 H6 s6 := ⟨ok, S6.os, S6.bare, S6.base, S6.loc, S6.cell, S6.free, S6.freeC, fun p hp => S6.pin p (List.mem_append_left _ (by
          rcases List.mem_append.mp hp with z | z
          · exact List.mem_cons_of_mem _ (List.mem_append_left _ z)
          · rcases List.mem_cons.mp z with z | z
            · rw [z]; exact List.mem_cons_self
            · exact List.mem_cons_of_mem _ (List.mem_append_right _ z))), S6.hok, S6.len⟩
        refine gone_ok (s := s6) T6 hN hi hln fun s7 J7 => ⟨_, _, ?_, q6⟩
        have at7 := (J7.pin (a, oe4) (List.mem_append_right _ List.mem_cons_self)).1
        have K7 : Inv X pins (σ6.set i none) H6 s7 := J7.pins_of fun p hp => J7.pin p (List.mem_append_right _ (List.mem_cons_of_mem _ hp))
        have nb' : ∀ {c : Addr} {o : Obj}, sI.heap.get? c = some o → c ≠ a := fun e z => by rw [z, nI] at e; cases e
        refine inv_lay K7 n6 ?_ nL (fun y c e => ?_) (fun p hp => ?_) ⟨oe4, vs4, at7, by rw [← hC]; exact hz4, hd4⟩ ⟨_, at7⟩ fun h1 h2 z k => ?_
        · cases z : X.s_0.heap.get? a with
          | none => rfl
          | some o =>
            obtain ⟨o', e'⟩ := J.base.there a o z (by rw [hex]; exact List.not_mem_nil)
            rw [nI] at e'; cases e'
        · obtain ⟨v, w, q, _⟩ := J.cell y c e
          exact nb' q
        · exact nb' (J.pin p hp).1
        · obtain ⟨oe, vs, e1, e2, e3⟩ := z
          exact ⟨oe, vs, k _ e1, e2, e3⟩
      | brk =>
        obtain ⟨σ6, H6, S6, q6⟩ := hsp
        exact q6.elim
      | cont =>
        obtain ⟨σ6, H6, S6, q6⟩ := hsp
        exact q6.elim
      | ret u =>
        obtain ⟨v6, σ6, H6, S6, r6, q6⟩ := hsp
        exact q6.elim
    | false =>
      show wpAny _ X.A (handleBy (.ref a) X.env []) _ _ _
      refine wpAny_handleBy_nil ?_
      obtain ⟨k1, k2, k3, oe, vs, T, oT, ts', he, hz, hd, h1, hr⟩ := id flT
      unfold PySem.passOn
      refine wpAny_bind (wpAny_field he hd h1 ?_)
      rw [if_neg (show ¬ ((Value.ref T == Value.none) = true) from by simp)]
      have fin : wpAny (model X.prog X.w) X.A (setFlight (.ref a) X.env.frame) (fun _ s4 => wpAny (model X.prog X.w) X.A (throw (.ref a) : Sem Flow) (SP X pins D) X.xe s4) X.xe { s' with heap := hT } := by
        rw [hf]
        refine HandSPX.setFlight_upZ flT fun h4 hh4 up4 => wpAny_throw (tk _ _ ?_)
        exact ⟨a, B, sI, pins, σ', H', cls, d, rfl, J, nb, (up.trans up3).trans ((Heap.UpToSlots.of_keeps kT).trans up4), .inr (.inr (by rw [hs]; exact hh4)), na, os, ag, hno rfl⟩
      first
        | exact wpAny_bind (wpAny_pure (wpAny_bind fin))
        | exact wpAny_bind fin
  · cases f with
    | next =>
      obtain ⟨σ', H', J', q⟩ := hsp
      exact wpAny_execs_nil ⟨σ', H', J'.ofTry ok, q⟩
    | brk =>
      obtain ⟨σ', H', J', q⟩ := hsp
      exact ⟨σ', H', J'.ofTry ok, q⟩
    | cont =>
      obtain ⟨σ', H', J', q⟩ := hsp
      exact ⟨σ', H', J'.ofTry ok, q⟩
    | ret u =>
      obtain ⟨v, σ', H', J', r, q⟩ := hsp
      exact ⟨v, σ', H', J'.ofTry ok, r, q⟩
end
end VF
end
section
set_option Elab.async false
set_option linter.all false
set_option maxRecDepth 100000
set_option maxHeartbeats 2000000
/-! caught errors as data: what an except clause leaves, isinstance, the field, None -/
namespace VF
open PySem PySem.Spec L2
open PyProof.Rows hiding St

/-- a class of errors of ours, for what is asked of its objects -/
structure XcT (K : Fg) (c : Str) (C : Addr) : Prop where
  at' : PySem.W.nsIn K mainGlobals c = some (some (.ref C))
  ga : PySem.W.findIn K (.ref C) "__getattribute__" = some (some (.builtin "BaseException.__getattribute__"))
  gg : PySem.W.findIn K (.ref C) "__getattr__" = some none
  exC : PySem.W.subIn K (.ref C) (.type "BaseException") = some true
  hdC : PySem.W.hasDictIn K C = true
  cl : (PySem.W.clsIn K C).isSome = true
  tyC : PySem.W.typeIn K (.ref C) = some (.type "type")
  ca : PySem.W.findIn K (.ref C) "__class__" = some (some (.builtin "object.__class__"))
  cm : PySem.W.mroIn K C (.type "object") = some true
  self : PySem.W.subIn K (.ref C) (.ref C) = some true
structure XkT (K : Fg) : Prop where
  cn : PySem.W.specialIn K (.builtin "object.__class__") "__get__" = some (some (.builtin "getset_descriptor.__get__"))
  ct : PySem.W.takesIn K (.builtin "object.__class__") = some true
section
variable {K : Fg} {c : Str} {C : Addr} {t : Value} {b : Bool}
theorem XcT.kit (T : XcT K c C) (h : PySem.W.subIn K t (.ref C) = some b) : PySem.W.kitCls K t (.ref C) = some b := by
  unfold PySem.W.kitCls
  dsimp only
  rw [if_pos (by rw [T.cl, T.tyC]; rfl)]
  exact h
theorem XcT.one (T : XcT K c C) (h : PySem.W.subIn K t (.ref C) = some b) : PySem.W.kitOne K t (.ref C) = some b := by
  unfold PySem.W.kitOne
  by_cases z : (t == Value.ref C) = true
  · rw [if_pos z, ← h, show t = Value.ref C from by simpa using z, T.self]
  · rw [if_neg z]; exact T.kit h
theorem one_ty {T : String} (hm : PySem.W.kitMeta T = true) (h : PySem.W.subIn K t (.type T) = some b) (hn : (t == Value.type T) = false) : PySem.W.kitOne K t (.type T) = some b := by
  unfold PySem.W.kitOne
  rw [hn, if_neg Bool.false_ne_true]
  unfold PySem.W.kitCls
  dsimp only
  rw [if_pos hm]; exact h
theorem exm_nil : PySem.W.exmAny K t [] = some false := rfl
theorem exm_cons {r : List Value} {d : Bool} (T : XcT K c C) (h : PySem.W.subIn K t (.ref C) = some b) (q : PySem.W.exmAny K t r = some d) : PySem.W.exmAny K t (.ref C :: r) = some (b || d) := by
  have e : PySem.W.exmOne K t (.ref C) = some b := by
    unfold PySem.W.exmOne
    rw [T.exC, if_pos (by decide)]
    exact T.kit h
  unfold PySem.W.exmAny
  rw [e, q]
end
/-- of all in a list -/
inductive AllL {α : Type} (P : α → Prop) : List α → Prop
  | nil : AllL P []
  | cons {a : α} {l : List α} : P a → AllL P l → AllL P (a :: l)
theorem AllL.get {α : Type} {P : α → Prop} : ∀ {l : List α}, AllL P l → ∀ a ∈ l, P a
  | _, .cons h t, a, m => by
    rcases List.mem_cons.mp m with rfl | m
    · exact h
    · exact AllL.get t a m

/-! ### try -/
/-- an exception has come: what was one's own may have changed -/
def drp : Slot → Slot
  | .fz d => .fz d
  | _ => .no
def sTry (L : List Str) (i j : Nat) (F : Sl → SR) : Sl → SR := fun ρ => match F ρ with
  | .nx ρ' => .nx ρ'
  | .rz c f ρ' => if L.contains c && (decide (i ≠ j) && decide (i < ρ'.length)) then .nx (((ρ'.map drp).set j (.fz (match f with | some (n, d) => dExc c n d | none => dExn c))).set i .no) else .bad
  | _ => .bad
section
variable {K : Fg} {Z : Zs}
theorem Reps.drop {pv : Nat → V} {U : Addr → Prop} {R H R' H' : Hp} {σ : St} {ρ : Sl} {fp : Fp} (r : Reps K pv R H σ ρ fp) (G : Gr U R H R' H') : Reps K pv R' H' σ (ρ.map drp) (fun _ => []) := by
  refine ⟨G.rh, by rw [List.length_map]; exact r.len, fun j s e => ?_, fun _ _ => rfl, fun _ _ _ h => nomatch h⟩
  rw [List.getElem?_map] at e
  cases q : ρ[j]? with
  | none => rw [q] at e; cases e
  | some s0 =>
    rw [q] at e
    cases e
    have ok := r.at' j s0 q
    cases s0 with
    | no => rfl
    | fz d => obtain ⟨_, v, h1, h2⟩ := ok; exact ⟨rfl, v, h1, h2.mono G.rr⟩
    | ow b m d => rfl
theorem Reps.hide {pv : Nat → V} {R H : Hp} {σ : St} {ρ : Sl} {fp : Fp} {i : Nat} {v : Option V} (r : Reps K pv R H σ ρ fp) : Reps K pv R H (σ.set i v) (ρ.set i .no) (fpS fp i []) := by
  have q := r.forget (i := i)
  refine ⟨q.le, by simpa using q.len, fun j s e => ?_, q.em, q.dj⟩
  by_cases z : i = j
  · subst z
    by_cases hi : i < ρ.length
    · rw [List.getElem?_set_self hi] at e
      cases e
      rw [fpS_eq]; rfl
    · rw [List.getElem?_eq_none (by simpa using hi)] at e; cases e
  · rw [List.getElem?_set_ne z]
    exact q.at' j s e
theorem ss_try {tb : WX → TS} {F : Sl → SR} {L : List Str} {i j : Nat} (hb : ∀ W : WX, SS K ⟨Z.ea, W, Z.pv⟩ (tb W) F)
    (hL : AllL (fun c => PySem.W.nsIn K mainGlobals c = some (some (.ref (Z.ea c))) ∧ PySem.W.exmAny K (.ref (Z.ea c)) (L.map fun c => .ref (Z.ea c)) = some true) L) :
    SS K Z (fun D σ H => tb (wTell K (L.map fun c => .ref (Z.ea c)) i (fun _ _ _ => tAsg (tVar i) (gName j)) Z.W D) D σ H) (sTry L i j F) := by
  intro σ H R ρ fp D' r p
  refine hb _ σ H R ρ fp D' r ?_
  -- what is done with an exception
  have key : ∀ {c : Str} {σ' : St} {H' R' H2 R2 : Hp} {fp' : Fp} {ρ' : Sl} {dd : Option Addr} {d : D}, L.contains c = true → i ≠ j → i < ρ'.length → Gr (InF fp) R H R' H' → Reps K Z.pv R' H' σ' ρ' fp' → (∀ p, InF fp' p → InF fp p ∨ H p = none) → Gr (InF fp') R' H' R2 H2 →
      (∀ a R3, Same R2 R3 → R3 a = some (exH a (Z.ea c) dd) → PySem.W.nsIn K mainGlobals c = some (some (.ref (Z.ea c))) → DA K R3 (.ref a) d) → Stp K Z fp R H (((ρ'.map drp).set j (.fz d)).set i .no) D'.nx →
      wTell K (L.map fun c => .ref (Z.ea c)) i (fun _ _ _ => tAsg (tVar i) (gName j)) Z.W D' (.ref (Z.ea c)) dd σ' H2 := by
    intro c σ' H' R' H2 R2 fp' ρ' dd d hc hij hi G r' n G1 dx q
    obtain ⟨hx, hm⟩ := hL.get c (by simpa using hc)
    refine ⟨true, hm, fun _ => ⟨_, rfl, fun a na => ?_⟩, fun z => nomatch z⟩
    have r1 := r'.drop G1
    have Rn : R2 a = none := Same.noH r1.le na
    have s2 : Same R2 (upd R2 a (exH a (Z.ea c) dd)) := fun b o e => by rw [upd_ne (ne_of_none e Rn)]; exact e
    have G2 : Gr (fun _ => False) R2 H2 (upd R2 a (exH a (Z.ea c) dd)) (upd H2 a (exH a (Z.ea c) dd)) := by
      refine ⟨s2, fun b o e => ?_, fun b o _ e => by rw [upd_ne (ne_of_none e na)]; exact e, fun b h => ?_⟩
      · by_cases z : b = a
        · subst z; rw [upd_same] at e ⊢; exact e
        · rw [upd_ne z] at e ⊢; exact r1.le b o e
      · by_cases z : b = a
        · subst z; exact .inr (.inl na)
        · rw [upd_ne z] at h; exact .inl h
    have r2 := r1.keep G2 fun _ _ z => z
    have da : DA K (upd R2 a (exH a (Z.ea c) dd)) (.ref a) d := dx a _ s2 upd_same hx
    have hl : i < σ'.length := by rw [← r'.len]; exact hi
    refine ⟨.ref a, by rw [List.getElem?_set_self hl], na, ?_⟩
    have r3 := (r2.setF (i := j) da).hide (i := i) (v := none)
    have e : ((σ'.set i (some (V.ref a))).set j (some (V.ref a))).set i none = (σ'.set j (some (V.ref a))).set i none := by
      rw [List.set_comm _ _ hij, List.set_set]
    show D'.nx (((σ'.set i (some (V.ref a))).set j (some (V.ref a))).set i none) _
    rw [e]
    refine q _ _ _ _ ((G.trans G1 n).trans G2 fun _ z => z.elim) r3 fun p hp => ?_
    rcases hp.fpS with z | z
    · cases z
    · rcases z.fpS with z | z
      · cases z
      · obtain ⟨_, z⟩ := z; cases z
  unfold sTry at p
  cases q : F ρ with
  | bad => rw [q] at p; exact p
  | nx ρ' => rw [q] at p; exact p
  | bk ρ' => rw [q] at p; exact p.elim
  | ct ρ' => rw [q] at p; exact p.elim
  | rt m d ρ' => rw [q] at p; exact p.elim
  | rz c f ρ' =>
    rw [q] at p
    dsimp only at p
    by_cases z : (L.contains c && (decide (i ≠ j) && decide (i < ρ'.length))) = true
    · rw [if_pos z] at p
      obtain ⟨z1, z2⟩ := Bool.and_eq_true_iff.mp z
      obtain ⟨z2, z3⟩ := Bool.and_eq_true_iff.mp z2
      cases f with
      | none => exact fun σ' H' R' fp' G r' n H2 R2 G2 => key z1 (of_decide_eq_true z2) (of_decide_eq_true z3) G r' n G2 (fun a R3 _ e g => .exn g e) p
      | some nd =>
        obtain ⟨nm, d⟩ := nd
        intro σ' H' R' fp' G r' n H2 R2 v dd G2 hv hdd hn
        have Ga : Gr (InF fp') R' H' (frzH R2 H2 (Mem [dd])) H2 := ⟨G2.rr.trans (frzH_le G2.rh), frzH_up G2.rh, G2.keep, fun b h => by
          by_cases z : b = dd
          · subst z; exact .inr hn.symm
          · rw [frzH_out fun q => z (List.mem_singleton.mp q)] at h
            exact G2.new b h⟩
        exact key z1 (of_decide_eq_true z2) (of_decide_eq_true z3) G r' n Ga (fun a R3 s3 e g => .exc g e (s3 _ _ (by rw [frzH_in (List.mem_singleton.mpr rfl)]; exact hdd)) ((hv.mono (frzH_le G2.rh)).mono s3)) p
    · rw [if_neg z] at p; exact p.elim
end
end VF
end
section
set_option Elab.async false
set_option linter.all false
set_option maxRecDepth 100000
set_option maxHeartbeats 2000000
/-! what is asked of a caught error: isinstance, its field -/
namespace VF
open PySem PySem.Spec L2
open PyProof.Rows hiding St

/-- a caught error stands there -/
theorem exH_at {X : Cx} {pins : List (Addr × Obj)} {σ : St} {H : Hp} {s : Shared} {a C : Addr} {dd : Option Addr} (I : Inv X pins σ H s) (h : H a = some (exH a C dd)) : ∃ (oe : Obj) (vs : Array Value), s.heap.get? a = some oe ∧ Zc (.ref C) dd oe ∧ oe.data = .fields vs :=
  (show ObjOk X.prog X.w H s.heap a (exH a C dd) from I.hok a _ h).1
/-- isinstance(x, c), x None or a caught error -/
def rIsX (K : Fg) : List V → Hp → VK → Prop := fun xs H Q => ∃ (x c : V) (u : Value) (b : Bool), xs = [x, c] ∧ ClsV c u ∧
  ((x = .non ∧ PySem.W.kitOne K (.type "NoneType") u = some b) ∨ ∃ (a C : Addr) (dd : Option Addr) (cn : Str), x = .ref a ∧ H a = some (exH a C dd) ∧ XcT K cn C ∧ (∀ d, dd = some d → ∃ fs, H d = some (.xd fs)) ∧ PySem.W.kitOne K (.ref C) u = some b) ∧ Q (.bl b) H
theorem call_isX {X : Cx} {K : Fg} (hK : X.K = K) (Tk : XkT K) : CallR X (.builtin "isinstance") (rIsX K) := by
  subst hK
  intro pins s σ H xs us Q I r h
  obtain ⟨x, c, u, b, rfl, k, h, q⟩ := h
  obtain ⟨u1, u2, rfl, r1, r2⟩ := vals2 r
  have e2 := k.eq r2
  subst e2
  rcases h with ⟨rfl, e⟩ | ⟨a, C, dd, cn, rfl, ha, T, hd, e⟩
  · cases (show u1 = Value.none from r1)
    exact PySem.W.kia_one PySem.W.kitx_none I.kIn True.intro e (fun z => nomatch z) fun tk => ⟨.bl b, H, I.tok tk, rfl, q⟩
  · cases (show u1 = Value.ref a from r1)
    obtain ⟨oe, vs, ho, hz, hf⟩ := exH_at I ha
    have J : ∃ od, PySem.W.InstAt s.heap a oe C od := by
      cases dd with
      | none => exact ⟨none, ho, hz.1, by unfold PySem.W.notCls; rw [hf] <;> rfl, by rw [hz.2]; trivial⟩
      | some d =>
        obtain ⟨fs, hfs⟩ := hd d rfl
        obtain ⟨mA, ⟨od, es, ep, e1, e2⟩, _⟩ := (show ObjOk X.prog X.w H s.heap d (.xd fs) from I.hok d _ hfs)
        exact ⟨some od, ho, hz.1, by unfold PySem.W.notCls; rw [hf] <;> rfl, by rw [hz.2]; exact e1⟩
    obtain ⟨od, J⟩ := J
    exact PySem.W.kia_one (PySem.W.kitx_exc T.cl T.ga T.gg T.exC T.ca Tk.cn Tk.ct T.cm) I.kIn J e (fun z => nomatch z) fun tk => ⟨.bl b, H, I.tok tk, rfl, q⟩
/-- what isinstance answers: of None, of errors by their class -/
def isXD (non : Option Bool) (tb : List (Str × Bool)) : Op1
  | .none => non.map fun b => (none, .bool b)
  | .dict [(.tuple [.str c, .str _], _)] => (tb.lookup c).map fun b => (none, .bool b)
  | .dict [(.tuple [.str c], .none)] => (tb.lookup c).map fun b => (none, .bool b)
  | _ => none
theorem lookup_mem {c : Str} {b : Bool} : ∀ {tb : List (Str × Bool)}, tb.lookup c = some b → (c, b) ∈ tb
  | (x, y) :: r, h => by
    rw [List.lookup_cons] at h
    by_cases z : (c == x) = true
    · rw [z] at h
      cases h
      rw [show c = x from by simpa using z]
      exact List.mem_cons_self
    · rw [show (c == x) = false from by simpa using z] at h
      exact List.mem_cons_of_mem _ (lookup_mem h)
theorem nsIn_inj {K : Fg} {c : Str} {C D : Addr} (h : PySem.W.nsIn K mainGlobals c = some (some (.ref C))) (g : PySem.W.nsIn K mainGlobals c = some (some (.ref D))) : C = D := by
  rw [h] at g
  cases g; rfl
theorem se_isX {K : Fg} {Z : Zs} {δ : Option Nat} {te : TE} {fe : Ev → Mu → ER} {cv : V} {u : Value} {non : Option Bool} {tb : List (Str × Bool)} (hc : ClsV cv u) (hn : ∀ b, non = some b → PySem.W.kitOne K (.type "NoneType") u = some b)
    (ht : AllL (fun p : Str × Bool => ∃ C, XcT K p.1 C ∧ PySem.W.kitOne K (.ref C) u = some p.2) tb) (h : SE K Z δ te fe) : SE K Z δ (tCB (rIsX K) (tCons te (tCons (tC cv) tNil))) (eOp1 (isXD non tb) fe) := by
  intro σ H R ε μ w Q s e M p
  refine h.then (Q := Q) s e M (fun d μ1 => erO μ1 (isXD non tb d)) p fun v H1 R1 w1 d μ1 G1 e1 M1 o1 p1 => ?_
  have p2 := EPost.op M1 p1
  cases o1 with
  | non =>
    cases q : non with
    | none => rw [q] at p2; exact p2.elim
    | some b => rw [q] at p2; exact ⟨_, _, u, b, rfl, hc, .inl ⟨rfl, hn b q⟩, RPostD.now p2 G1.rh (.sc (.bl b) rfl)⟩
  | @exc a C dd c n v d g g1 g2 g3 =>
    have p3 : RPostD K R1 H1 Q ((tb.lookup c).map fun b => (none, .bool b)) := p2
    cases q : tb.lookup c with
    | none => rw [q] at p3; exact p3.elim
    | some b =>
      rw [q] at p3
      obtain ⟨C', T, hk⟩ := ht.get _ (lookup_mem q)
      cases nsIn_inj g T.at'
      exact ⟨_, _, u, b, rfl, hc, .inr ⟨a, _, some dd, c, rfl, G1.rh _ _ g1, T, (fun d' e' => by cases e'; exact ⟨_, G1.rh _ _ g2⟩), hk⟩, RPostD.now p3 G1.rh (.sc (.bl b) rfl)⟩
  | @exn a C c g g1 =>
    have p3 : RPostD K R1 H1 Q ((tb.lookup c).map fun b => (none, .bool b)) := p2
    cases q : tb.lookup c with
    | none => rw [q] at p3; exact p3.elim
    | some b =>
      rw [q] at p3
      obtain ⟨C', T, hk⟩ := ht.get _ (lookup_mem q)
      cases nsIn_inj g T.at'
      exact ⟨_, _, u, b, rfl, hc, .inr ⟨a, _, none, c, rfl, G1.rh _ _ g1, T, (fun d' e' => nomatch e'), hk⟩, RPostD.now p3 G1.rh (.sc (.bl b) rfl)⟩
  | bl => exact p2.elim
  | int => exact p2.elim
  | str => exact p2.elim
  | lst => exact p2.elim
  | tup => exact p2.elim
  | dic => exact p2.elim
  | rng => exact p2.elim

/-! ### the field of a caught error -/
def tXa (K : Fg) (f : Str) (te : TE) : TE := fun σ H Q => te σ H fun x H1 => ∃ (a C dd : Addr) (c : Str) (fs : List (Str × V)) (v : V), x = .ref a ∧ H1 a = some (exH a C (some dd)) ∧ XcT K c C ∧ PySem.W.findIn K (.ref C) f = some none ∧ H1 dd = some (.xd fs) ∧ fs.lookup f = some v ∧ Q v H1
theorem pe_xa {X : Cx} {K : Fg} (hK : X.K = K) {e : Expr} {f : Str} {pos : Pos} {te : TE} (he : PE X e te) (hb : attributeBase e f X.env (eval e X.env) = eval e X.env := by rfl) : PE X (.Attribute e f pos) (tXa K f te) := by
  subst hK
  refine ⟨fun pins s σ H Q I h => ?_⟩
  refine attr_of hb (thn (he.run pins s σ H _ I h) fun u s1 hh => ?_)
  obtain ⟨x, H1, I1, rx, a, C, dd, c, fs, v, rfl, ha, T, no, hd, l, q⟩ := hh
  obtain rfl : u = Value.ref a := rx
  obtain ⟨oe, vs, ho, hz, hf⟩ := exH_at I1 ha
  obtain ⟨mA, hns, hr⟩ := (show ObjOk X.prog X.w H1 s1.heap dd (.xd fs) from I1.hok dd _ hd)
  obtain ⟨od, e1, hl⟩ := lookIn_ns hns
  obtain ⟨u, hu, ru⟩ := RelO.some_of (v := v) (o := mA f) (by rw [← l]; exact hr f)
  have J : PySem.W.InstAt s1.heap a oe C (some od) := ⟨ho, hz.1, by unfold PySem.W.notCls; rw [hf] <;> rfl, by rw [hz.2]; exact e1⟩
  exact HandSPX.exc_get I1.kIn J T.ga T.gg T.exC (PySem.W.findObj_own T.hdC no rfl (by rw [hl, hu])) (handed_of ru) ⟨v, H1, I1.tok _, ru, q⟩
def xaD (f : Str) (L : List Str) : Op1
  | .dict [(.tuple [.str c, .str n], d)] => if decide (n = f) && L.contains c then some (lv0 d, d) else none
  | _ => none
theorem se_xa {K : Fg} {Z : Zs} {δ : Option Nat} {te : TE} {fe : Ev → Mu → ER} {f : Str} {L : List Str} (hL : AllL (fun c => ∃ C, XcT K c C ∧ PySem.W.findIn K (.ref C) f = some none) L) (h : SE K Z δ te fe) : SE K Z δ (tXa K f te) (eOp1 (xaD f L) fe) := by
  intro σ H R ε μ w Q s e M p
  refine h.then (Q := Q) s e M (fun d μ1 => erO μ1 (xaD f L d)) p fun v H1 R1 w1 d μ1 G1 e1 M1 o1 p1 => ?_
  have p2 := EPost.op M1 p1
  cases o1 with
  | @exc a C dd c n v d g g1 g2 g3 =>
    have p3 : RPostD K R1 H1 Q (if decide (n = f) && L.contains c then some (lv0 d, d) else none) := p2
    by_cases z : (decide (n = f) && L.contains c) = true
    · rw [if_pos z] at p3
      obtain ⟨z1, z2⟩ := Bool.and_eq_true_iff.mp z
      have z1 := of_decide_eq_true z1
      subst z1
      obtain ⟨C', T, no⟩ := hL.get c (by simpa using z2)
      cases nsIn_inj g T.at'
      exact ⟨a, _, dd, c, _, v, rfl, G1.rh _ _ g1, T, no, G1.rh _ _ g2, by simp [List.lookup], RPostD.now p3 G1.rh (ow_lv0 g3)⟩
    · rw [if_neg z] at p3; exact p3.elim
  | exn => exact p2.elim
  | non => exact p2.elim
  | bl => exact p2.elim
  | int => exact p2.elim
  | str => exact p2.elim
  | lst => exact p2.elim
  | tup => exact p2.elim
  | dic => exact p2.elim
  | rng => exact p2.elim
end VF
end
section
set_option Elab.async false
set_option linter.all false
set_option maxRecDepth 100000
set_option maxHeartbeats 4000000
/-! errors of our own under LookupError, with one field: as Er.lean has them under ValueError -/
namespace VF
open PySem PySem.Spec L2
open PyProof.Rows hiding St
open PySem.Builtin PySem.Builtin.ObjectAttr

abbrev leTail : List Value := [.type "LookupError", .type "Exception", .type "BaseException", .type "object"]
theorem leT_pass (self : Value) (C : Addr) : refuseLoop self "__setattr__" (.ref C :: leTail) = pure () := by
  rw [refuseLoop_ref]
  exact PySem.F.store_LookupError.passes self
section
variable {prog : Program} {w : World} {A : Around} {R : Result → Shared → Prop} {hh : Heap} {gs : Array GenState} {dr : Drawn} {tk : Nat} {osx : OsState}
/-- the first field of such an error -/
theorem leT_osa {K : Fg} {fld : Str} {tok : Tok} {val : Value} {e C : Addr} {fv : Array Value} {nm q : Str} {N : Addr} {bs : List Value} {sn : List Str} {sub : List Value} {ab : Bool} {col : Option Bool} {dl : Bool}
    (kin : K.In hh) (he : hh.get? e = some { cls := .ref C, data := .fields fv }) (hcd : PySem.W.clsIn K C = some { name := nm, bases := bs, mro := .ref C :: leTail, ns := N, qualname := q, hasDict := true, slotNames := sn, subclasses := sub, abstract := ab, collection := col, hasDel := dl })
    (no : PySem.W.findIn K (.ref C) fld = some none)
    (fin : ∀ h2 t2 dx, (∀ b o, b ≠ e → hh.get? b = some o → h2.get? b = some o) → hh.objs.size ≤ dx → dx ≠ e → h2.get? e = some { cls := .ref C, dict := some dx, data := .fields fv } →
      h2.Ns1 dx (fun y => if y = fld then some val else none) → R (.ok (.ret .none)) ⟨h2, gs, dr, t2, osx⟩) :
    codeAny (model prog w) A (.call (.builtin "object.__setattr__") ⟨[.ref e, .str fld tok, val], []⟩) R ⟨hh, gs, dr, tk, osx⟩ := by
  have In0 : PySem.W.InstAt hh e { cls := .ref C, data := .fields fv } C none := ⟨he, rfl, rfl, trivial⟩
  have S := PySem.F.store_object
  have en : e ≠ hh.objs.size := Nat.ne_of_lt (Heap.lt_size he)
  have isO : PySem.W.Looks (model prog w) hh (isInstance (.ref e) (.type "object")) true := In0.type.andThen (PySem.W.looks_mroIn kin (by unfold PySem.W.mroIn; rw [hcd]; simp))
  have mr : PySem.W.Looks (model prog w) hh (mroOf (.ref C)) (.ref C :: leTail) := (PySem.W.looks_clsIn kin hcd).andThen .now
  have tkr : PySem.W.Looks (model prog w) hh (storeTaker? none) none := .now
  have cdL := PySem.W.looks_clsIn (M := model prog w) kin hcd
  refine codeAny_call_builtin S.slot.plain S.entry (@PySem.W.check_slot (model prog w) _ _ ⟨hh, gs, dr, tk, osx⟩ "object.__setattr__" "object" "__setattr__" (.ref e) [.str fld tok, val] [] _ S.kind S.split isO (S.args (.ref e) (.str fld tok) val) ?_)
  rw [PySem.W.osa_eq, refuse_eq]
  refine wpAny_bind (wpAny_bind (In0.type.at (wpAny_bind (mr.at ?_))))
  rw [leT_pass]
  refine wpAny_pure (wpAny_bind (In0.type.at (wpAny_bind ((PySem.W.looks_findIn kin no).at (wpAny_bind (tkr.at ?_))))))
  show wpAny _ _ (storeInOwnDict (.ref e) (.ref C) (.str fld tok) fld val false) _ _ _
  unfold storeInOwnDict ownDictForStores
  repeat (first | with_reducible refine PySem.HandSPX.store_in_new ?_ ?_ | with_reducible refine wpAny_loadPart_at he ?_ | with_reducible refine cdL.at ?_ | wp_step)
  · exact ⟨_, #[], _, (Heap.get?_update_ne _ _ _ _ en.symm).trans (Heap.get?_push_at rfl rfl), rfl, fun e he => absurd he (by simp), fun _ => rfl⟩
  · intro h2 t2 hn2 hs2
    have he₁ : (hh.push { cls := .type "dict", data := .dict #[] }).get? e = some { cls := .ref C, data := .fields fv } := Heap.get?_push_of_some _ he
    refine fin h2 t2 hh.objs.size (fun b o hb ho => ?_) (Nat.le_refl _) en.symm ((hs2.2 e en).trans (Heap.get?_update_self _ he₁ rfl)) hn2
    exact (hs2.2 b (Nat.ne_of_lt (Heap.lt_size ho))).trans ((Heap.get?_update_ne _ _ _ _ hb).trans (Heap.get?_push_of_some _ ho))
end
/-- what the written part says of such a class -/
structure OexL (K : Fg) (C : Addr) : Prop where
  cls : ∃ nm q N bs sn sub ab col dd k0 k1 k2 k3 k5, K.lookup C = some (excClassObj nm q C N bs leTail true sn sub ab col dd k0 k1 k2 k3 k5 "LookupError.__new__")
  sa : PySem.W.findIn K (.ref C) "__setattr__" = some (some (.builtin "object.__setattr__"))
  exC : PySem.W.subIn K (.ref C) (.type "BaseException") = some true
  tyC : PySem.W.typeIn K (.ref C) = some (.type "type")
  kC : PySem.W.keepIn K (.ref C) = true
section
variable {X : Cx} {pins : List (Addr × Obj)} {σ : St} {H : Hp} {s : Shared} {a C : Addr} {f : Str} {y : V} {u : Value} {Q : Unit → Shared → Prop} {E : Value → Shared → Prop} {A : Around}
theorem leT_ost (T : OexL X.K C) (I : Inv X pins σ H s) (ea : H a = some (exo a C none)) (no : PySem.W.findIn X.K (.ref C) f = some none) (ry : RelV y u)
    (k : ∀ dx s', H dx = none → dx ≠ a → Inv X pins σ (upd (upd H dx (exd dx [(f, y)])) a (exo a C (some dx))) s' → Q () s') : wpAny (model X.prog X.w) A (setAttr (.ref a) f u) Q E s := by
  obtain ⟨nm, q, N, bs, sn, sub, ab, col, dd, k0, k1, k2, k3, k5, hC⟩ := T.cls
  have hcl : PySem.W.clsIn X.K C = some { name := nm, bases := bs, mro := .ref C :: leTail, ns := N, qualname := q, hasDict := true, slotNames := sn, subclasses := sub, abstract := ab, collection := col, hasDel := false } := by
    unfold PySem.W.clsIn
    rw [hC] <;> rfl
  obtain ⟨t1, ho⟩ := exo_at I.hok ea
  obtain ⟨hh, gs, dr, tk, osx⟩ := s
  refine PySem.W.set_plain I.kIn (ox := { cls := .ref C, dict := none, data := .fields #[.ref t1, .none, .none, .none, .bool false, .none] }) (od := none) ⟨ho, rfl, rfl, trivial⟩ T.sa (leT_osa I.kIn ho hcl no fun h2 t2 dx kp fr ne hx hn => ?_)
  have nD : H dx = none := I.hok.fresh fr
  have old : ∀ {b : Addr} {o : Obj}, hh.get? b = some o → b ≠ dx := fun {b o} z => Nat.ne_of_lt (Nat.lt_of_lt_of_le (Heap.lt_size z) fr)
  have nA : ∀ {b : Addr}, H b = none → b ≠ a := fun {b} n z => by rw [z, ea] at n; cases n
  have U : Un X.fs [] H (upd (upd H dx (exd dx [(f, y)])) a (exo a C (some dx))) hh h2 := by
    refine ⟨fun b o z n _ _ => kp b o (nA n) z, fun b o z n _ _ => ⟨o.slots, kp b o (nA n) z⟩, fun b o z n _ => ?_, fun b o z _ => ?_, fun b xs z => ?_, fun b o v z => ?_, fun b ps z => ⟨#[], ?_⟩⟩
    · rw [upd_ne (nA n), upd_ne (old z)]; exact n
    · by_cases hb : b = a
      · subst hb; exact ⟨_, hx⟩
      · exact ⟨o, kp b o hb z⟩
    · rw [upd_ne (at_ne ea z exo_tup), upd_ne (ne_of_none z nD)]; exact z
    · rw [upd_ne (at_ne ea z exo_frz), upd_ne (ne_of_none z nD)]; exact z
    · rw [upd_ne (at_ne ea z exo_tbl), upd_ne (ne_of_none z nD), z]; simp
  refine k dx _ nD ne (I.un (t' := t2) U fun b o z => ?_)
  by_cases hb : b = a
  · subst hb
    rw [upd_same] at z; cases z
    exact exo_ok hx
  · rw [upd_ne hb] at z
    by_cases hd : b = dx
    · subst hd
      rw [upd_same] at z; cases z
      exact exd_ok hn (relO_put (fs := []) ry fun g => True.intro)
    · rw [upd_ne hd] at z
      refine (I.hok b o z).stay (fun c v hc x => kp c v ?_ x) (fun c hc => ?_) fun c xs hc => ?_
      · rcases hc with hc | hc
        · rw [hc]; exact hb
        · exact at_ne ea hc exo_own
      · rw [upd_ne (at_ne ea hc exo_own), upd_ne (ne_of_none hc nD)]; exact hc
      · rw [upd_ne (at_ne ea hc exo_tup), upd_ne (ne_of_none hc nD)]; exact hc
theorem leT_init {us : List Value} {Q : Value → Shared → Prop} (T : OexL X.K C) (I : Inv X pins σ H s) (ea : H a = some (exo a C none)) (hl : us.length ≤ sizeLine) (k : ∀ s', Inv X pins σ H s' → Q .none s') :
    wpAny (model X.prog X.w) A (call (.builtin "LookupError.__init__") (.ref a :: us)) Q E s := by
  obtain ⟨nm, q, N, bs, sn, sub, ab, col, dd, k0, k1, k2, k3, k5, hC⟩ := T.cls
  obtain ⟨t1, ho⟩ := exo_at I.hok ea
  obtain ⟨hh, gs, dr, tk, osx⟩ := s
  refine wpAny_call (PySem.HandSPX.init_base PySem.F.excBase_LookupError (fun Y => rfl) (I.kIn _ _ hC) ho hl fun h2 t2 kp hx => ?_)
  have eu : upd H a (exo a C none) = H := by
    funext b
    by_cases hb : b = a
    · subst hb; rw [upd_same, ea]
    · rw [upd_ne hb]
  have J := I.write (t' := tk) (x := a) (e := a) (o := exo a C none) (by rw [ea]; exact True.intro) (.inl rfl) kp ⟨_, hx⟩ (exo_ok hx)
  exact k _ (eu ▸ J)
end
theorem typ_LE : typeOf (.type "LookupError") = pure (.type "type") := by kernel_rfl
/-- LookupError.__init__(self, ..) -/
def tLeI (K : Fg) (ta : TA) : TE := fun σ H Q => ta σ H fun vs H1 => ∃ (a C : Addr) (ws : List V), vs = .ref a :: ws ∧ ws.length ≤ 1000 ∧ OexL K C ∧ H1 a = some (exo a C none) ∧ Q .non H1
/-- self.f = e, the first field -/
def tOstL (K : Fg) (f : Str) (to te : TE) : TS := fun D σ H => te σ H fun y H1 => to σ H1 fun x H2 => ∃ a C : Addr, x = .ref a ∧ OexL K C ∧ PySem.W.findIn K (.ref C) f = some none ∧ H2 a = some (exo a C none) ∧
  ∀ dx, H2 dx = none → dx ≠ a → D.nx σ (upd (upd H2 dx (exd dx [(f, y)])) a (exo a C (some dx)))
section
variable {X : Cx} {o e : Expr} {es : List Expr} {to te : TE} {ta : TA} {f : Str} {p p' p1 p2 pos : Pos}
theorem pe_leinit {pl : Sem Bool} (hg : Gl X "LookupError") (hm : X.mg "LookupError" = none) (vL : PySem.W.findCls X.K (.type "LookupError") (.type "type") "__init__" = some (.val (.builtin "LookupError.__init__"))) (ha : PA X (e :: es) ta)
    (hc : eval (.Call (.Attribute (.Name "LookupError" p1) "__init__" p2) (e :: es) [] pos) X.env = (do
      let ov ← eval (.Name "LookupError" p1) X.env
      standAt p2.atName
      let (f, first) ← holding [ov] (getMethod ov "__init__" pl)
      callWith pos f first (backTo pos (starEach (e :: es) X.env)) (backToKw pos (keywordEach [] X.env))) := by rfl)
    (he : starEach (e :: es) X.env = (false, eval e X.env) :: starEach es X.env := by rfl) (hpl : (backTo pos (starEach es X.env)).any (·.1) = false := by rfl) :
    PE X (.Call (.Attribute (.Name "LookupError" p1) "__init__" p2) (e :: es) [] pos) (tLeI X.K ta) := by
  refine ⟨fun pins s σ H Q I h => PySem.W.methodCall_KW (ld_blt I hg hm PyProof.Rows.Boot.«LookupError» ?_ (by decide) (by decide)) hc⟩
  obtain ⟨m, fr⟩ := I.fr
  refine PySem.W.method_type fr I.ok.mod.kin typ_LE (by decide +kernel) vL (by decide +kernel) ?_
  show wpAny _ _ (callWith pos (Value.builtin "LookupError.__init__") [] (backTo pos (starEach (e :: es) X.env)) []) _ _ _
  refine PyProof.Rows.callWith_method1 (thn (ha.run pos pins _ σ H _ (I.tok _) h) fun us s1 ⟨vs, H1, I1, r1, a, C, ws, ev, hl, T, ea, q⟩ => ?_) he hpl
  subst ev
  cases r1 with
  | @cons _ u0 _ ur ra rw' =>
    obtain rfl : u0 = Value.ref a := ra
    exact leT_init T I1 ea (by rw [← Paired.length rw', sizeLine_eq]; omega) fun s' J => ⟨.non, H1, J, rfl, q⟩
theorem ps_ostL (ho : PE X o to) (he : PE X e te) (hs : swapsWith e (some (.Attribute o f p')) pos.line X.env = pure false := by rfl) : PS X (.Assign [.Attribute o f p'] e pos) (tOstL X.K f to te) := by
  refine ⟨fun pins s σ H D I h => plainObj_wpAny_Assign_Attribute (thn (he.run pins s σ H _ I h) fun v s1 ⟨y, H1, I1, r1, q1⟩ => thn (ho.run pins s1 σ H1 _ I1 q1) fun u s2 ⟨x, H2, I2, r2, a, C, ex, T, no, ea, q⟩ => ?_) hs⟩
  subst ex
  obtain rfl : u = Value.ref a := r2
  exact leT_ost T I2 ea no r1 fun dx s' n ne J => ⟨σ, _, J, q dx n ne⟩
theorem pmk_oexL {CX : CXT} {x : Str} {C fI : Addr} {k : Nat} {fd : FuncData} {ps : List Str} {sp : Sp} {ds : List Value} {dvs : List V} (T : OexL X.K C) (iC : PySem.W.findIn X.K (.ref C) "__init__" = some (some (.ref fI))) (tI : PySem.W.typeIn X.K (.ref fI) = some (.type "function"))
    (F1 : FnOk X.prog X.w X.K X.mg X.base CX k fI fd ps sp) (hr : Room (k + 1) X.A) (hb : Binds X.K fd ps ds) (hd : Vals dvs ds) (hx : Passes CX X (fun _ _ _ => False)) (hg : Gl X x) (hm : X.mg x = some (.ref C)) (ha : PA X (e :: es) ta)
    (hdb : (x == ("__debug__" : Str)) = false := by decide) (he : starEach (e :: es) X.env = (false, eval e X.env) :: starEach es X.env := by rfl) (hpl : (backTo pos (starEach es X.env)).any (·.1) = false := by rfl) :
    PMk X (.Call (.Name x p) (e :: es) [] pos) (tMkO C sp dvs ta) := by
  intro pins s σ H Q I h
  obtain ⟨nm, q, N, bs, sn, sub, ab, col, dd, k0, k1, k2, k3, k5, hC⟩ := T.cls
  refine wpAny_Call_Name_kw (ld_glob I hg hm (PySem.W.callWith_K (h₀ := X.base) I.ok.mod.kin T.kC (thn (ha.run pos pins s σ H _ I h) fun us s1 ⟨vs, H1, I1, r1, hz, q1⟩ => ⟨I1.kIn, ?_⟩) he hpl) hdb)
  show wpAny _ _ (call (.ref C) us) _ _ _
  obtain ⟨hh, gs, dr, tk, osx⟩ := s1
  have sz : hh.objs.size ≤ hh.objs.size + 1 := Nat.le_succ _
  have n1 : H1 (hh.objs.size + 1) = none := I1.hok.fresh sz
  have q2 := q1 (hh.objs.size + 1) n1
  have kp : ∀ b o, hh.get? b = some o → ((hh.push (PySem.W.kdv_tup us)).push (PySem.HandSPX.excO C hh.objs.size)).get? b = some o := fun b o z => Heap.get?_push_of_some _ (Heap.get?_push_of_some _ z)
  have at1 : ((hh.push (PySem.W.kdv_tup us)).push (PySem.HandSPX.excO C hh.objs.size)).get? (hh.objs.size + 1) = some (PySem.HandSPX.excO C hh.objs.size) := by heap_get
  have I2 : Inv X pins σ (upd H1 (hh.objs.size + 1) (exo (hh.objs.size + 1) C none)) ⟨(hh.push (PySem.W.kdv_tup us)).push (PySem.HandSPX.excO C hh.objs.size), gs, dr, tk, osx⟩ :=
    I1.laid (t' := tk) (o := exo (hh.objs.size + 1) C none) kp sz (exo_ok at1)
  have r2 : Vals (V.ref (hh.objs.size + 1) :: (vs ++ dvs)) (Value.ref (hh.objs.size + 1) :: (us ++ ds)) := .cons rfl (r1.append hd)
  have hl : (Value.ref (hh.objs.size + 1) :: us ++ ds).length = ps.length := (r2.length.symm.trans (F1.len _ _ _ _ q2))
  have hus : us.length ≤ sizeLine := by rw [← Paired.length r1, sizeLine_eq]; omega
  refine wpAny_call (PySem.HandSPX.call_own PySem.F.excBase_LookupError (fun Y => rfl) (I1.kIn _ _ hC) (PySem.W.looks_findIn I1.kIn iC) (fun self => PySem.W.bind_fn I1.kIn self tI) hus
    (codeAny_mono (F1.run _ X.stack _ _ ⟨Value.ref (hh.objs.size + 1) :: us, []⟩ (Value.ref (hh.objs.size + 1) :: (us ++ ds)) _ _ (fun _ _ _ => False) (hr.make C us []) (I2.env0.make C us []) (hb _ (Value.ref (hh.objs.size + 1) :: us) I2.kIn hl) r2 q2) fun r s' z => ?_))
  cases r with
  | error er => exact hx pins σ _ _ er s' I2 z
  | ok fl =>
    cases fl with
    | ret u =>
      obtain ⟨v, H2, os2, bare2, un2, hok2, rv, rfl, d, fs, ea, ed, hd1, q3⟩ := z
      obtain ⟨h2, g2, d2, t2, os'⟩ := s'
      exact ⟨rv, mk_end (raises_own T.exC T.tyC) I1 sz kp un2 hok2 os2 bare2 ea ed hd1 q3⟩
    | _ => exact z.elim
end
/-- what __init__ of such a class promises -/
def spL (K : Fg) (n : Str) : Sp := fun vs H Q _ => ∃ a C v, vs = [.ref a, v] ∧ OexL K C ∧ PySem.W.findIn K (.ref C) n = some none ∧ H a = some (exo a C none) ∧ ∀ d, H d = none → d ≠ a → Q .non (upd (upd H d (exd d [(n, v)])) a (exo a C (some d)))
theorem spL_len {K : Fg} {n : Str} : ∀ vs H Q E, spL K n vs H Q E → vs.length = [("self" : Str), n].length := fun vs H Q E ⟨a, C, v, e, _⟩ => by rw [e]; rfl
theorem initL_read {K : Fg} {n : Str} {msg : Str} {vs : List V} {H : Hp} {Q : VK} {E : XK} (h : spL K n vs H Q E) :
    tSeq (tDrop (tLeI K (tCons (tVar 0) (tCons (tC (.str msg)) tNil)))) (tOstL K n (tVar 0) (tVar 1)) { nx := fun _ H' => Q .non H', rt := Q } (L2.start [("self" : Str), n] vs) H := by
  obtain ⟨a, C, v, rfl, T, no, ha, q⟩ := h
  exact ⟨.ref a, rfl, a, C, [.str msg], rfl, (by show 1 ≤ 1000; decide), T, ha, v, rfl, .ref a, rfl, a, C, rfl, T, no, ha, fun d hd hne => q d hd hne⟩
structure ErL (P : Program) (w : World) (K : Fg) (mg : Str → Option Value) (base : Heap) (x n : Str) (C : Addr) : Prop where
  gC : mg x = some (.ref C)
  T : OexL K C
  no : PySem.W.findIn K (.ref C) n = some none
  fn : ∃ (fI : Addr) (fd : FuncData), PySem.W.findIn K (.ref C) "__init__" = some (some (.ref fI)) ∧ PySem.W.typeIn K (.ref fI) = some (.type "function") ∧ Binds K fd [("self" : Str), n] [] ∧ FnOk P w K mg base (L2.CX P w) 1 fI fd [("self" : Str), n] (spL K n)
def tRzL (K : Fg) (C : Addr) (W : WX) (n : Str) (ta : TA) : TS := fun _ σ H => tMkO C (spL K n) [] ta σ H fun cls d H' => W cls d σ H'
theorem ps_rzL {X : Cx} {W : WX} {x n : Str} {C : Addr} {e : Expr} {te : TE} {p pos pos2 : Pos} (hc : X.calm = true) (tk : Takes X W) (T : ErL X.prog X.w X.K X.mg X.base x n C) (hr : Room 2 X.A) (hg : Gl X x) (ha : PE X e te)
    (hs : starEach (e :: []) X.env = (false, eval e X.env) :: starEach [] X.env := by rfl) (hdb : (x == ("__debug__" : Str)) = false := by decide) (hpl : (backTo pos (starEach [] X.env)).any (·.1) = false := by rfl) :
    PS X (.Raise (some (.Call (.Name x p) [e] [] pos)) none pos2) (tRzL X.K C W n (tCons te tNil)) := by
  obtain ⟨fI, fd, iC, tI, hb, F⟩ := T.fn
  exact ps_raise hc tk (pmk_oexL (CX := L2.CX X.prog X.w) (k := 1) (ps := [("self" : Str), n]) T.T iC tI F hr hb .nil passL hg T.gC (pa_cons ha pa_nil hs) hdb hs hpl)
theorem ss_rzL {P : Program} {w0 : World} {K : Fg} {mg : Str → Option Value} {base : Heap} {Z : Zs} {δ : Option Nat} {bor : List Nat} {c n : Str} {t : TE} {f : Ev → Mu → ER} (T : ErL P w0 K mg base c n (Z.ea c)) (h : SE K Z δ t f) (hb : ∀ j, δ = some j → bor.contains j = false) :
    SS K Z (tRzL K (Z.ea c) Z.W n (tCons t tNil)) (sRz c n bor δ f) := by
  intro σ H R ρ fp D' r p
  refine ev_st h hb r p fun m d ρ' v H' R' fp' wv G r' o n1 n2 p' => ?_
  obtain ⟨G2, r2, o2⟩ := frz_st G r' o n2
  refine ⟨(by show 1 ≤ 1000; decide), fun a hA => ⟨a, Z.ea c, v, rfl, T.T, T.no, upd_same, fun dd hd hne => ⟨rfl, dd, [(n, v)], upd_same, ?_, ?_, ?_⟩⟩⟩
  · rw [upd_ne hne, upd_same]
  · rw [upd_ne hne] at hd; exact hd
  · rw [upd_ne hne] at hd
    rw [del_upd hne hA]
    have G3 : Gr (fun _ => False) (frzH R' H' (Mem wv)) H' (frzH R' H' (Mem wv)) (upd H' dd (.xd [(n, v)])) := Gr.laid r2.le hd
    exact p' σ H' _ fp' G2 r2 n1 _ _ v dd (G3.mono fun _ z => z.elim) o2 upd_same (.inr hd)
/-- from single facts -/
theorem erL_mk {P : Program} {w : World} {K : Fg} {mg : Str → Option Value} {base h : Heap} {x n qual : Str} {st : Stmt} {C fI : Addr} {nm q : Str} {N : Addr} {bs : List Value} {sn : List Str} {sub : List Value} {ab : Bool} {col : Option Bool} {dd : Option Addr} {m0 m1 m2 m3 m5 : Option Value} {oc : Value} {od an : Option Addr} {osl : Array (Option Value)} {kV doc pm cdv ct : Value}
    (X : K.In h) (G : h.Ns mainGlobals mg) (a : PySem.W.nsIn K mainGlobals x = some (some (.ref C))) (xL : K.lookup C = some (excClassObj nm q C N bs leTail true sn sub ab col dd m0 m1 m2 m3 m5 "LookupError.__new__"))
    (sa : PySem.W.findIn K (.ref C) "__setattr__" = some (some (.builtin "object.__setattr__"))) (no : PySem.W.findIn K (.ref C) n = some none) (exC : PySem.W.subIn K (.ref C) (.type "BaseException") = some true) (tyC : PySem.W.typeIn K (.ref C) = some (.type "type")) (kC : PySem.W.keepIn K (.ref C) = true)
    (iC : PySem.W.findIn K (.ref C) "__init__" = some (some (.ref fI))) (tI : PySem.W.typeIn K (.ref fI) = some (.type "function"))
    (l : K.lookup fI = some ⟨oc, od, .func (PySem.W.fnOf "__init__" qual (defArgs st) (defBody st) (defScope st) .none kV doc pm an cdv ct), osl⟩) (c : PySem.W.codeIn K cdv qual = true) (k : PySem.W.keepIn K (.ref fI) = true)
    (hb : ∀ (kV doc pm : Value) (an : Option Addr) (cdv ct : Value) (us : List Value), us.length = 2 → bindArgs (PySem.W.fnOf "__init__" qual (defArgs st) (defBody st) (defScope st) .none kV doc pm an cdv ct) ⟨us, []⟩ = pure ([("self" : Str), n].zip us))
    (F : ∀ {fd}, Fun K "__init__" qual st fI fd → FnOk P w K mg base (L2.CX P w) 1 fI fd [("self" : Str), n] (spL K n)) : ErL P w K mg base x n (eaOf mg x) := by
  have g := PySem.W.mg_of X G a
  have e : eaOf mg x = C := by unfold eaOf; rw [g]
  rw [e]
  have Fu := fun_mk (st := st) l c k
  exact ⟨g, ⟨⟨nm, q, N, bs, sn, sub, ab, col, dd, m0, m1, m2, m3, m5, xL⟩, sa, exC, tyC, kC⟩, no, fI, _, iC, tI, Fu.binds hb, F Fu⟩
end VF
end
section
set_option Elab.async false
set_option linter.all false
set_option maxRecDepth 100000
set_option maxHeartbeats 2000000
/-! going through what a def means, by hand: each word first asks for its parts, and goes on only when they are there -/
namespace VF
open PySem PySem.Spec L2
open PyProof.Rows hiding St

/-! ### what is waited for -/
section
variable {α : Type}
def erB (r : ER) (bad : α) (rz : Str → Option (Str × D) → α) (k : Lv → D → Mu → α) : α := match r with | .ok m d μ => k m d μ | .bad => bad | .rz c f => rz c f
def arB (r : AR) (bad : α) (rz : Str → Option (Str × D) → α) (k : Lv → List D → Mu → α) : α := match r with | .ok m d μ => k m d μ | .bad => bad | .rz c f => rz c f
def irB (r : IR) (bad : α) (rz : Str → Option (Str × D) → α) (k : Ev → Mu → α) : α := match r with | .ok os μ => k os μ | .bad => bad | .rz c f => rz c f
def trB (r : TR) (bad : α) (rz : Str → Option (Str × D) → α) (k : Bool → Mu → α) : α := match r with | .ok b μ => k b μ | .bad => bad | .rz c f => rz c f
def obB (r : OR') (bad : α) (rz : Str → Option (Str × D) → α) (k : Option Int → Mu → α) : α := match r with | .ok o μ => k o μ | .bad => bad | .rz c f => rz c f
def gaB (r : GR) (bad : α) (rz : Str → Option (Str × D) → α) (k : Bool → List D → Mu → α) : α := match r with | .ok c ds μ => k c ds μ | .bad => bad | .rz c f => rz c f
variable {bad : α} {rz : Str → Option (Str × D) → α}
theorem erB_congr {r r' : ER} {k : Lv → D → Mu → α} (h : r = r') : erB r bad rz k = erB r' bad rz k := by rw [h]
theorem arB_congr {r r' : AR} {k : Lv → List D → Mu → α} (h : r = r') : arB r bad rz k = arB r' bad rz k := by rw [h]
theorem irB_congr {r r' : IR} {k : Ev → Mu → α} (h : r = r') : irB r bad rz k = irB r' bad rz k := by rw [h]
theorem trB_congr {r r' : TR} {k : Bool → Mu → α} (h : r = r') : trB r bad rz k = trB r' bad rz k := by rw [h]
theorem obB_congr {r r' : OR'} {k : Option Int → Mu → α} (h : r = r') : obB r bad rz k = obB r' bad rz k := by rw [h]
theorem gaB_congr {r r' : GR} {k : Bool → List D → Mu → α} (h : r = r') : gaB r bad rz k = gaB r' bad rz k := by rw [h]
theorem erB_ok {m : Lv} {d : D} {μ : Mu} {k : Lv → D → Mu → α} : erB (.ok m d μ) bad rz k = k m d μ := rfl
theorem erB_rz {c : Str} {f : Option (Str × D)} {k : Lv → D → Mu → α} : erB (.rz c f) bad rz k = rz c f := rfl
theorem arB_ok {m : Lv} {d : List D} {μ : Mu} {k : Lv → List D → Mu → α} : arB (.ok m d μ) bad rz k = k m d μ := rfl
theorem arB_rz {c : Str} {f : Option (Str × D)} {k : Lv → List D → Mu → α} : arB (.rz c f) bad rz k = rz c f := rfl
theorem irB_ok {os : Ev} {μ : Mu} {k : Ev → Mu → α} : irB (.ok os μ) bad rz k = k os μ := rfl
theorem irB_rz {c : Str} {f : Option (Str × D)} {k : Ev → Mu → α} : irB (.rz c f) bad rz k = rz c f := rfl
theorem trB_ok {b : Bool} {μ : Mu} {k : Bool → Mu → α} : trB (.ok b μ) bad rz k = k b μ := rfl
theorem trB_rz {c : Str} {f : Option (Str × D)} {k : Bool → Mu → α} : trB (.rz c f) bad rz k = rz c f := rfl
theorem obB_ok {o : Option Int} {μ : Mu} {k : Option Int → Mu → α} : obB (.ok o μ) bad rz k = k o μ := rfl
theorem gaB_ok {c : Bool} {ds : List D} {μ : Mu} {k : Bool → List D → Mu → α} : gaB (.ok c ds μ) bad rz k = k c ds μ := rfl
theorem gaB_rz {c : Str} {f : Option (Str × D)} {k : Bool → List D → Mu → α} : gaB (.rz c f) bad rz k = rz c f := rfl
end
/-! ### expressions -/
section
variable {ε : Ev} {μ : Mu}
def varK (μ : Mu) : Option (Option D) → ER
  | some (some d) => .ok (lv0 d) d μ
  | _ => .bad
theorem eVar_k {i : Nat} : eVar i ε μ = varK μ ε[i]? := rfl
theorem varK_k {d : D} : varK μ (some (some d)) = .ok (lv0 d) d μ := rfl
theorem eC_k {d : D} : eC d ε μ = .ok none d μ := rfl
def c1 (g : Op1) : Lv → D → Mu → ER := fun _ d μ1 => erO μ1 (g d)
theorem c1_k {g : Op1} {m : Lv} {d : D} : c1 g m d μ = erO μ (g d) := rfl
theorem eOp1_k {g : Op1} {fa : Ev → Mu → ER} : eOp1 g fa ε μ = erB (fa ε μ) .bad .rz (c1 g) := by unfold eOp1 erB; cases fa ε μ <;> rfl
def c2' (g : Op2) (d : D) : Lv → D → Mu → ER := fun _ e μ2 => erO μ2 (g d e)
def c2 (g : Op2) (fb : Ev → Mu → ER) (ε : Ev) : Lv → D → Mu → ER := fun _ d μ1 => erB (fb ε μ1) .bad .rz (c2' g d)
theorem c2_k {g : Op2} {fb : Ev → Mu → ER} {m : Lv} {d : D} : c2 g fb ε m d μ = erB (fb ε μ) .bad .rz (c2' g d) := rfl
theorem c2'_k {g : Op2} {m : Lv} {d e : D} : c2' g d m e μ = erO μ (g d e) := rfl
theorem eOp2_k {g : Op2} {fa fb : Ev → Mu → ER} : eOp2 g fa fb ε μ = erB (fa ε μ) .bad .rz (c2 g fb ε) := by
  unfold eOp2 erB
  cases fa ε μ with
  | ok m d μ1 => dsimp only [c2, erB]; cases fb ε μ1 <;> rfl
  | _ => rfl
theorem erO_k {m : Lv} {d : D} : erO μ (some (m, d)) = .ok m d μ := rfl
def c3 (g : OpN) : Lv → List D → Mu → ER := fun _ ds μ1 => erO μ1 (g ds)
theorem c3_k {g : OpN} {m : Lv} {ds : List D} : c3 g m ds μ = erO μ (g ds) := rfl
theorem eCall_k {g : OpN} {fa : Ev → Mu → AR} : eCall g fa ε μ = arB (fa ε μ) .bad .rz (c3 g) := by unfold eCall arB; cases fa ε μ <;> rfl
theorem aNil_k : aNil ε μ = .ok none [] μ := rfl
def c4' (m : Lv) (d : D) : Lv → List D → Mu → AR := fun m' ds μ2 => .ok (lmin m m') (d :: ds) μ2
def c4 (fr : Ev → Mu → AR) (ε : Ev) : Lv → D → Mu → AR := fun m d μ1 => arB (fr ε μ1) .bad .rz (c4' m d)
theorem c4_k {fr : Ev → Mu → AR} {m : Lv} {d : D} : c4 fr ε m d μ = arB (fr ε μ) .bad .rz (c4' m d) := rfl
theorem c4'_k {m m' : Lv} {d : D} {ds : List D} : c4' m d m' ds μ = .ok (lmin m m') (d :: ds) μ := rfl
theorem aCons_k {fe : Ev → Mu → ER} {fr : Ev → Mu → AR} : aCons fe fr ε μ = erB (fe ε μ) .bad .rz (c4 fr ε) := by
  unfold aCons erB
  cases fe ε μ with
  | ok m d μ1 => dsimp only [c4, arB]; cases fr ε μ1 <;> rfl
  | _ => rfl
def c5 : Lv → List D → Mu → ER := fun m ds μ1 => if ds.length ≤ SZ then .ok (up m) (.list ds) μ1 else .bad
theorem c5_k {m : Lv} {ds : List D} (h : ds.length ≤ SZ) : c5 m ds μ = .ok (up m) (.list ds) μ := if_pos h
theorem eLst_k {fa : Ev → Mu → AR} : eLst fa ε μ = arB (fa ε μ) .bad .rz c5 := by unfold eLst arB; cases fa ε μ <;> rfl
def c6 : Lv → List D → Mu → ER := fun m ds μ1 => if ds.length ≤ SZ then .ok (up m) (.tuple ds) μ1 else .bad
theorem c6_k {m : Lv} {ds : List D} (h : ds.length ≤ SZ) : c6 m ds μ = .ok (up m) (.tuple ds) μ := if_pos h
theorem eTup_k {fa : Ev → Mu → AR} : eTup fa ε μ = arB (fa ε μ) .bad .rz c6 := by unfold eTup arB; cases fa ε μ <;> rfl
def c7 (a b : Ev → Mu → ER) (ε : Ev) : Bool → Mu → ER := fun x μ1 => if x = true then a ε μ1 else b ε μ1
theorem c7_k {a b : Ev → Mu → ER} {x : Bool} : c7 a b ε x μ = if x = true then a ε μ else b ε μ := rfl
theorem eIf_k {c : Ev → Mu → TR} {a b : Ev → Mu → ER} : eIf c a b ε μ = trB (c ε μ) .bad .rz (c7 a b ε) := by
  unfold eIf trB
  cases c ε μ with
  | ok x μ1 => cases x <;> rfl
  | _ => rfl
def andK (b : Ev → Mu → ER) (ε : Ev) (μ : Mu) : D → ER
  | .bool true => b ε μ
  | .bool false => .ok none (.bool false) μ
  | _ => .bad
def orK (b : Ev → Mu → ER) (ε : Ev) (μ : Mu) : D → ER
  | .bool true => .ok none (.bool true) μ
  | .bool false => b ε μ
  | _ => .bad
def notK (μ : Mu) : D → ER
  | .bool b => .ok none (.bool (!b)) μ
  | _ => .bad
def c8 (b : Ev → Mu → ER) (ε : Ev) : Lv → D → Mu → ER := fun _ d μ1 => andK b ε μ1 d
theorem c8_k {b : Ev → Mu → ER} {m : Lv} {d : D} : c8 b ε m d μ = andK b ε μ d := rfl
theorem eAnd_k {a b : Ev → Mu → ER} : eAnd a b ε μ = erB (a ε μ) .bad .rz (c8 b ε) := by
  unfold eAnd erB
  cases a ε μ with
  | ok m d μ1 => cases d with
    | bool x => cases x <;> rfl
    | _ => rfl
  | _ => rfl
def c9 (b : Ev → Mu → ER) (ε : Ev) : Lv → D → Mu → ER := fun _ d μ1 => orK b ε μ1 d
theorem c9_k {b : Ev → Mu → ER} {m : Lv} {d : D} : c9 b ε m d μ = orK b ε μ d := rfl
theorem eOr_k {a b : Ev → Mu → ER} : eOr a b ε μ = erB (a ε μ) .bad .rz (c9 b ε) := by
  unfold eOr erB
  cases a ε μ with
  | ok m d μ1 => cases d with
    | bool x => cases x <;> rfl
    | _ => rfl
  | _ => rfl
def c10 : Lv → D → Mu → ER := fun _ d μ1 => notK μ1 d
theorem c10_k {m : Lv} {d : D} : c10 m d μ = notK μ d := rfl
theorem eNot_k {a : Ev → Mu → ER} : eNot a ε μ = erB (a ε μ) .bad .rz c10 := by
  unfold eNot erB
  cases a ε μ with
  | ok m d μ1 => cases d <;> rfl
  | _ => rfl
theorem andK_k {b : Ev → Mu → ER} {x : Bool} : andK b ε μ (.bool x) = if x = true then b ε μ else .ok none (.bool false) μ := by cases x <;> rfl
theorem orK_k {b : Ev → Mu → ER} {x : Bool} : orK b ε μ (.bool x) = if x = true then .ok none (.bool true) μ else b ε μ := by cases x <;> rfl
theorem notK_k {x : Bool} : notK μ (.bool x) = .ok none (.bool (!x)) μ := rfl
def chK (g' : Op2) (fc : Ev → Mu → ER) (ε : Ev) (μ : Mu) (e : D) : Option (Lv × D) → ER
  | some (_, .bool true) => erB (fc ε μ) .bad .rz fun _ c μ3 => erO μ3 (g' e c)
  | some (_, .bool false) => .ok none (.bool false) μ
  | _ => .bad
def c11' (g g' : Op2) (fc : Ev → Mu → ER) (ε : Ev) (d : D) : Lv → D → Mu → ER := fun _ e μ2 => chK g' fc ε μ2 e (g d e)
def c11 (g g' : Op2) (fb fc : Ev → Mu → ER) (ε : Ev) : Lv → D → Mu → ER := fun _ d μ1 => erB (fb ε μ1) .bad .rz (c11' g g' fc ε d)
theorem c11_k {g g' : Op2} {fb fc : Ev → Mu → ER} {m : Lv} {d : D} : c11 g g' fb fc ε m d μ = erB (fb ε μ) .bad .rz (c11' g g' fc ε d) := rfl
theorem c11'_k {g g' : Op2} {fc : Ev → Mu → ER} {m : Lv} {d e : D} : c11' g g' fc ε d m e μ = chK g' fc ε μ e (g d e) := rfl
theorem eCh_k {g g' : Op2} {fa fb fc : Ev → Mu → ER} : eCh g g' fa fb fc ε μ = erB (fa ε μ) .bad .rz (c11 g g' fb fc ε) := by
  unfold eCh erB
  cases fa ε μ with
  | ok m d μ1 =>
    dsimp only [c11, erB]
    cases fb ε μ1 with
    | ok m e μ2 =>
      dsimp only [c11']
      cases g d e with
      | none => rfl
      | some q =>
        obtain ⟨m', z⟩ := q
        cases z with
        | bool x => cases x with
          | true => simp only [chK, erB] <;> (cases fc ε μ2 <;> rfl)
          | false => rfl
        | _ => rfl
    | _ => rfl
  | _ => rfl
theorem chK_k {g' : Op2} {fc : Ev → Mu → ER} {e : D} {m : Lv} {x : Bool} : chK g' fc ε μ e (some (m, .bool x)) = if x = true then (erB (fc ε μ) .bad .rz (c2' g' e)) else .ok none (.bool false) μ := by cases x <;> rfl
def bdK (μ : Mu) : D → OR'
  | .int i => .ok (some i) μ
  | _ => .bad
theorem eBd_none : eBd none ε μ = .ok none μ := rfl
def c12 : Lv → D → Mu → OR' := fun _ d μ1 => bdK μ1 d
theorem c12_k {m : Lv} {d : D} : c12 m d μ = bdK μ d := rfl
theorem eBd_some {fe : Ev → Mu → ER} : eBd (some fe) ε μ = erB (fe ε μ) .bad .rz c12 := by
  unfold eBd erB
  dsimp only
  cases fe ε μ with
  | ok m d μ1 => cases d <;> rfl
  | _ => rfl
theorem bdK_k {i : Int} : bdK μ (.int i) = .ok (some i) μ := rfl
def c13'' (d : D) (lo : Option Int) : Option Int → Mu → ER := fun hi μ3 => erO μ3 (slD d lo hi)
def c13' (fh : Option (Ev → Mu → ER)) (ε : Ev) (d : D) : Option Int → Mu → ER := fun lo μ2 => obB (eBd fh ε μ2) .bad .rz (c13'' d lo)
def c13 (fl fh : Option (Ev → Mu → ER)) (ε : Ev) : Lv → D → Mu → ER := fun _ d μ1 => obB (eBd fl ε μ1) .bad .rz (c13' fh ε d)
theorem c13_k {fl fh : Option (Ev → Mu → ER)} {m : Lv} {d : D} : c13 fl fh ε m d μ = obB (eBd fl ε μ) .bad .rz (c13' fh ε d) := rfl
theorem c13'_k {fh : Option (Ev → Mu → ER)} {d : D} {lo : Option Int} : c13' fh ε d lo μ = obB (eBd fh ε μ) .bad .rz (c13'' d lo) := rfl
theorem c13''_k {d : D} {lo hi : Option Int} : c13'' d lo hi μ = erO μ (slD d lo hi) := rfl
theorem eSl_k {fa : Ev → Mu → ER} {fl fh : Option (Ev → Mu → ER)} : eSl fa fl fh ε μ = erB (fa ε μ) .bad .rz (c13 fl fh ε) := by
  unfold eSl erB
  cases fa ε μ with
  | ok m d μ1 =>
    dsimp only [c13, obB]
    cases eBd fl ε μ1 with
    | ok lo μ2 => dsimp only [c13', obB]; cases eBd fh ε μ2 <;> rfl
    | _ => rfl
  | _ => rfl
theorem uNil_k : uNil ε μ = .ok [] μ := rfl
def c14 (o : Option D) : Ev → Mu → IR := fun os μ2 => .ok (o :: os) μ2
theorem c14_k {o : Option D} {os : Ev} : c14 o os μ = .ok (o :: os) μ := rfl
theorem uRest_k {o : Option D} {fr : Ev → Mu → IR} : uRest o fr ε μ = irB (fr ε μ) .bad .rz (c14 o) := by unfold uRest irB; cases fr ε μ <;> rfl
def c15 (fr : Ev → Mu → IR) (ε : Ev) : Lv → D → Mu → IR := fun _ d μ1 => irB (fr ε μ1) .bad .rz (c14 (some d))
theorem c15_k {fr : Ev → Mu → IR} {m : Lv} {d : D} : c15 fr ε m d μ = irB (fr ε μ) .bad .rz (c14 (some d)) := rfl
theorem uCons_k {fe : Ev → Mu → ER} {fr : Ev → Mu → IR} : uCons fe fr ε μ = erB (fe ε μ) .bad .rz (c15 fr ε) := by
  unfold uCons erB
  cases fe ε μ with
  | ok m d μ1 => exact uRest_k
  | _ => rfl
theorem uIo_k {fr : Ev → Mu → IR} {q : Lv × D} : uIo fr ε (some q) = irB (fr ε (some q)) .bad .rz (c14 none) := uRest_k
def c16 (n : Nat) (π : List Nat) : Ev → Mu → IR := fun os μ1 => if os.length = n then .ok (permL π os) μ1 else .bad
theorem c16_k {n : Nat} {π : List Nat} {os : Ev} : c16 n π os μ = if os.length = n then .ok (permL π os) μ else .bad := rfl
theorem uPerm_k {n : Nat} {π : List Nat} {fi : Ev → Mu → IR} : uPerm n π fi ε μ = irB (fi ε μ) .bad .rz (c16 n π) := by unfold uPerm irB; cases fi ε μ <;> rfl
def usrK (io : Option Nat) (n : Nat) (M : Ev → Mu → ER) (os : Ev) (μ1 : Mu) : ER := if os.length = n then (match io with
    | none => (match M os none with | .ok m d _ => .ok m d μ1 | .bad => .bad | .rz c f => .rz c f)
    | some k => (match os[k]? with | some none => if hasMu io μ1 then M os μ1 else .bad | _ => .bad)) else .bad
theorem eUser_k {io : Option Nat} {n : Nat} {M : Ev → Mu → ER} {fi : Ev → Mu → IR} : eUser io n M fi ε μ = irB (fi ε μ) .bad .rz (usrK io n M) := by unfold eUser irB; cases fi ε μ <;> rfl
def c17 (μ : Mu) : Lv → D → Mu → ER := fun m d _ => .ok m d μ
theorem c17_k {m : Lv} {d : D} {μ' : Mu} : c17 μ m d μ' = .ok m d μ := rfl
def usrJ (M : Ev → Mu → ER) (os : Ev) (μ : Mu) : Option (Option D) → ER
  | some none => M os μ
  | _ => .bad
theorem usrK_none {n : Nat} {M : Ev → Mu → ER} {os : Ev} : usrK none n M os μ = if os.length = n then erB (M os none) .bad .rz (c17 μ) else .bad := by
  unfold usrK erB
  by_cases h : os.length = n
  · rw [if_pos h, if_pos h]
    dsimp only
    cases M os none <;> rfl
  · rw [if_neg h, if_neg h]
theorem usrK_some {n k : Nat} {M : Ev → Mu → ER} {os : Ev} {q : Lv × D} : usrK (some k) n M os (some q) = if os.length = n then usrJ M os (some q) os[k]? else .bad := by
  unfold usrK usrJ
  by_cases h : os.length = n
  · rw [if_pos h, if_pos h]
    dsimp only
    cases os[k]? with
    | none => rfl
    | some o => cases o <;> rfl
  · rw [if_neg h, if_neg h]
theorem usrJ_k {M : Ev → Mu → ER} {os : Ev} : usrJ M os μ (some none) = M os μ := rfl
/-! tests -/
def c18 : Lv → D → Mu → TR := fun _ d μ1 => tBool d μ1
theorem c18_k {m : Lv} {d : D} : c18 m d μ = tBool d μ := rfl
theorem sTest_k {f : Ev → Mu → ER} : sTest f ε μ = erB (f ε μ) .bad .rz c18 := by unfold sTest erB; cases f ε μ <;> rfl
theorem tBool_k {b : Bool} : tBool (.bool b) μ = .ok b μ := rfl
def c19 : Lv → D → Mu → TR := fun _ d μ1 => tTru d μ1
theorem c19_k {m : Lv} {d : D} : c19 m d μ = tTru d μ := rfl
theorem sTru_k {f : Ev → Mu → ER} : sTru f ε μ = erB (f ε μ) .bad .rz c19 := by unfold sTru erB; cases f ε μ <;> rfl
theorem tTru_bool {b : Bool} : tTru (.bool b) μ = .ok b μ := rfl
theorem tTru_int {i : Int} : tTru (.int i) μ = .ok (i != 0) μ := rfl
theorem tTru_list {ds : List D} : tTru (.list ds) μ = .ok (!ds.isEmpty) μ := rfl
theorem tTru_none : tTru .none μ = .ok false μ := rfl
def c20 : Bool → Mu → TR := fun b μ1 => .ok (!b) μ1
theorem c20_k {b : Bool} : c20 b μ = .ok (!b) μ := rfl
theorem sNot_k {f : Ev → Mu → TR} : sNot f ε μ = trB (f ε μ) .bad .rz c20 := by unfold sNot trB; cases f ε μ <;> rfl
def c21 (g : Ev → Mu → TR) (ε : Ev) : Bool → Mu → TR := fun b μ1 => if b = true then g ε μ1 else .ok false μ1
theorem c21_k {g : Ev → Mu → TR} {b : Bool} : c21 g ε b μ = if b = true then g ε μ else .ok false μ := rfl
theorem sAnd_k {f g : Ev → Mu → TR} : sAnd f g ε μ = trB (f ε μ) .bad .rz (c21 g ε) := by
  unfold sAnd trB
  cases f ε μ with
  | ok b μ1 => cases b <;> rfl
  | _ => rfl
def c22 (g : Ev → Mu → TR) (ε : Ev) : Bool → Mu → TR := fun b μ1 => if b = true then .ok true μ1 else g ε μ1
theorem c22_k {g : Ev → Mu → TR} {b : Bool} : c22 g ε b μ = if b = true then .ok true μ else g ε μ := rfl
theorem sOr_k {f g : Ev → Mu → TR} : sOr f g ε μ = trB (f ε μ) .bad .rz (c22 g ε) := by
  unfold sOr trB
  cases f ε μ with
  | ok b μ1 => cases b <;> rfl
  | _ => rfl
theorem sYes_k : sYes ε μ = .ok true μ := rfl
/-! walks -/
def gaK (c : Bool) (μ : Mu) : Option (List D) → GR
  | some l => .ok c l μ
  | none => .bad
def c23 : Lv → D → Mu → GR := fun _ d μ1 => gSeq d μ1
theorem c23_k {m : Lv} {d : D} : c23 m d μ = gSeq d μ := rfl
theorem gIter_k {fe : Ev → Mu → ER} : gIter fe ε μ = erB (fe ε μ) .bad .rz c23 := by unfold gIter erB; cases fe ε μ <;> rfl
theorem gSeq_list {ds : List D} : gSeq (.list ds) μ = .ok false ds μ := rfl
theorem gSeq_tuple {ds : List D} : gSeq (.tuple ds) μ = .ok false ds μ := rfl
def c24 (c : Bool) (g : List D → Option (List D)) : Lv → List D → Mu → GR := fun _ ds μ1 => gaK c μ1 (g ds)
theorem c24_k {c : Bool} {g : List D → Option (List D)} {m : Lv} {ds : List D} : c24 c g m ds μ = gaK c μ (g ds) := rfl
theorem gArgs_k {c : Bool} {g : List D → Option (List D)} {fa : Ev → Mu → AR} : gArgs c g fa ε μ = arB (fa ε μ) .bad .rz (c24 c g) := by
  unfold gArgs arB
  cases fa ε μ with
  | ok m ds μ1 => dsimp only [c24]; cases g ds <;> rfl
  | _ => rfl
theorem gaK_k {c : Bool} {l : List D} : gaK c μ (some l) = .ok c l μ := rfl
def lcK (m : Lv) : CR → ER
  | .ok es μ2 => .ok (up m) (.list es) μ2
  | .bad => .bad
def c25 (m : Lv) (vs : List Nat) (b : D → Ev → Option Ev) (t : Ev → Mu → TR) (f : Ev → Mu → ER) (ε : Ev) : Bool → List D → Mu → ER := fun _ ds μ1 => lcK m (cRun m b t f (wipeE ε vs) ds μ1)
theorem c25_k {m : Lv} {vs : List Nat} {b : D → Ev → Option Ev} {t : Ev → Mu → TR} {f : Ev → Mu → ER} {c : Bool} {ds : List D} : c25 m vs b t f ε c ds μ = lcK m (cRun m b t f (wipeE ε vs) ds μ) := rfl
theorem eLc_k {m : Lv} {vs : List Nat} {b : D → Ev → Option Ev} {g : Ev → Mu → GR} {t : Ev → Mu → TR} {f : Ev → Mu → ER} : eLc m vs b g t f ε μ = gaB (g ε μ) .bad .rz (c25 m vs b t f ε) := by
  unfold eLc gaB
  cases g ε μ with
  | ok c ds μ1 => dsimp only [c25]; cases cRun m b t f (wipeE ε vs) ds μ1 <;> rfl
  | _ => rfl
theorem lcK_k {m : Lv} {es : List D} : lcK m (.ok es μ) = .ok (up m) (.list es) μ := rfl
/-- a comprehension: which things stay, and what is made of each -/
theorem cRun_filter {m : Lv} {b : D → Ev → Option Ev} {t : Ev → Mu → TR} {f : Ev → Mu → ER} (P : D → Bool) (G : D → D) : ∀ {ds : List D},
    (∀ d ∈ ds, ∃ ε1, b d ε = some ε1 ∧ t ε1 none = .ok (P d) none ∧ (P d = true → ∃ m', f ε1 none = .ok m' (G d) none ∧ lleB m m' = true)) → cRun m b t f ε ds none = .ok ((ds.filter P).map G) none
  | [], _ => rfl
  | d :: ds, h => by
    obtain ⟨ε1, h1, h2, h3⟩ := h d List.mem_cons_self
    have ih := cRun_filter (m := m) (b := b) (t := t) (f := f) P G (ds := ds) fun e he => h e (List.mem_cons_of_mem _ he)
    unfold cRun
    rw [h1]
    dsimp only
    rw [h2]
    cases hp : P d with
    | true =>
      obtain ⟨m', h4, h5⟩ := h3 hp
      dsimp only
      rw [h4]
      dsimp only
      rw [if_pos h5, ih, List.filter_cons_of_pos hp]
      rfl
    | false =>
      dsimp only
      rw [ih, List.filter_cons_of_neg (by rw [hp]; exact Bool.false_ne_true)]
theorem cRun_map {m : Lv} {b : D → Ev → Option Ev} {f : Ev → Mu → ER} {α : Type} {l : List α} (g G : α → D) (h : ∀ a ∈ l, ∃ ε1 m', b (g a) ε = some ε1 ∧ f ε1 none = .ok m' (G a) none ∧ lleB m m' = true) : cRun m b sYes f ε (l.map g) none = .ok (l.map G) none := by
  induction l with
  | nil => rfl
  | cons a l ih =>
    obtain ⟨ε1, m', h1, h2, h3⟩ := h a List.mem_cons_self
    rw [List.map_cons]
    unfold cRun
    rw [h1]
    dsimp only [sYes]
    rw [h2]
    dsimp only
    rw [if_pos h3, ih fun e he => h e (List.mem_cons_of_mem _ he)]
    rfl
end
theorem cRun_pick {ε : Ev} {m : Lv} {b : D → Ev → Option Ev} {t : Ev → Mu → TR} {f : Ev → Mu → ER} {α : Type} {l : List α} (g G : α → D) (P : α → Bool)
    (h : ∀ a ∈ l, ∃ ε1, b (g a) ε = some ε1 ∧ t ε1 none = .ok (P a) none ∧ (P a = true → ∃ m', f ε1 none = .ok m' (G a) none ∧ lleB m m' = true)) : cRun m b t f ε (l.map g) none = .ok ((l.filter P).map G) none := by
  induction l with
  | nil => rfl
  | cons a l ih =>
    obtain ⟨ε1, h1, h2, h3⟩ := h a List.mem_cons_self
    have ih := ih fun e he => h e (List.mem_cons_of_mem _ he)
    rw [List.map_cons]
    unfold cRun
    rw [h1]
    dsimp only
    rw [h2]
    cases hp : P a with
    | true =>
      obtain ⟨m', h4, h5⟩ := h3 hp
      dsimp only
      rw [h4]
      dsimp only
      rw [if_pos h5, ih, List.filter_cons_of_pos hp]
      rfl
    | false =>
      dsimp only
      rw [ih, List.filter_cons_of_neg (by rw [hp]; exact Bool.false_ne_true)]
/-! ### slots, one by one -/
def fr1 (c : Bool) : Slot → Slot
  | .ow b m d => if c then .fz d else .ow b m d
  | .no => .no
  | .fz d => .fz d
def en1 (c : Bool) : Slot → Option D
  | .no => none
  | .fz d => some d
  | .ow _ _ d => if c then some d else none
theorem frzF_cons {bor : List Nat} {n : Nat} {s : Slot} {r : Sl} : frzF bor n (s :: r) = fr1 (bor.contains n) s :: frzF bor (n + 1) r := by
  cases s <;> rfl
theorem envF_cons {bor : List Nat} {n : Nat} {s : Slot} {r : Sl} : envF bor n (s :: r) = en1 (bor.contains n) s :: envF bor (n + 1) r := by
  cases s <;> rfl
theorem frzF_nil {bor : List Nat} {n : Nat} : frzF bor n [] = [] := rfl
theorem envF_nil {bor : List Nat} {n : Nat} : envF bor n [] = [] := rfl
theorem fr1_false {s : Slot} : fr1 false s = s := by cases s <;> rfl
theorem fr1_fz {c : Bool} {d : D} : fr1 c (.fz d) = .fz d := rfl
theorem fr1_no {c : Bool} : fr1 c .no = .no := rfl
theorem fr1_ow {b : Bool} {m : Lv} {d : D} : fr1 true (.ow b m d) = .fz d := rfl
theorem en1_fz {c : Bool} {d : D} : en1 c (.fz d) = some d := rfl
theorem en1_no {c : Bool} : en1 c .no = none := rfl
theorem en1_ow {b : Bool} {m : Lv} {d : D} : en1 true (.ow b m d) = some d := rfl
theorem en1_own {b : Bool} {m : Lv} {d : D} : en1 false (.ow b m d) = none := rfl
/-! ### statements -/
section
variable {bor : List Nat} {ρ : Sl} {i j : Nat} {b0 : Bool} {m0 : Lv} {d0 : D}
def esB (r : ES) (ρ : Sl) (k : Lv → D → Sl → SR) : SR := evB r ρ k
theorem esB_congr {r r' : ES} {k : Lv → D → Sl → SR} (h : r = r') : esB r ρ k = esB r' ρ k := by rw [h]
theorem esB_ok {m : Lv} {d : D} {ρ' : Sl} {k : Lv → D → Sl → SR} : esB (.ok m d ρ') ρ k = k m d ρ' := rfl
theorem esB_rz {c : Str} {f : Option (Str × D)} {k : Lv → D → Sl → SR} : esB (.rz c f) ρ k = .rz c f ρ := rfl
theorem setMu_none {μ : Mu} : setMu none μ ρ = ρ := by cases μ <;> rfl
/-- behind an evaluation that changes nothing -/
def esK0 (bor : List Nat) (ρ : Sl) : ER → ES
  | .ok m d μ' => .ok m d (if cloL m && cloMu μ' then ρ else frzF bor 0 ρ)
  | .bad => .bad
  | .rz c f => .rz c f
/-- .. that may change the list in slot j -/
def esK1 (bor : List Nat) (j : Nat) (b : Bool) (ρ : Sl) : ER → ES
  | .ok m d (some (m', d')) => .ok m d (if cloL m && cloL m' then ρ.set j (.ow b m' d') else frzF bor 0 (ρ.set j (.ow b m' d')))
  | .ok _ _ none => .bad
  | .bad => .bad
  | .rz c f => .rz c f
theorem evS_0 {f : Ev → Mu → ER} : evS bor none f ρ = esK0 bor ρ (f (envF bor 0 ρ) none) := by
  unfold evS
  rw [if_pos (show hasMu none (muOf none ρ) = true from rfl)]
  show (match f (envF bor 0 ρ) none with | ER.ok m d μ' => if hasMu none μ' then ES.ok m d (if cloL m && cloMu μ' then setMu none μ' ρ else frzF bor 0 (setMu none μ' ρ)) else ES.bad | ER.bad => ES.bad | ER.rz c f => ES.rz c f) = _
  cases f (envF bor 0 ρ) none with
  | ok m d μ' => simp only [setMu_none]; rfl
  | _ => rfl
theorem evS_1' {f : Ev → Mu → ER} (h : ρ[j]? = some (.ow b0 m0 d0)) : evS bor (some j) f ρ = esK1 bor j b0 ρ (f (envF bor 0 ρ) (some (m0, d0))) := by
  have e : muOf (some j) ρ = some (m0, d0) := by show slotMu ρ[j]? = _; rw [h]; rfl
  have e2 : ioOf ρ[j]? = b0 := by rw [h]; rfl
  unfold evS
  rw [e, if_pos (show hasMu (some j) (some (m0, d0)) = true from rfl)]
  cases f (envF bor 0 ρ) (some (m0, d0)) with
  | ok m d μ' =>
    cases μ' with
    | none => rfl
    | some q =>
      obtain ⟨m', d'⟩ := q
      simp only [setMu, e2]
      cases m' <;> rfl
  | _ => rfl
def evSJ (bor : List Nat) (j : Nat) (f : Ev → Mu → ER) (ρ : Sl) : Option Slot → ES
  | some (.ow b m d) => esK1 bor j b ρ (f (envF bor 0 ρ) (some (m, d)))
  | _ => evS bor (some j) f ρ
theorem evSJ_k {f : Ev → Mu → ER} : evSJ bor j f ρ (some (.ow b0 m0 d0)) = esK1 bor j b0 ρ (f (envF bor 0 ρ) (some (m0, d0))) := rfl
theorem evS_1 {f : Ev → Mu → ER} : evS bor (some j) f ρ = evSJ bor j f ρ ρ[j]? := by
  cases q : ρ[j]? with
  | none => rfl
  | some sl => cases sl with
    | ow b0 m0 d0 => exact evS_1' q
    | _ => rfl

theorem esK0_n {d : D} : esK0 bor ρ (.ok none d none) = .ok none d ρ := rfl
theorem esK0_s {n : Nat} {d : D} : esK0 bor ρ (.ok (some n) d none) = .ok (some n) d (frzF bor 0 ρ) := rfl
theorem esK0_rz {c : Str} {f : Option (Str × D)} : esK0 bor ρ (.rz c f) = .rz c f := rfl
theorem esK1_n {d d' : D} : esK1 bor j b0 ρ (.ok none d (some (none, d'))) = .ok none d (ρ.set j (.ow b0 none d')) := rfl
theorem esK1_s {n : Nat} {d d' : D} {m' : Lv} : esK1 bor j b0 ρ (.ok (some n) d (some (m', d'))) = .ok (some n) d (frzF bor 0 (ρ.set j (.ow b0 m' d'))) := rfl
/-! tests -/
def tsK0 (bor : List Nat) (ρ : Sl) : TR → TS'
  | .ok b μ' => .ok b (if cloMu μ' then ρ else frzF bor 0 ρ)
  | .bad => .bad
  | .rz c f => .rz c f
def tsK1 (bor : List Nat) (j : Nat) (b : Bool) (ρ : Sl) : TR → TS'
  | .ok x (some (m', d')) => .ok x (if cloL m' then ρ.set j (.ow b m' d') else frzF bor 0 (ρ.set j (.ow b m' d')))
  | .ok _ none => .bad
  | .bad => .bad
  | .rz c f => .rz c f
theorem evT_0 {f : Ev → Mu → TR} : evT bor none f ρ = tsK0 bor ρ (f (envF bor 0 ρ) none) := by
  unfold evT
  rw [if_pos (show hasMu none (muOf none ρ) = true from rfl)]
  show (match f (envF bor 0 ρ) none with | TR.ok b μ' => if hasMu none μ' then TS'.ok b (if cloMu μ' then setMu none μ' ρ else frzF bor 0 (setMu none μ' ρ)) else TS'.bad | TR.bad => TS'.bad | TR.rz c f => TS'.rz c f) = _
  cases f (envF bor 0 ρ) none with
  | ok b μ' => simp only [setMu_none]; rfl
  | _ => rfl
theorem evT_1' {f : Ev → Mu → TR} (h : ρ[j]? = some (.ow b0 m0 d0)) : evT bor (some j) f ρ = tsK1 bor j b0 ρ (f (envF bor 0 ρ) (some (m0, d0))) := by
  have e : muOf (some j) ρ = some (m0, d0) := by show slotMu ρ[j]? = _; rw [h]; rfl
  have e2 : ioOf ρ[j]? = b0 := by rw [h]; rfl
  unfold evT
  rw [e, if_pos (show hasMu (some j) (some (m0, d0)) = true from rfl)]
  cases f (envF bor 0 ρ) (some (m0, d0)) with
  | ok x μ' =>
    cases μ' with
    | none => rfl
    | some q =>
      obtain ⟨m', d'⟩ := q
      simp only [setMu, e2]
      cases m' <;> rfl
  | _ => rfl
def evTJ (bor : List Nat) (j : Nat) (f : Ev → Mu → TR) (ρ : Sl) : Option Slot → TS'
  | some (.ow b m d) => tsK1 bor j b ρ (f (envF bor 0 ρ) (some (m, d)))
  | _ => evT bor (some j) f ρ
theorem evTJ_k {f : Ev → Mu → TR} : evTJ bor j f ρ (some (.ow b0 m0 d0)) = tsK1 bor j b0 ρ (f (envF bor 0 ρ) (some (m0, d0))) := rfl
theorem evT_1 {f : Ev → Mu → TR} : evT bor (some j) f ρ = evTJ bor j f ρ ρ[j]? := by
  cases q : ρ[j]? with
  | none => rfl
  | some sl => cases sl with
    | ow b0 m0 d0 => exact evT_1' q
    | _ => rfl

theorem tsK0_k {x : Bool} : tsK0 bor ρ (.ok x none) = .ok x ρ := rfl
theorem tsK0_rz {c : Str} {f : Option (Str × D)} : tsK0 bor ρ (.rz c f) = .rz c f := rfl
theorem tsK1_k {x : Bool} {d' : D} : tsK1 bor j b0 ρ (.ok x (some (none, d'))) = .ok x (ρ.set j (.ow b0 none d')) := rfl
/-! walks -/
def gsK0 (bor : List Nat) (ρ : Sl) : GR → GS
  | .ok c ds μ' => .ok c ds (if c && cloMu μ' then ρ else frzF bor 0 ρ)
  | .bad => .bad
  | .rz c f => .rz c f
def gsK1 (bor : List Nat) (j : Nat) (b : Bool) (ρ : Sl) : GR → GS
  | .ok c ds (some (m', d')) => .ok c ds (if c && cloL m' then ρ.set j (.ow b m' d') else frzF bor 0 (ρ.set j (.ow b m' d')))
  | .ok _ _ none => .bad
  | .bad => .bad
  | .rz c f => .rz c f
theorem evG_0 {f : Ev → Mu → GR} : evG bor none f ρ = gsK0 bor ρ (f (envF bor 0 ρ) none) := by
  unfold evG
  rw [if_pos (show hasMu none (muOf none ρ) = true from rfl)]
  show (match f (envF bor 0 ρ) none with | GR.ok c ds μ' => if hasMu none μ' then GS.ok c ds (if c && cloMu μ' then setMu none μ' ρ else frzF bor 0 (setMu none μ' ρ)) else GS.bad | GR.bad => GS.bad | GR.rz c f => GS.rz c f) = _
  cases f (envF bor 0 ρ) none with
  | ok c ds μ' => simp only [setMu_none]; rfl
  | _ => rfl
theorem evG_1' {f : Ev → Mu → GR} (h : ρ[j]? = some (.ow b0 m0 d0)) : evG bor (some j) f ρ = gsK1 bor j b0 ρ (f (envF bor 0 ρ) (some (m0, d0))) := by
  have e : muOf (some j) ρ = some (m0, d0) := by show slotMu ρ[j]? = _; rw [h]; rfl
  have e2 : ioOf ρ[j]? = b0 := by rw [h]; rfl
  unfold evG
  rw [e, if_pos (show hasMu (some j) (some (m0, d0)) = true from rfl)]
  cases f (envF bor 0 ρ) (some (m0, d0)) with
  | ok c ds μ' =>
    cases μ' with
    | none => rfl
    | some q =>
      obtain ⟨m', d'⟩ := q
      simp only [setMu, e2]
      cases m' <;> rfl
  | _ => rfl
def evGJ (bor : List Nat) (j : Nat) (f : Ev → Mu → GR) (ρ : Sl) : Option Slot → GS
  | some (.ow b m d) => gsK1 bor j b ρ (f (envF bor 0 ρ) (some (m, d)))
  | _ => evG bor (some j) f ρ
theorem evGJ_k {f : Ev → Mu → GR} : evGJ bor j f ρ (some (.ow b0 m0 d0)) = gsK1 bor j b0 ρ (f (envF bor 0 ρ) (some (m0, d0))) := rfl
theorem evG_1 {f : Ev → Mu → GR} : evG bor (some j) f ρ = evGJ bor j f ρ ρ[j]? := by
  cases q : ρ[j]? with
  | none => rfl
  | some sl => cases sl with
    | ow b0 m0 d0 => exact evG_1' q
    | _ => rfl

theorem gsK0_t {ds : List D} : gsK0 bor ρ (.ok true ds none) = .ok true ds ρ := rfl
theorem gsK0_f {ds : List D} : gsK0 bor ρ (.ok false ds none) = .ok false ds (frzF bor 0 ρ) := rfl
theorem gsK1_t {ds : List D} {d' : D} : gsK1 bor j b0 ρ (.ok true ds (some (none, d'))) = .ok true ds (ρ.set j (.ow b0 none d')) := rfl
/-! the statements -/
def srB (r : SR) (G : Sl → SR) : SR := match r with | .nx ρ' => G ρ' | r => r
theorem srB_congr {r r' : SR} {G : Sl → SR} (h : r = r') : srB r G = srB r' G := by rw [h]
theorem sSq_k {F G : Sl → SR} : sSq F G ρ = srB (F ρ) G := by unfold sSq srB; cases F ρ <;> rfl
theorem srB_nx {ρ' : Sl} {G : Sl → SR} : srB (.nx ρ') G = G ρ' := rfl
theorem srB_rt {m : Lv} {d : D} {ρ' : Sl} {G : Sl → SR} : srB (.rt m d ρ') G = .rt m d ρ' := rfl
theorem srB_rz {c : Str} {f : Option (Str × D)} {ρ' : Sl} {G : Sl → SR} : srB (.rz c f ρ') G = .rz c f ρ' := rfl
theorem srB_bk {ρ' : Sl} {G : Sl → SR} : srB (.bk ρ') G = .bk ρ' := rfl
theorem srB_ct {ρ' : Sl} {G : Sl → SR} : srB (.ct ρ') G = .ct ρ' := rfl
def tsB (r : TS') (ρ : Sl) (F G : Sl → SR) : SR := match r with | .ok x ρ' => if x = true then F ρ' else G ρ' | .bad => .bad | .rz c f => .rz c f ρ
theorem tsB_congr {r r' : TS'} {F G : Sl → SR} (h : r = r') : tsB r ρ F G = tsB r' ρ F G := by rw [h]
theorem sIf_k {δ : Option Nat} {c : Ev → Mu → TR} {F G : Sl → SR} : sIf bor δ c F G ρ = tsB (evT bor δ c ρ) ρ F G := by
  unfold sIf tsB
  cases evT bor δ c ρ with
  | ok x ρ' => cases x <;> rfl
  | _ => rfl
theorem tsB_ok {x : Bool} {ρ' : Sl} {F G : Sl → SR} : tsB (.ok x ρ') ρ F G = if x = true then F ρ' else G ρ' := rfl
theorem tsB_rz {c : Str} {f : Option (Str × D)} {F G : Sl → SR} : tsB (.rz c f) ρ F G = .rz c f ρ := rfl
def gsB (r : GS) (ρ : Sl) (b : D → Sl → Option Sl) (F : Sl → SR) : SR := match r with | .ok _ ds ρ' => forR b F ds ρ' | .bad => .bad | .rz c f => .rz c f ρ
theorem gsB_congr {r r' : GS} {b : D → Sl → Option Sl} {F : Sl → SR} (h : r = r') : gsB r ρ b F = gsB r' ρ b F := by rw [h]
theorem sFor_k {δ : Option Nat} {g : Ev → Mu → GR} {b : D → Sl → Option Sl} {F : Sl → SR} : sFor bor δ g b F ρ = gsB (evG bor δ g ρ) ρ b F := by unfold sFor gsB; cases evG bor δ g ρ <;> rfl
theorem gsB_ok {c : Bool} {ds : List D} {ρ' : Sl} {b : D → Sl → Option Sl} {F : Sl → SR} : gsB (.ok c ds ρ') ρ b F = forR b F ds ρ' := rfl
theorem gsB_rz {c : Str} {f : Option (Str × D)} {b : D → Sl → Option Sl} {F : Sl → SR} : gsB (.rz c f) ρ b F = .rz c f ρ := rfl
def k2 : Lv → D → Sl → SR := fun _ _ ρ' => .nx ρ'
theorem k2_k {m : Lv} {d : D} : k2 m d ρ = .nx ρ := rfl
theorem sDrop_k {δ : Option Nat} {f : Ev → Mu → ER} : sDrop bor δ f ρ = esB (evS bor δ f ρ) ρ k2 := rfl
def k3 : Lv → D → Sl → SR := fun m d ρ' => .rt m d ρ'
theorem k3_k {m : Lv} {d : D} : k3 m d ρ = .rt m d ρ := rfl
theorem sRet_k {δ : Option Nat} {f : Ev → Mu → ER} : sRet bor δ f ρ = esB (evS bor δ f ρ) ρ k3 := rfl
theorem sAsg_k {δ : Option Nat} {f : Ev → Mu → ER} : sAsg i bor δ f ρ = esB (evS bor δ f ρ) ρ (put i) := rfl
theorem sAsgT_k {is : List Nat} {δ : Option Nat} {f : Ev → Mu → ER} : sAsgT is bor δ f ρ = esB (evS bor δ f ρ) ρ (putT is) := rfl
def k4 (c n : Str) : Lv → D → Sl → SR := fun _ d ρ' => .rz c (some (n, d)) ρ'
theorem k4_k {c n : Str} {m : Lv} {d : D} : k4 c n m d ρ = .rz c (some (n, d)) ρ := rfl
theorem sRz_k {c n : Str} {δ : Option Nat} {f : Ev → Mu → ER} : sRz c n bor δ f ρ = esB (evS bor δ f ρ) ρ (k4 c n) := rfl
theorem put_s {m : Lv} {d : D} (h : scal d = true) : put i m d ρ = .nx (ρ.set i (.fz d)) := by unfold put; rw [if_pos h]
theorem put_0 {d : D} : put i (some 0) d ρ = .nx (ρ.set i (.fz d)) := by unfold put; by_cases h : scal d = true <;> simp [h]
theorem put_n {d : D} (h : scal d = false) (hi : i < ρ.length) : put i none d ρ = .nx (ρ.set i (.ow false none d)) := by unfold put; rw [h, if_neg Bool.false_ne_true]; simp [hi]
theorem put_1 {n : Nat} {d : D} (h : scal d = false) (hi : i < ρ.length) : put i (some (n + 1)) d ρ = .nx (ρ.set i (.ow false (some (n + 1)) d)) := by unfold put; rw [h, if_neg Bool.false_ne_true]; simp [hi]
theorem put_int {m : Lv} {x : Int} : put i m (.int x) ρ = .nx (ρ.set i (.fz (.int x))) := put_s rfl
theorem put_bool {m : Lv} {x : Bool} : put i m (.bool x) ρ = .nx (ρ.set i (.fz (.bool x))) := put_s rfl
theorem put_str {m : Lv} {x : Str} : put i m (.str x) ρ = .nx (ρ.set i (.fz (.str x))) := put_s rfl
theorem put_none {m : Lv} : put i m .none ρ = .nx (ρ.set i (.fz .none)) := put_s rfl
theorem put_listn {ds : List D} (hi : i < ρ.length) : put i none (.list ds) ρ = .nx (ρ.set i (.ow false none (.list ds))) := put_n rfl hi
theorem put_list1 {n : Nat} {ds : List D} (hi : i < ρ.length) : put i (some (n + 1)) (.list ds) ρ = .nx (ρ.set i (.ow false (some (n + 1)) (.list ds))) := put_1 rfl hi
theorem put_tupn {ds : List D} (hi : i < ρ.length) : put i none (.tuple ds) ρ = .nx (ρ.set i (.ow false none (.tuple ds))) := put_n rfl hi
theorem put_tup1 {n : Nat} {ds : List D} (hi : i < ρ.length) : put i (some (n + 1)) (.tuple ds) ρ = .nx (ρ.set i (.ow false (some (n + 1)) (.tuple ds))) := put_1 rfl hi
def retVK (i : Nat) (ρ : Sl) : Option Slot → SR
  | some (.ow _ m d) => .rt m d (ρ.set i .no)
  | some (.fz d) => .rt (lv0 d) d ρ
  | _ => .bad
theorem sRetV_k : sRetV i ρ = retVK i ρ ρ[i]? := rfl
theorem retVK_ow {b : Bool} {m : Lv} {d : D} : retVK i ρ (some (.ow b m d)) = .rt m d (ρ.set i .no) := rfl
theorem retVK_fz {d : D} : retVK i ρ (some (.fz d)) = .rt (lv0 d) d ρ := rfl
def sAppK (i : Nat) (bor : List Nat) (δ : Option Nat) (f : Ev → Mu → ER) (ρ : Sl) : Option Slot → SR
  | some (.ow _ m (.list _)) => if owned m then esB (evS bor δ f ρ) ρ (appD i) else .bad
  | _ => .bad
theorem sApp_k {δ : Option Nat} {f : Ev → Mu → ER} : sApp i bor δ f ρ = sAppK i bor δ f ρ ρ[i]? := rfl
theorem sAppK_k {δ : Option Nat} {f : Ev → Mu → ER} {b : Bool} {m : Lv} {ds : List D} : sAppK i bor δ f ρ (some (.ow b m (.list ds))) = if owned m = true then esB (evS bor δ f ρ) ρ (appD i) else .bad := rfl
def appK (i : Nat) (m' : Lv) (d : D) (ρ : Sl) : Option Slot → SR
  | some (.ow b m (.list ds)) => if owned m && decide (ds.length < SZ) then .nx (ρ.set i (.ow b (lmin m (up m')) (.list (ds ++ [d])))) else .bad
  | _ => .bad
theorem appD_k {m' : Lv} {d : D} : appD i m' d ρ = appK i m' d ρ ρ[i]? := rfl
theorem appK_k {m' m : Lv} {d : D} {b : Bool} {ds : List D} (ho : owned m = true) (hl : ds.length < SZ) : appK i m' d ρ (some (.ow b m (.list ds))) = .nx (ρ.set i (.ow b (lmin m (up m')) (.list (ds ++ [d])))) := by
  unfold appK; dsimp only; rw [if_pos (by rw [ho, decide_eq_true hl]; rfl)]
theorem appK_n {m' : Lv} {d : D} {b : Bool} {ds : List D} (hl : ds.length < SZ) : appK i m' d ρ (some (.ow b none (.list ds))) = .nx (ρ.set i (.ow b (up m') (.list (ds ++ [d])))) := appK_k rfl hl
theorem appK_s {m' : Lv} {n : Nat} {d : D} {b : Bool} {ds : List D} (hl : ds.length < SZ) : appK i m' d ρ (some (.ow b (some (n + 1)) (.list ds))) = .nx (ρ.set i (.ow b (lmin (some (n + 1)) (up m')) (.list (ds ++ [d])))) := appK_k rfl hl
def sAppVK (i j : Nat) (ρ : Sl) : Option Slot → SR
  | some (.ow _ m d) => appD i m d (ρ.set j .no)
  | some (.fz d) => appD i (lv0 d) d ρ
  | _ => .bad
theorem sAppV_k (hij : i ≠ j) : sAppV i j ρ = sAppVK i j ρ ρ[j]? := by
  unfold sAppV; rw [if_neg hij]
  cases q : ρ[j]? with
  | none => rfl
  | some sl => cases sl <;> rfl
theorem sAppVK_ow {b : Bool} {m : Lv} {d : D} : sAppVK i j ρ (some (.ow b m d)) = appD i m d (ρ.set j .no) := rfl
theorem sAppVK_fz {d : D} : sAppVK i j ρ (some (.fz d)) = appD i (lv0 d) d ρ := rfl
def setK (i : Nat) (m' : Lv) (d : D) : D → Sl → SR
  | .int k, ρ => setD i m' d k ρ
  | _, _ => .bad
def k1' (i : Nat) (m' : Lv) (d : D) : Lv → D → Sl → SR := fun _ kd ρ2 => setK i m' d kd ρ2
def k1 (i : Nat) (bor' : List Nat) (g : Ev → Mu → ER) : Lv → D → Sl → SR := fun m' d ρ1 => esB (evS bor' none g ρ1) ρ1 (k1' i m' d)
theorem k1_k {g : Ev → Mu → ER} {m' : Lv} {d : D} : k1 i bor g m' d ρ = esB (evS bor none g ρ) ρ (k1' i m' d) := rfl
theorem k1'_k {m' m : Lv} {d e : D} : k1' i m' d m e ρ = setK i m' d e ρ := rfl
def sSetK (i : Nat) (bor : List Nat) (δ : Option Nat) (f : Ev → Mu → ER) (bor' : List Nat) (g : Ev → Mu → ER) (ρ : Sl) : Option Slot → SR
  | some (.ow _ m (.list _)) => if owned m then (esB (evS bor δ f ρ) ρ (k1 i bor' g)) else .bad
  | _ => .bad
theorem sSet_k {δ : Option Nat} {f g : Ev → Mu → ER} {bor' : List Nat} : sSet i bor δ f bor' g ρ = sSetK i bor δ f bor' g ρ ρ[i]? := by
  unfold sSet sSetK
  cases ρ[i]? with
  | none => rfl
  | some sl => cases sl with
    | ow b m dd => cases dd with
      | list ds =>
        dsimp only
        by_cases ho : owned m = true
        · rw [if_pos ho, if_pos ho]
          unfold esB evB
          cases evS bor δ f ρ with
          | ok m' d ρ1 =>
            dsimp only [k1, esB, evB]
            cases evS bor' none g ρ1 with
            | ok _ kd ρ2 => cases kd <;> rfl
            | _ => rfl
          | _ => rfl
        · rw [if_neg ho, if_neg ho]
      | _ => rfl
    | _ => rfl
theorem sSetK_k {δ : Option Nat} {f g : Ev → Mu → ER} {bor' : List Nat} {b : Bool} {m : Lv} {ds : List D} : sSetK i bor δ f bor' g ρ (some (.ow b m (.list ds))) = if owned m = true then (esB (evS bor δ f ρ) ρ (k1 i bor' g)) else .bad := rfl
theorem setK_k {m' : Lv} {d : D} {k : Int} : setK i m' d (.int k) ρ = setD i m' d k ρ := rfl
def setDK (i : Nat) (m' : Lv) (d : D) (k : Int) (ρ : Sl) : Option Slot → SR
  | some (.ow b m (.list ds)) => if owned m then (match ixN ds.length k with
    | some j => .nx (ρ.set i (.ow b (lmin m (up m')) (.list (ds.set j d))))
    | none => .bad) else .bad
  | _ => .bad
theorem setD_k {m' : Lv} {d : D} {k : Int} : setD i m' d k ρ = setDK i m' d k ρ ρ[i]? := rfl
theorem setDK_k {m' m : Lv} {d : D} {b : Bool} {ds : List D} {k : Int} (ho : owned m = true) (h0 : 0 ≤ k) (h1 : k.toNat < ds.length) : setDK i m' d k ρ (some (.ow b m (.list ds))) = .nx (ρ.set i (.ow b (lmin m (up m')) (.list (ds.set k.toNat d)))) := by
  have e : ixN ds.length k = some k.toNat := by unfold ixN; rw [if_pos h0, if_pos (by omega)]
  unfold setDK; dsimp only; rw [if_pos ho, e]
theorem setDK_n {m' : Lv} {d : D} {b : Bool} {ds : List D} {k : Int} (h0 : 0 ≤ k) (h1 : k.toNat < ds.length) : setDK i m' d k ρ (some (.ow b none (.list ds))) = .nx (ρ.set i (.ow b (up m') (.list (ds.set k.toNat d)))) := setDK_k rfl h0 h1
theorem setDK_s {m' : Lv} {n : Nat} {d : D} {b : Bool} {ds : List D} {k : Int} (h0 : 0 ≤ k) (h1 : k.toNat < ds.length) : setDK i m' d k ρ (some (.ow b (some (n + 1)) (.list ds))) = .nx (ρ.set i (.ow b (lmin (some (n + 1)) (up m')) (.list (ds.set k.toNat d)))) := setDK_k rfl h0 h1
/-! try -/
def excD (c : Str) : Option (Str × D) → D
  | some (n, d) => dExc c n d
  | none => dExn c
def tryK (L : List Str) (i j : Nat) : SR → SR
  | .nx ρ' => .nx ρ'
  | .rz c f ρ' => if (L.contains c && (decide (i ≠ j) && decide (i < ρ'.length))) = true then .nx (((ρ'.map drp).set j (.fz (excD c f))).set i .no) else .bad
  | _ => .bad
theorem sTry_k {L : List Str} {F : Sl → SR} : sTry L i j F ρ = tryK L i j (F ρ) := by
  unfold sTry tryK
  cases F ρ with
  | rz c f ρ' => cases f <;> rfl
  | _ => rfl
theorem tryK_nx {L : List Str} {ρ' : Sl} : tryK L i j (.nx ρ') = .nx ρ' := rfl
theorem tryK_rz {L : List Str} {c : Str} {f : Option (Str × D)} {ρ' : Sl} (h : L.contains c = true) (hij : i ≠ j) (hi : i < ρ'.length) : tryK L i j (.rz c f ρ') = .nx (((ρ'.map drp).set j (.fz (excD c f))).set i .no) := by
  show (if _ then _ else _) = _
  rw [h, decide_eq_true hij, decide_eq_true hi]; rfl
theorem drp_fz {d : D} : drp (.fz d) = .fz d := rfl
theorem drp_no : drp .no = .no := rfl
theorem drp_ow {b : Bool} {m : Lv} {d : D} : drp (.ow b m d) = .no := rfl
theorem excD_s {c n : Str} {d : D} : excD c (some (n, d)) = dExc c n d := rfl
theorem excD_n {c : Str} : excD c none = dExn c := rfl
theorem lv0_exc {c n : Str} {d : D} : lv0 (dExc c n d) = some 0 := rfl
theorem isXD_exc {non : Option Bool} {tb : List (Str × Bool)} {c n : Str} {d : D} {b : Bool} (h : tb.lookup c = some b) : isXD non tb (dExc c n d) = some (none, .bool b) := by
  show (tb.lookup c).map _ = _
  rw [h]; rfl
theorem isXD_none {b : Bool} {tb : List (Str × Bool)} : isXD (some b) tb .none = some (none, .bool b) := rfl
theorem xaD_k {f c n : Str} {L : List Str} {d : D} (h : (decide (n = f) && L.contains c) = true) : xaD f L (dExc c n d) = some (lv0 d, d) := if_pos h
/-! a def's end -/
theorem retR_rt {io : Option Nat} {m : Lv} {d : D} : retR io (.rt m d ρ) = retOf io m d ρ := rfl
theorem retR_nx {io : Option Nat} : retR io (.nx ρ) = retOf io none .none ρ := rfl
theorem retR_rz {io : Option Nat} {c : Str} {f : Option (Str × D)} : retR io (.rz c f ρ) = .rz c f := rfl
theorem retOf_0 {m : Lv} {d : D} : retOf none m d ρ = .ok m d none := rfl
def retK (m : Lv) (d : D) : Option Slot → ER
  | some (.ow true mm dd) => .ok m d (some (mm, dd))
  | _ => .bad
theorem retOf_1 {m : Lv} {d : D} : retOf (some j) m d ρ = retK m d ρ[j]? := rfl
theorem retK_k {m mm : Lv} {d dd : D} : retK m d (some (.ow true mm dd)) = .ok m d (some (mm, dd)) := rfl
end
theorem fn_eq {io : Option Nat} {N : Nat} {F : Sl → SR} {ε : Ev} {μ : Mu} {r : ER} (h : retR io (F (arg0 io μ 0 ε ++ List.replicate (N - ε.length) .no)) = r) : fnM io N F ε μ = r := h
/-! ### loops -/
theorem forR_ind {b : D → Sl → Option Sl} {F : Sl → SR} {ds : List D} (Inv : Nat → Sl → Prop)
    (step : ∀ i ρ d, ds[i]? = some d → Inv i ρ → ∃ ρ1 ρ2, b d ρ = some ρ1 ∧ (F ρ1 = .nx ρ2 ∨ F ρ1 = .ct ρ2) ∧ Inv (i + 1) ρ2) :
    ∀ (k i : Nat) (ρ : Sl), ds.length - i = k → i ≤ ds.length → Inv i ρ → ∃ ρ', forR b F (ds.drop i) ρ = .nx ρ' ∧ Inv ds.length ρ' := by
  intro k
  induction k with
  | zero =>
    intro i ρ hk hi hI
    have : i = ds.length := by omega
    subst this
    rw [List.drop_length]
    exact ⟨ρ, rfl, hI⟩
  | succ k ih =>
    intro i ρ hk hi hI
    have hlt : i < ds.length := by omega
    obtain ⟨ρ1, ρ2, h1, h2, h3⟩ := step i ρ ds[i] (by simp [hlt]) hI
    obtain ⟨ρ', h4, h5⟩ := ih (i + 1) ρ2 (by omega) (by omega) h3
    refine ⟨ρ', ?_, h5⟩
    rw [List.drop_eq_getElem_cons hlt, forR, h1]
    rcases h2 with h2 | h2 <;> (dsimp only; rw [h2]; exact h4)
/-- a loop that goes through -/
theorem forR_all {b : D → Sl → Option Sl} {F : Sl → SR} {ds : List D} {ρ : Sl} (Inv : Nat → Sl → Prop) (h0 : Inv 0 ρ)
    (step : ∀ i ρ d, ds[i]? = some d → Inv i ρ → ∃ ρ1 ρ2, b d ρ = some ρ1 ∧ (F ρ1 = .nx ρ2 ∨ F ρ1 = .ct ρ2) ∧ Inv (i + 1) ρ2) : ∃ ρ', forR b F ds ρ = .nx ρ' ∧ Inv ds.length ρ' := by
  obtain ⟨ρ', h1, h2⟩ := forR_ind Inv step ds.length 0 ρ rfl (Nat.zero_le _) h0
  rw [List.drop_zero] at h1
  exact ⟨ρ', h1, h2⟩
/-- .. and what is then -/
theorem forR_to {b : D → Sl → Option Sl} {F : Sl → SR} {ds : List D} {ρ : Sl} {G : Prop} (Inv : Nat → Sl → Prop) (h0 : Inv 0 ρ)
    (step : ∀ i ρ d, ds[i]? = some d → Inv i ρ → ∃ ρ1 ρ2, b d ρ = some ρ1 ∧ (F ρ1 = .nx ρ2 ∨ F ρ1 = .ct ρ2) ∧ Inv (i + 1) ρ2) (fin : ∀ ρ', Inv ds.length ρ' → forR b F ds ρ = .nx ρ' → G) : G := by
  obtain ⟨ρ', h1, h2⟩ := forR_all (F := F) (b := b) Inv h0 step
  exact fin ρ' h2 h1
/-- a loop that ends early, at its number m -/
theorem forR_at {b : D → Sl → Option Sl} {F : Sl → SR} {ds : List D} {ρ : Sl} {m : Nat} {P : SR → Prop} (hm : m < ds.length) (Inv : Nat → Sl → Prop) (h0 : Inv 0 ρ)
    (step : ∀ i ρ d, i < m → ds[i]? = some d → Inv i ρ → ∃ ρ1 ρ2, b d ρ = some ρ1 ∧ (F ρ1 = .nx ρ2 ∨ F ρ1 = .ct ρ2) ∧ Inv (i + 1) ρ2)
    (last : ∀ ρ d, ds[m]? = some d → Inv m ρ → ∃ ρ1, b d ρ = some ρ1 ∧ ((∃ c f ρ2, F ρ1 = .rz c f ρ2 ∧ P (.rz c f ρ2)) ∨ ∃ v d ρ2, F ρ1 = .rt v d ρ2 ∧ P (.rt v d ρ2))) : P (forR b F ds ρ) := by
  have key : ∀ (k i : Nat) (ρ : Sl), m - i = k → i ≤ m → Inv i ρ → P (forR b F (ds.drop i) ρ) := by
    intro k
    induction k with
    | zero =>
      intro i ρ hk hi hI
      have : i = m := by omega
      subst this
      obtain ⟨ρ1, h1, h2⟩ := last ρ ds[i] (by simp [hm]) hI
      rw [List.drop_eq_getElem_cons hm, forR, h1]
      rcases h2 with ⟨c, f, ρ2, e, p⟩ | ⟨v, d, ρ2, e, p⟩ <;> (dsimp only; rw [e]; exact p)
    | succ k ih =>
      intro i ρ hk hi hI
      have hlt : i < ds.length := by omega
      obtain ⟨ρ1, ρ2, h1, h2, h3⟩ := step i ρ ds[i] (by omega) (by simp [hlt]) hI
      have h4 := ih (i + 1) ρ2 (by omega) (by omega) h3
      rw [List.drop_eq_getElem_cons hlt, forR, h1]
      rcases h2 with h2 | h2 <;> (dsimp only; rw [h2]; exact h4)
  have := key m 0 ρ rfl (Nat.zero_le _) h0
  rwa [List.drop_zero] at this
theorem enD_inv : ∀ {ds : List D} {k i : Nat} {e : D}, (enD k ds)[i]? = some e → ∃ d, ds[i]? = some d ∧ e = .tuple [.int ((k + i : Nat) : Int), d]
  | [], _, _, _, h => by simp [enD] at h
  | d :: ds, k, 0, e, h => by
    simp only [enD, List.getElem?_cons_zero, Option.some.injEq] at h
    exact ⟨d, rfl, h.symm⟩
  | d :: ds, k, i + 1, e, h => by
    simp only [enD, List.getElem?_cons_succ] at h
    obtain ⟨d', h1, h2⟩ := enD_inv h
    exact ⟨d', by simpa using h1, by rw [h2, Nat.add_assoc, Nat.add_comm 1 i]⟩
theorem tgT2 {i j : Nat} {a b : D} {ρ : Sl} : tgT [i, j] (.tuple [a, b]) ρ = some ((ρ.set i (.fz a)).set j (.fz b)) := rfl
/-! ### operations -/
theorem iiD_k {g : Int → Int → Int} {i j : Int} : iiD g (.int i) (.int j) = some (none, .int (g i j)) := rfl
theorem icD_k {c : Int → Int → Bool} {g : Int → Int → Int} {i j : Int} (h : c i j = true) : icD c g (.int i) (.int j) = some (none, .int (g i j)) := by unfold icD; dsimp only; rw [if_pos h]
theorem icD_if {c : Int → Int → Bool} {g : Int → Int → Int} {i j : Int} : icD c g (.int i) (.int j) = if c i j = true then some (none, .int (g i j)) else none := rfl
theorem ibD_k {g : Int → Int → Bool} {i j : Int} : ibD g (.int i) (.int j) = some (none, .bool (g i j)) := rfl
theorem intD_int {i : Int} : intD [.int i] = some (none, .int i) := rfl
theorem intD_bool {b : Bool} : intD [.bool b] = some (none, .int (if b then 1 else 0)) := rfl
theorem addD_int {i j : Int} : addD (.int i) (.int j) = some (none, .int (i + j)) := rfl
theorem addD_list {a b : List D} (h : a.length + b.length ≤ SZ) : addD (.list a) (.list b) = some (some 1, .list (a ++ b)) := by unfold addD; dsimp only; rw [if_pos h]
theorem negD_k {i : Int} : negD (.int i) = some (none, .int (-i)) := rfl
theorem cMod_k {i j : Int} (h : 0 < j) : cMod i j = true := decide_eq_true h
theorem cDiv_k {i j : Int} (h : 0 < j) (h2 : j < 1073741824) : cDiv i j = true := by unfold cDiv; rw [decide_eq_true h, decide_eq_true h2]; rfl
theorem log2_le {n a : Nat} (h : n < 2 ^ a) : n.log2 ≤ a := by
  by_cases z : n = 0
  · subst z; simp
  · exact Nat.le_of_lt ((Nat.log2_lt z).mpr h)
theorem cMul_of {i j : Int} {a b : Nat} (hi : i.natAbs < 2 ^ a) (hj : j.natAbs < 2 ^ b) (h : a + b < 1000000) : cMulW i j = true := by
  unfold cMulW
  have h1 := log2_le hi
  have h2 := log2_le hj
  exact decide_eq_true (by omega)
theorem ixD_list {ds : List D} {i : Int} : ixD (.list ds) (.int i) = itD (atI ds i) := rfl
theorem ixD_tuple {ds : List D} {i : Int} : ixD (.tuple ds) (.int i) = itD (atI ds i) := rfl
theorem itD_k {d : D} : itD (some d) = some (lv0 d, d) := rfl
theorem ixN_pos {n : Nat} {i : Int} (h : 0 ≤ i) (h2 : i.toNat < n) : ixN n i = some i.toNat := by
  unfold ixN
  rw [if_pos h, if_pos (by omega)]
theorem atI_pos {α : Type} {xs : List α} {i : Int} (h : 0 ≤ i) (h2 : i.toNat < xs.length) : atI xs i = xs[i.toNat]? := by
  unfold atI
  rw [ixN_pos h h2]; rfl
theorem lv0_int {i : Int} : lv0 (.int i) = none := rfl
theorem lv0_bool {b : Bool} : lv0 (.bool b) = none := rfl
theorem lv0_str {x : Str} : lv0 (.str x) = none := rfl
theorem lv0_none : lv0 .none = none := rfl
theorem lv0_list {ds : List D} : lv0 (.list ds) = some 0 := rfl
theorem lv0_tuple {ds : List D} : lv0 (.tuple ds) = some 0 := rfl
theorem scal_int {i : Int} : scal (.int i) = true := rfl
theorem scal_bool {b : Bool} : scal (.bool b) = true := rfl
theorem scal_str {x : Str} : scal (.str x) = true := rfl
theorem scal_none : scal .none = true := rfl
theorem scal_list {ds : List D} : scal (.list ds) = false := rfl
theorem scal_tuple {ds : List D} : scal (.tuple ds) = false := rfl
theorem neD_int {i j : Int} : neD (.int i) (.int j) = some (none, .bool (!(i == j))) := rfl
theorem eqD_int {i j : Int} : eqD (.int i) (.int j) = some (none, .bool (i == j)) := rfl
theorem rng1_k {j : Int} (h : smallI j = true) : rng1 [.int j] = some (rngD 0 j.toNat) := by unfold rng1; dsimp only; rw [if_pos h]
theorem rng1_if {j : Int} : rng1 [.int j] = if smallI j = true then some (rngD 0 j.toNat) else none := rfl
theorem rng2_if {i j : Int} : rng2 [.int i, .int j] = if (smallI i && smallI j) = true then some (rngD i (j - i).toNat) else none := rfl
theorem enumG_k {ds : List D} : enumG [.list ds] = some (enD 0 ds) := rfl
theorem zipG_k {ds es : List D} : zipG [.list ds, .list es] = some (ziD ds es) := rfl
theorem notND_none : notND .none .none = some (none, .bool false) := rfl
theorem notND_int {i : Int} : notND (.int i) .none = some (none, .bool true) := rfl
theorem notND_bool {i : Bool} : notND (.bool i) .none = some (none, .bool true) := rfl
theorem notND_str {i : Str} : notND (.str i) .none = some (none, .bool true) := rfl
theorem notND_list {ds : List D} : notND (.list ds) .none = some (none, .bool true) := rfl
theorem notND_tuple {ds : List D} : notND (.tuple ds) .none = some (none, .bool true) := rfl
theorem isND_none : isND .none .none = some (none, .bool true) := rfl
theorem isND_int {i : Int} : isND (.int i) .none = some (none, .bool false) := rfl
theorem isND_list {ds : List D} : isND (.list ds) .none = some (none, .bool false) := rfl
theorem isND_tuple {ds : List D} : isND (.tuple ds) .none = some (none, .bool false) := rfl
theorem isND_exc {c n : Str} {d : D} : isND (dExc c n d) .none = some (none, .bool false) := rfl
theorem lenD_list {ds : List D} : lenD [.list ds] = some (none, .int (ds.length : Nat)) := rfl
theorem lenD_tuple {ds : List D} : lenD [.tuple ds] = some (none, .int (ds.length : Nat)) := rfl
theorem isaD_k {b : String} {d : D} {a : String} (h : kindD d = some a) : isaD b d = some (none, .bool (isaS a b)) := by unfold isaD; rw [h]
theorem eIsa_k {ε : Ev} {μ : Mu} {b : String} {fe : Ev → Mu → ER} : eIsa b fe ε μ = eOp1 (isaD b) fe ε μ := rfl
theorem slD_k {ds : List D} {lo hi : Option Int} : slD (.list ds) lo hi = some (some 1, .list (cutD ds lo hi)) := rfl
theorem cut_tail {ds : List D} : cutD ds (some 1) none = ds.tail := by
  cases ds with
  | nil => rfl
  | cons d ds =>
    show ((d :: ds).drop (HT.sIx (d :: ds).length 0 (some ((1 : Nat) : Int)))).take (HT.sIx (d :: ds).length (d :: ds).length none - HT.sIx (d :: ds).length 0 (some ((1 : Nat) : Int))) = ds
    rw [HT.sIx_nat, HT.sIx_none, List.length_cons, show min 1 (ds.length + 1) = 1 by omega]
    simp
theorem lzD_k {ds es : List D} : lzD [.list ds, .list es] = some (some 1, .list (ziD ds es)) := rfl
/-- things that may be held against one another -/
structure EqOk (d : D) (k : Nat) : Prop where
  pl : pln d = true
  cl : d.canLay0 = true
  dp : d.depth ≤ k
theorem EqOk.ok {d : D} {k : Nat} (h : EqOk d k) (hk : k ≤ 64) : okEq d = true := by
  unfold okEq SeqAt.shaped
  rw [h.pl, h.cl, decide_eq_true (Nat.le_trans h.dp hk)]; rfl
theorem eq_list {ds : List D} {k : Nat} (h : ∀ d ∈ ds, EqOk d k) : EqOk (.list ds) (k + 1) := by
  refine ⟨?_, ?_, ?_⟩
  · show plnAll ds = true
    induction ds with
    | nil => rfl
    | cons d ds ih => unfold plnAll; rw [(h d List.mem_cons_self).pl, ih fun e he => h e (List.mem_cons_of_mem _ he)]; rfl
  · show PyData.canLayAll0 ds = true
    induction ds with
    | nil => rfl
    | cons d ds ih => unfold PyData.canLayAll0; rw [(h d List.mem_cons_self).cl, ih fun e he => h e (List.mem_cons_of_mem _ he)]; rfl
  · refine Nat.succ_le_succ ?_
    induction ds with
    | nil => exact Nat.zero_le _
    | cons d ds ih => exact Nat.max_le.mpr ⟨(h d List.mem_cons_self).dp, ih fun e he => h e (List.mem_cons_of_mem _ he)⟩
theorem eq_int {i : Int} : EqOk (.int i) 0 := ⟨rfl, rfl, Nat.le_refl _⟩
theorem neD_k {d e : D} (h : okEq d = true) (h2 : okEq e = true) : neD d e = some (none, .bool (!PyData.eqv d e)) := by unfold neD; rw [h, h2]; rfl
theorem eqD_k {d e : D} (h : okEq d = true) (h2 : okEq e = true) : eqD d e = some (none, .bool (PyData.eqv d e)) := by unfold eqD; rw [h, h2]; rfl
theorem lmin_nn : lmin none none = none := rfl
theorem up_n : up none = none := rfl
theorem up_s {n : Nat} : up (some n) = some (n + 1) := rfl
theorem lmin_ns {n : Nat} : lmin none (some n) = some n := rfl
theorem lmin_sn {n : Nat} : lmin (some n) none = some n := rfl
theorem lmin_ss {a b : Nat} : lmin (some a) (some b) = some (min a b) := rfl
theorem owned_n : owned none = true := rfl
theorem owned_s {n : Nat} : owned (some (n + 1)) = true := rfl
/-- a list made of what stands under each number, one more -/
def updN {α : Type} (f : Nat → α) (n : Nat) (a : α) : Nat → α := fun y => if y = n then a else f y
theorem updN_same {α : Type} {f : Nat → α} {n : Nat} {a : α} : updN f n a n = a := if_pos rfl
theorem updN_ne {α : Type} {f : Nat → α} {n y : Nat} {a : α} (h : y ≠ n) : updN f n a y = f y := if_neg h
theorem range_snoc {α β : Type} (F : α → β) (f : Nat → α) (n : Nat) (a : α) : (List.range n).map (fun y => F (f y)) ++ [F a] = (List.range (n + 1)).map (fun y => F (updN f n a y)) := by
  rw [List.range_succ, List.map_append, List.map_singleton, updN_same]
  congr 1
  refine List.map_congr_left fun y hy => ?_
  rw [updN_ne (Nat.ne_of_lt (List.mem_range.mp hy))]
theorem rngD_get {n i : Nat} {d : D} (h : (rngD 0 n)[i]? = some d) : i < n ∧ d = .int (i : Nat) := by
  unfold rngD at h
  rw [List.getElem?_map] at h
  by_cases q : i < n
  · rw [List.getElem?_range q] at h
    cases h
    exact ⟨q, by simp⟩
  · rw [List.getElem?_eq_none (by simpa using q)] at h; cases h
theorem rngD_length {lo : Int} {n : Nat} : (rngD lo n).length = n := by simp [rngD]
theorem smallI_b {j : Int} (h : 0 ≤ j ∧ j ≤ 100000) : smallI j = true := by unfold smallI; simp; omega
theorem map_get {α : Type} {F : Nat → α} {n i : Nat} (h : i < n) : ((List.range n).map F)[i]? = some (F i) := by rw [List.getElem?_map, List.getElem?_range h]; rfl
/-- of small numbers -/
theorem cMul_b {i j : Int} (hi : -(2 ^ 200) < i ∧ i < 2 ^ 200) (hj : -(2 ^ 200) < j ∧ j < 2 ^ 200) : cMulW i j = true := cMul_of (a := 200) (b := 200) (by omega) (by omega) (by decide)
end VF
end
section
set_option Elab.async false
set_option linter.all false
set_option maxRecDepth 100000
set_option maxHeartbeats 2000000
/-! how long the text of a thing is -/
namespace VF
open PySem PySem.Spec L2
open PyProof.Rows hiding St

/-- a text of signs -/
def cpOk (x : Str) : Bool := x.cps.all (· < 0x110000)
theorem cpOk_of (s : String) : cpOk (Str.ofString s) = true := by
  unfold cpOk
  rw [Str.ofString_eq_toList]
  simp only [Array.all_eq_true_iff_forall_mem, List.mem_toArray, List.mem_map, decide_eq_true_eq]
  rintro _ ⟨c, _, rfl⟩
  have := c.valid
  show c.val.toNat < _
  unfold UInt32.isValidChar Nat.isValidChar at this
  omega
theorem cpOk_app {a b : Str} (h1 : cpOk a = true) (h2 : cpOk b = true) : cpOk (a ++ b) = true := by
  show (a.cps ++ b.cps).all (· < 0x110000) = true
  rw [Array.all_append]
  unfold cpOk at h1 h2
  rw [h1, h2]; rfl
theorem cpOk_text : ∀ (ts : List Str) (k : Nat) (acc : Str), cpOk acc = true → (∀ t ∈ ts, cpOk t = true) → cpOk (textFrom k acc ts) = true
  | [], _, _, h, _ => h
  | t :: r, k, acc, h, ht => cpOk_text r (k + 1) _ (cpOk_app (cpOk_app h (cpOk_of _)) (ht t List.mem_cons_self)) fun u hu => ht u (List.mem_cons_of_mem _ hu)
/-- its text: no more than n signs; k levels deep -/
structure ShOk (d : D) (k n : Nat) : Prop where
  pl : pln d = true
  sh : d.showable = true
  dp : d.depth ≤ k
  ln : d.shown.length ≤ n
  cp : cpOk d.shown = true
theorem ShOk.ok {d : D} {k n : Nat} (h : ShOk d k n) (hk : k ≤ 60) (hn : n ≤ SZ) : okShow d = true := by
  unfold okShow
  rw [h.pl, h.sh, decide_eq_true (Nat.le_trans h.dp hk), decide_eq_true (Nat.le_trans h.ln hn)]
  rfl
theorem ShOk.up {d : D} {k n k' n' : Nat} (h : ShOk d k n) (hk : k ≤ k') (hn : n ≤ n') : ShOk d k' n' := ⟨h.pl, h.sh, Nat.le_trans h.dp hk, Nat.le_trans h.ln hn, h.cp⟩
theorem sh_none : ShOk .none 0 4 := ⟨rfl, rfl, Nat.le_refl _, by decide +kernel, cpOk_of _⟩
theorem sh_int {i : Int} (h : i.natAbs < 10 ^ 24) : ShOk (.int i) 0 25 := by
  refine ⟨rfl, ?_, Nat.le_refl _, ?_, cpOk_of _⟩
  · show decide (i.natAbs.log2 < 1920) = true
    refine decide_eq_true (Nat.lt_of_le_of_lt (log2_le (a := 100) (Nat.lt_of_lt_of_le h (by decide))) (by decide))
  · show (Str.ofString (toString i)).length ≤ 25
    have e := int_text_length_le10 (k := 24) (by decide) h
    rw [PySem.ofString_length]
    omega
theorem textFrom_le : ∀ (ts : List Str) (k : Nat) (acc : Str) (n : Nat), (∀ t ∈ ts, t.length ≤ n) → (textFrom k acc ts).length ≤ acc.length + ts.length * (n + 2)
  | [], k, acc, n, _ => by show acc.length ≤ _; omega
  | t :: r, k, acc, n, h => by
    have ih := textFrom_le r (k + 1) (acc ++ (if k > 0 then ", " else "" : String) ++ t) n fun u hu => h u (List.mem_cons_of_mem _ hu)
    have e : (acc ++ (if k > 0 then ", " else "" : String) ++ t).length = acc.length + (if k > 0 then 2 else 0) + t.length := by
      rw [strLen_append, strLen_append]
      split <;> rfl
    have ht := h t List.mem_cons_self
    show (textFrom (k + 1) _ r).length ≤ _
    rw [List.length_cons, Nat.succ_mul]
    have : (if k > 0 then 2 else 0) ≤ 2 := by split <;> omega
    omega
theorem depthAll_le {ds : List D} {k : Nat} (h : ∀ d ∈ ds, PyData.depth d ≤ k) : PyData.depthAll ds ≤ k := by
  induction ds with
  | nil => exact Nat.zero_le _
  | cons d ds ih => exact Nat.max_le.mpr ⟨h d List.mem_cons_self, ih fun e he => h e (List.mem_cons_of_mem _ he)⟩
theorem sh_list {ds : List D} {k n m : Nat} (h : ∀ d ∈ ds, ShOk d k n) (hm : ds.length ≤ m) : ShOk (.list ds) (k + 1) (m * (n + 2) + 2) := by
  have e : PyData.shownAll ds = ds.map PyData.shown := by
    clear h hm
    induction ds with
    | nil => rfl
    | cons d ds ih => unfold PyData.shownAll; rw [ih]; rfl
  refine ⟨?_, ?_, ?_, ?_, ?_⟩
  · show plnAll ds = true
    clear hm e
    induction ds with
    | nil => rfl
    | cons d ds ih => unfold plnAll; rw [(h d List.mem_cons_self).pl, ih fun e he => h e (List.mem_cons_of_mem _ he)]; rfl
  · show PyData.showableAll ds = true
    clear hm e
    induction ds with
    | nil => rfl
    | cons d ds ih => unfold PyData.showableAll; rw [(h d List.mem_cons_self).sh, ih fun e he => h e (List.mem_cons_of_mem _ he)]; rfl
  · exact Nat.succ_le_succ (depthAll_le fun d hd => (h d hd).dp)
  · show (listText (PyData.shownAll ds)).length ≤ _
    have := textFrom_le (PyData.shownAll ds) 0 "[" n (by
      intro t ht
      rw [e] at ht
      obtain ⟨d, hd, rfl⟩ := List.mem_map.mp ht
      exact (h d hd).ln)
    rw [e, List.length_map] at this
    unfold listText
    rw [strLen_append, e]
    have l1 : (("[" : String) : Str).length = 1 := rfl
    have l2 : (("]" : String) : Str).length = 1 := rfl
    have := Nat.mul_le_mul_right (n + 2) hm
    omega
  · show cpOk (textFrom 0 "[" (PyData.shownAll ds) ++ ("]" : String)) = true
    refine cpOk_app (cpOk_text _ _ _ (cpOk_of _) fun t ht => ?_) (cpOk_of _)
    rw [e] at ht
    obtain ⟨d, hd, rfl⟩ := List.mem_map.mp ht
    exact (h d hd).cp
theorem eqOk_shown {d : D} (h : cpOk d.shown = true) : okEq (.str d.shown) = true := (⟨rfl, h, Nat.le_refl _⟩ : EqOk (.str d.shown) 0).ok (by decide)
theorem neD_same {x : Str} (h : cpOk x = true) : neD (.str x) (.str x) = some (none, .bool false) := by
  have ok : okEq (.str x) = true := (⟨rfl, h, Nat.le_refl _⟩ : EqOk (.str x) 0).ok (by decide)
  rw [neD_k ok ok]
  show some (none, PyData.bool (!(x == x))) = _
  rw [beq_self_eq_true]; rfl
theorem reprD_k {d : D} (h : okShow d = true) : reprD [d] = some (none, .str d.shown) := if_pos h
end VF
end
section
set_option Elab.async false
set_option linter.all false
set_option maxRecDepth 100000
set_option maxHeartbeats 2000000
namespace K04
open PySem PySem.Spec L2 VF
open PyProof.Rows hiding St
def topS (i : Nat) : Stmt := PySem.Challenge.pw_looporder_k04_walks_and_their_lengths.main.body.getD i (.Pass ⟨0, 0, 0, 0⟩)
theorem bo_ValueError : bootBuiltins "ValueError" = some (.type "ValueError") := by decide +kernel
theorem bo_bool : bootBuiltins "bool" = some (.type "bool") := by decide +kernel
theorem bo_enumerate : bootBuiltins "enumerate" = some (.type "enumerate") := by decide +kernel
theorem bo_int : bootBuiltins "int" = some (.type "int") := by decide +kernel
theorem bo_isinstance : bootBuiltins "isinstance" = some (.builtin "isinstance") := by decide +kernel
theorem bo_len : bootBuiltins "len" = some (.builtin "len") := by decide +kernel
theorem bo_list : bootBuiltins "list" = some (.type "list") := by decide +kernel
theorem bo_range : bootBuiltins "range" = some (.type "range") := by decide +kernel
theorem bo_repr : bootBuiltins "repr" = some (.builtin "repr") := by decide +kernel
theorem bo_sum : bootBuiltins "sum" = some (.builtin "sum") := by decide +kernel
theorem bo_tuple : bootBuiltins "tuple" = some (.type "tuple") := by decide +kernel
theorem bo_zip : bootBuiltins "zip" = some (.type "zip") := by decide +kernel
abbrev s_is_whole : Stmt := topS 4
abbrev s_is_place : Stmt := topS 5
abbrev s_has_edge : Stmt := topS 6
abbrev s_check_web : Stmt := topS 7
abbrev s__is_row : Stmt := topS 8
abbrev s_check_walk : Stmt := topS 9
abbrev s_length_of : Stmt := topS 11
abbrev s__law_draws : Stmt := topS 13
abbrev s__law_next : Stmt := topS 14
abbrev s__law_any_web : Stmt := topS 15
abbrev s__law_steps : Stmt := topS 16
abbrev s__law_long : Stmt := topS 17
abbrev s__law_bad_webs : Stmt := topS 18
abbrev s__law_told : Stmt := topS 19
abbrev s__law_path : Stmt := topS 20
abbrev s__law_right : Stmt := topS 21
abbrev s_law : Stmt := topS 22
/-- what the top has left -/
structure Tp (P : Program) (w : World) (K : Fg) (mg : Str → Option Value) (base : Heap) (ea : Str → Addr) : Prop where
  b_ValueError : mg "ValueError" = none
  b_bool : mg "bool" = none
  b_enumerate : mg "enumerate" = none
  b_int : mg "int" = none
  b_isinstance : mg "isinstance" = none
  b_len : mg "len" = none
  b_list : mg "list" = none
  b_range : mg "range" = none
  b_repr : mg "repr" = none
  b_sum : mg "sum" = none
  b_tuple : mg "tuple" = none
  b_zip : mg "zip" = none
  e_InvalidWeb : ErT P w K mg base "InvalidWeb" "place" (ea "InvalidWeb")
  e_InvalidWalk : ErT P w K mg base "InvalidWalk" "index" (ea "InvalidWalk")
  c_InvalidWalk : mg "InvalidWalk" = some (.ref (ea "InvalidWalk"))
  x_InvalidWalk : XcT K "InvalidWalk" (ea "InvalidWalk")
  sn_InvalidWalk : PySem.W.subIn K (.type "NoneType") (.ref (ea "InvalidWalk")) = some false
  f_InvalidWalk : PySem.W.findIn K (.ref (ea "InvalidWalk")) "index" = some none
  s_InvalidWalk_InvalidWeb : PySem.W.subIn K (.ref (ea "InvalidWalk")) (.ref (ea "InvalidWeb")) = some false
  sb_InvalidWalk_ValueError : PySem.W.subIn K (.ref (ea "InvalidWalk")) (.type "ValueError") = some true
  c_InvalidWeb : mg "InvalidWeb" = some (.ref (ea "InvalidWeb"))
  x_InvalidWeb : XcT K "InvalidWeb" (ea "InvalidWeb")
  sn_InvalidWeb : PySem.W.subIn K (.type "NoneType") (.ref (ea "InvalidWeb")) = some false
  f_InvalidWeb : PySem.W.findIn K (.ref (ea "InvalidWeb")) "place" = some none
  s_InvalidWeb_InvalidWalk : PySem.W.subIn K (.ref (ea "InvalidWeb")) (.ref (ea "InvalidWalk")) = some false
  sb_InvalidWeb_ValueError : PySem.W.subIn K (.ref (ea "InvalidWeb")) (.type "ValueError") = some true
  sn_ValueError : PySem.W.subIn K (.type "NoneType") (.type "ValueError") = some false
  xk : XkT K
  d_is_whole : Df K mg "is_whole" s_is_whole ["thing"]
  d_is_place : Df K mg "is_place" s_is_place ["thing", "size"]
  d_has_edge : Df K mg "has_edge" s_has_edge ["web", "x", "y"]
  d_check_web : Df K mg "check_web" s_check_web ["web"]
  d__is_row : Df K mg "_is_row" s__is_row ["row", "place", "size"]
  d_check_walk : Df K mg "check_walk" s_check_walk ["web", "walk"]
  d_length_of : Df K mg "length_of" s_length_of ["web", "walk"]
  d__law_draws : Df K mg "_law_draws" s__law_draws ["_law_cell"]
  d__law_next : Df K mg "_law_next" s__law_next ["_law_draws_here"]
  d__law_any_web : Df K mg "_law_any_web" s__law_any_web ["_law_draws_here", "_law_size"]
  d__law_steps : Df K mg "_law_steps" s__law_steps ["_law_path_here"]
  d__law_long : Df K mg "_law_long" s__law_long ["_law_net", "_law_path_here"]
  d__law_bad_webs : Df K mg "_law_bad_webs" s__law_bad_webs ["_law_draws_here"]
  d__law_told : Df K mg "_law_told" s__law_told ["_law_net", "_law_path_here"]
  d__law_path : Df K mg "_law_path" s__law_path ["_law_draws_here", "_law_net"]
  d__law_right : Df K mg "_law_right" s__law_right ["_law_draws_here"]
  d_law : Df K mg "law" s_law ["_law_script"]
section
variable {P : Program} {w : World} {K : Fg} {mg : Str → Option Value} {base : Heap} {ea : Str → Addr}
theorem c_is_whole : FnScope ["thing"] ["thing"] (defScope s_is_whole) := ⟨rfl, rfl, rfl, by decide +kernel, rfl, by decide +kernel, by decide +kernel⟩
def F_is_whole : Sl → SR := (sRet [0] none (eAnd (eIsa "int" (eVar 0)) (eNot (eIsa "bool" (eVar 0)))))
theorem g_is_whole (T : Tp P w K mg base ea) {f : Addr} {fd : FuncData} (Fu : Fun K "is_whole" "is_whole" s_is_whole f fd) : FnG P w K mg base 1 f fd ["thing"] (spV K ea none 1 (fnM none 1 F_is_whole)) := by
  refine fng_v (k := 0) (io := none) Fu c_is_whole rfl (by decide) (fun _ z => nomatch z) fun cdv A outer s H E pvv hr hg => ?_
  have hu := hr.un64
  have hu2 := hr.un65
  have tk : Takes (cxOf (L2.CX P w) P w K mg base ["thing"] "is_whole" (defScope s_is_whole) f cdv A outer s H E) (fun cls d _ H => E cls d H) := takes_of rfl rfl rfl rfl
  refine ⟨_, (pss_one (ps_ret (pe_and (pe_callB (call_isiG (K := K) rfl) (by rfl) T.b_isinstance bo_isinstance (pa_cons (pv 0) (pa_cons (pe_ty (T := "int") (by rfl) T.b_int bo_int) pa_nil))) (pe_one (pe_not (pe_callB (call_isiG (K := K) rfl) (by rfl) T.b_isinstance bo_isinstance (pa_cons (pv 0) (pa_cons (pe_ty (T := "bool") (by rfl) T.b_bool bo_bool) pa_nil)))))))), ?_⟩
  exact (ss_ret (se_and (se_isa (by decide) (se_var 0)) (se_not (se_isa (by decide) (se_var 0)))) (fun _ z => nomatch z))
theorem C_is_whole (T : Tp P w K mg base ea) : Cal P w K mg base "is_whole" s_is_whole ["thing"] 1 (spV K ea none 1 (fnM none 1 F_is_whole)) := T.d_is_whole.cal fun Fu => g_is_whole T Fu
theorem c_has_edge : FnScope ["web", "x", "y"] ["web", "x", "y"] (defScope s_has_edge) := ⟨rfl, rfl, rfl, by decide +kernel, rfl, by decide +kernel, by decide +kernel⟩
def F_has_edge : Sl → SR := (sRet [0, 1, 2] none (eAnd (eOp2 neD (eVar 1) (eVar 2)) (eOp2 notND (eOp2 ixD (eOp2 ixD (eVar 0) (eVar 1)) (eVar 2)) (eC .none))))
theorem g_has_edge (T : Tp P w K mg base ea) {f : Addr} {fd : FuncData} (Fu : Fun K "has_edge" "has_edge" s_has_edge f fd) : FnG P w K mg base 1 f fd ["web", "x", "y"] (spV K ea none 3 (fnM none 3 F_has_edge)) := by
  refine fng_v (k := 0) (io := none) Fu c_has_edge rfl (by decide) (fun _ z => nomatch z) fun cdv A outer s H E pvv hr hg => ?_
  have hu := hr.un64
  have hu2 := hr.un65
  have tk : Takes (cxOf (L2.CX P w) P w K mg base ["web", "x", "y"] "has_edge" (defScope s_has_edge) f cdv A outer s H E) (fun cls d _ H => E cls d H) := takes_of rfl rfl rfl rfl
  refine ⟨_, (pss_one (ps_ret (pe_and (pe_cmpR (op_neK (K := K) rfl hu) (pv 1) (pv 2) (by first | rfl | exact nomark _)) (pe_one (pe_cmpR op_notN (pe_ix (ix_K (K := K) rfl) (pe_ix (ix_K (K := K) rfl) (pv 0) (pv 1) (fun _ _ => rfl)) (pv 2) (fun _ _ => rfl)) pe_non (by first | rfl | exact nomark _)))))), ?_⟩
  exact (ss_ret (se_and (se_op rg_ne (se_var 1) (se_var 2)) (se_op rg_notN (se_op rg_ix (se_op rg_ix (se_var 0) (se_var 1)) (se_var 2)) se_non)) (fun _ z => nomatch z))
theorem C_has_edge (T : Tp P w K mg base ea) : Cal P w K mg base "has_edge" s_has_edge ["web", "x", "y"] 1 (spV K ea none 3 (fnM none 3 F_has_edge)) := T.d_has_edge.cal fun Fu => g_has_edge T Fu
theorem c__law_draws : FnScope ["_law_cell"] ["_law_cell"] (defScope s__law_draws) := ⟨rfl, rfl, rfl, by decide +kernel, rfl, by decide +kernel, by decide +kernel⟩
def F__law_draws : Sl → SR := (sRet [0] none (eLst (aCons (eOp2 modD (eCall intD (aCons (eVar 0) aNil)) (eOp2 powWD (eOp2 powWD (eOp2 powWD (eC (.int 10)) (eC (.int 60))) (eC (.int 60))) (eC (.int 4)))) (aCons (eC (.int 0)) (aCons (eOp2 geD (eVar 0) (eOp2 powWD (eC (.int 10)) (eC (.int 18)))) aNil)))))
theorem g__law_draws (T : Tp P w K mg base ea) {f : Addr} {fd : FuncData} (Fu : Fun K "_law_draws" "_law_draws" s__law_draws f fd) : FnG P w K mg base 1 f fd ["_law_cell"] (spV K ea none 1 (fnM none 1 F__law_draws)) := by
  refine fng_v (k := 0) (io := none) Fu c__law_draws rfl (by decide) (fun _ z => nomatch z) fun cdv A outer s H E pvv hr hg => ?_
  have hu := hr.un64
  have hu2 := hr.un65
  have tk : Takes (cxOf (L2.CX P w) P w K mg base ["_law_cell"] "_law_draws" (defScope s__law_draws) f cdv A outer s H E) (fun cls d _ H => E cls d H) := takes_of rfl rfl rfl rfl
  refine ⟨_, (pss_one (ps_ret (pe_lst (pa_cons (pe_op op_mod (pe_callTy call_int1 (by rfl) T.b_int bo_int (pa_cons (pv 0) pa_nil)) (pe_op op_powW (pe_op op_powW (pe_op op_powW pe_int pe_int) pe_int) pe_int)) (pa_cons pe_int (pa_cons (pe_cmpR op_ge (pv 0) (pe_op op_powW pe_int pe_int) (by first | rfl | exact nomark _)) pa_nil)))))), ?_⟩
  exact (ss_ret (se_lst (sa_cons (se_op rg_mod (se_cb rn_int (sa_cons (se_var 0) sa_nil)) (se_op rg_powW (se_op rg_powW (se_op rg_powW se_int se_int) se_int) se_int)) (sa_cons se_int (sa_cons (se_op rg_ib (se_var 0) (se_op rg_powW se_int se_int)) sa_nil)))) (fun _ z => nomatch z))
theorem C__law_draws (T : Tp P w K mg base ea) : Cal P w K mg base "_law_draws" s__law_draws ["_law_cell"] 1 (spV K ea none 1 (fnM none 1 F__law_draws)) := T.d__law_draws.cal fun Fu => g__law_draws T Fu
theorem c__law_next : FnScope ["_law_draws_here", "_law_k", "_law_number"] ["_law_draws_here"] (defScope s__law_next) := ⟨rfl, rfl, rfl, by decide +kernel, rfl, by decide +kernel, by decide +kernel⟩
def F__law_next : Sl → SR := (sSq (sSet 0 [0] none (eOp2 addD (eOp2 ixD (eVar 0) (eC (.int 1))) (eC (.int 1))) [] (eC (.int 1))) (sSq (sAsg 1 [0] none (eOp2 ixD (eVar 0) (eC (.int 1)))) (sSq (sIf [0] none (sTru (eOp2 ixD (eVar 0) (eC (.int 2)))) (sSq (sAsg 2 [0] none (eOp2 modD (eCall intD (aCons (eOp2 ixD (eVar 0) (eC (.int 0))) aNil)) (eOp2 powWD (eC (.int 10)) (eC (.int 6))))) (sSq (sSet 0 [0] none (eOp2 divD (eOp2 ixD (eVar 0) (eC (.int 0))) (eOp2 powWD (eC (.int 10)) (eC (.int 6)))) [] (eC (.int 0))) (sRetV 2))) sNx) (sSq (sAsg 2 [0, 1] none (eOp2 modD (eCall intD (aCons (eOp2 mulD (eOp2 addD (eOp2 addD (eOp2 modD (eCall intD (aCons (eOp2 ixD (eVar 0) (eC (.int 0))) aNil)) (eC (.int 1000003))) (eOp2 mulD (eOp2 mulD (eVar 1) (eVar 1)) (eC (.int 7919)))) (eVar 1)) (eC (.int 48271))) aNil)) (eC (.int 2147483629)))) (sSq (sAsg 2 [2] none (eOp2 modD (eCall intD (aCons (eOp2 mulD (eVar 2) (eVar 2)) aNil)) (eC (.int 2147483587)))) (sRet [2] none (eOp2 divD (eOp2 modD (eCall intD (aCons (eOp2 mulD (eVar 2) (eOp2 addD (eVar 2) (eC (.int 2)))) aNil)) (eC (.int 2147483579))) (eC (.int 7)))))))))
theorem g__law_next (T : Tp P w K mg base ea) {f : Addr} {fd : FuncData} (Fu : Fun K "_law_next" "_law_next" s__law_next f fd) : FnG P w K mg base 1 f fd ["_law_draws_here"] (spV K ea (some 0) 1 (fnM (some 0) 3 F__law_next)) := by
  refine fng_v (k := 0) (io := (some 0)) Fu c__law_next rfl (by decide) (fun j z => by cases z; decide) fun cdv A outer s H E pvv hr hg => ?_
  have hu := hr.un64
  have hu2 := hr.un65
  have tk : Takes (cxOf (L2.CX P w) P w K mg base ["_law_draws_here", "_law_k", "_law_number"] "_law_next" (defScope s__law_next) f cdv A outer s H E) (fun cls d _ H => E cls d H) := takes_of rfl rfl rfl rfl
  refine ⟨_, (pss_cons (ps_asg (pe_op (op_addK (K := K) rfl) (pe_ix (ix_K (K := K) rfl) (pv 0) pe_int (fun _ _ => rfl)) pe_int) (pg_sub (pv 0) pe_int set_list)) (pss_cons (ps_set (i := 1) c__law_next.nd rfl (.inl rfl) (pe_ix (ix_K (K := K) rfl) (pv 0) pe_int (fun _ _ => rfl))) (pss_cons (ps_if (pt_truK (K := K) rfl (pe_ix (ix_K (K := K) rfl) (pv 0) pe_int (fun _ _ => rfl)) (by intro _; rfl)) (pss_cons (ps_set (i := 2) c__law_next.nd rfl (.inl rfl) (pe_op op_mod (pe_callTy call_int1 (by rfl) T.b_int bo_int (pa_cons (pe_ix (ix_K (K := K) rfl) (pv 0) pe_int (fun _ _ => rfl)) pa_nil)) (pe_op op_powW pe_int pe_int))) (pss_cons (ps_asg (pe_op op_fdiv (pe_ix (ix_K (K := K) rfl) (pv 0) pe_int (fun _ _ => rfl)) (pe_op op_powW pe_int pe_int)) (pg_sub (pv 0) pe_int set_list)) (pss_one (ps_ret (pv 2))))) pss_nil) (pss_cons (ps_set (i := 2) c__law_next.nd rfl (.inl rfl) (pe_op op_mod (pe_callTy call_int1 (by rfl) T.b_int bo_int (pa_cons (pe_op op_mulW (pe_op (op_addK (K := K) rfl) (pe_op (op_addK (K := K) rfl) (pe_op op_mod (pe_callTy call_int1 (by rfl) T.b_int bo_int (pa_cons (pe_ix (ix_K (K := K) rfl) (pv 0) pe_int (fun _ _ => rfl)) pa_nil)) pe_int) (pe_op op_mulW (pe_op op_mulW (pv 1) (pv 1)) pe_int)) (pv 1)) pe_int) pa_nil)) pe_int)) (pss_cons (ps_set (i := 2) c__law_next.nd rfl (.inl rfl) (pe_op op_mod (pe_callTy call_int1 (by rfl) T.b_int bo_int (pa_cons (pe_op op_mulW (pv 2) (pv 2)) pa_nil)) pe_int)) (pss_one (ps_ret (pe_op op_fdiv (pe_op op_mod (pe_callTy call_int1 (by rfl) T.b_int bo_int (pa_cons (pe_op op_mulW (pv 2) (pe_op (op_addK (K := K) rfl) (pv 2) pe_int)) pa_nil)) pe_int) pe_int)))))))), ?_⟩
  exact (ss_seq (ss_set (se_op rg_add (se_op rg_ix (se_var 0) se_int) se_int) (fun _ z => nomatch z) se_int) (ss_seq (ss_asg (se_op rg_ix (se_var 0) se_int) (fun _ z => nomatch z)) (ss_seq (ss_if (st_truth (se_op rg_ix (se_var 0) se_int)) (fun _ z => nomatch z) (ss_seq (ss_asg (se_op rg_mod (se_cb rn_int (sa_cons (se_op rg_ix (se_var 0) se_int) sa_nil)) (se_op rg_powW se_int se_int)) (fun _ z => nomatch z)) (ss_seq (ss_set (se_op rg_div (se_op rg_ix (se_var 0) se_int) (se_op rg_powW se_int se_int)) (fun _ z => nomatch z) se_int) ss_retV)) ss_nx) (ss_seq (ss_asg (se_op rg_mod (se_cb rn_int (sa_cons (se_op rg_mul (se_op rg_add (se_op rg_add (se_op rg_mod (se_cb rn_int (sa_cons (se_op rg_ix (se_var 0) se_int) sa_nil)) se_int) (se_op rg_mul (se_op rg_mul (se_var 1) (se_var 1)) se_int)) (se_var 1)) se_int) sa_nil)) se_int) (fun _ z => nomatch z)) (ss_seq (ss_asg (se_op rg_mod (se_cb rn_int (sa_cons (se_op rg_mul (se_var 2) (se_var 2)) sa_nil)) se_int) (fun _ z => nomatch z)) (ss_ret (se_op rg_div (se_op rg_mod (se_cb rn_int (sa_cons (se_op rg_mul (se_var 2) (se_op rg_add (se_var 2) se_int)) sa_nil)) se_int) se_int) (fun _ z => nomatch z)))))))
theorem C__law_next (T : Tp P w K mg base ea) : Cal P w K mg base "_law_next" s__law_next ["_law_draws_here"] 1 (spV K ea (some 0) 1 (fnM (some 0) 3 F__law_next)) := T.d__law_next.cal fun Fu => g__law_next T Fu
theorem c__law_steps : FnScope ["_law_path_here"] ["_law_path_here"] (defScope s__law_steps) := ⟨rfl, rfl, rfl, by decide +kernel, rfl, by decide +kernel, by decide +kernel⟩
def F__law_steps : Sl → SR := (sRet [0] none (eCall lzD (aCons (eVar 0) (aCons (eSl (eVar 0) (some (eC (.int 1))) none) aNil))))
theorem g__law_steps (T : Tp P w K mg base ea) {f : Addr} {fd : FuncData} (Fu : Fun K "_law_steps" "_law_steps" s__law_steps f fd) : FnG P w K mg base 1 f fd ["_law_path_here"] (spV K ea none 1 (fnM none 1 F__law_steps)) := by
  refine fng_v (k := 0) (io := none) Fu c__law_steps rfl (by decide) (fun _ z => nomatch z) fun cdv A outer s H E pvv hr hg => ?_
  have hu := hr.un64
  have hu2 := hr.un65
  have tk : Takes (cxOf (L2.CX P w) P w K mg base ["_law_path_here"] "_law_steps" (defScope s__law_steps) f cdv A outer s H E) (fun cls d _ H => E cls d H) := takes_of rfl rfl rfl rfl
  refine ⟨_, (pss_one (ps_ret (pe_lzK (K := K) rfl (by rfl) T.b_list (by rfl) T.b_zip (pa_cons (pv 0) (pa_cons (pe_slice (sl_K (K := K) rfl) (pv 0) (po_some pe_int) po_none) pa_nil)) rfl rfl rfl rfl))), ?_⟩
  exact (ss_ret (se_cb rn_lz (sa_cons (se_var 0) (sa_cons (se_sl (se_var 0) (sp_some se_int) sp_none) sa_nil))) (fun _ z => nomatch z))
theorem C__law_steps (T : Tp P w K mg base ea) : Cal P w K mg base "_law_steps" s__law_steps ["_law_path_here"] 1 (spV K ea none 1 (fnM none 1 F__law_steps)) := T.d__law_steps.cal fun Fu => g__law_steps T Fu
theorem c_is_place : FnScope ["thing", "size"] ["thing", "size"] (defScope s_is_place) := ⟨rfl, rfl, rfl, by decide +kernel, rfl, by decide +kernel, by decide +kernel⟩
def F_is_place : Sl → SR := (sRet [0, 1] none (eAnd (eUser none 1 (fnM none 1 F_is_whole) (uCons (eVar 0) uNil)) (eCh leD ltD (eC (.int 0)) (eVar 0) (eVar 1))))
theorem g_is_place (T : Tp P w K mg base ea) {f : Addr} {fd : FuncData} (Fu : Fun K "is_place" "is_place" s_is_place f fd) : FnG P w K mg base 2 f fd ["thing", "size"] (spV K ea none 2 (fnM none 2 F_is_place)) := by
  have C_is_whole := C_is_whole T
  refine fng_v (k := 1) (io := none) Fu c_is_place rfl (by decide) (fun _ z => nomatch z) fun cdv A outer s H E pvv hr hg => ?_
  have hu := hr.un64
  have hu2 := hr.un65
  have tk : Takes (cxOf (L2.CX P w) P w K mg base ["thing", "size"] "is_place" (defScope s_is_place) f cdv A outer s H E) (fun cls d _ H => E cls d H) := takes_of rfl rfl rfl rfl
  refine ⟨_, (pss_one (ps_ret (pe_and (pe_ca C_is_whole (hr.mono (by decide)) hg (fun σ => passAt tk σ) (by rfl) (pa_cons (pv 0) pa_nil)) (pe_one (pe_chain op_le op_lt pe_int (pv 0) (pv 1)))))), ?_⟩
  exact (ss_ret (se_and (se_user (su_cons (se_var 0) su_nil)) (se_ch rg_ib rg_ib se_int (se_var 0) (se_var 1))) (fun _ z => nomatch z))
theorem C_is_place (T : Tp P w K mg base ea) : Cal P w K mg base "is_place" s_is_place ["thing", "size"] 2 (spV K ea none 2 (fnM none 2 F_is_place)) := T.d_is_place.cal fun Fu => g_is_place T Fu
theorem c__is_row : FnScope ["row", "place", "size", "thing"] ["row", "place", "size"] (defScope s__is_row) := ⟨rfl, rfl, rfl, by decide +kernel, rfl, by decide +kernel, by decide +kernel⟩
def B__is_row_1 : Sl → SR := (sIf [3] none (sAnd (sTest (eOp2 notND (eVar 3) (eC .none))) (sNot (sTru (eUser none 1 (fnM none 1 F_is_whole) (uCons (eVar 3) uNil))))) (sRet [] none (eC (.bool false))) sNx)
def F__is_row : Sl → SR := (sSq (sIf [0, 2] none (sTest (eOp2 neD (eCall lenD (aCons (eVar 0) aNil)) (eVar 2))) (sRet [] none (eC (.bool false))) sNx) (sSq (sFor [0] none (gIter (eVar 0)) (tgN 3) B__is_row_1) (sRet [0, 1] none (eOp2 eqD (eOp2 ixD (eVar 0) (eVar 1)) (eC (.int 0))))))
theorem g__is_row (T : Tp P w K mg base ea) {f : Addr} {fd : FuncData} (Fu : Fun K "_is_row" "_is_row" s__is_row f fd) : FnG P w K mg base 2 f fd ["row", "place", "size"] (spV K ea none 3 (fnM none 4 F__is_row)) := by
  have C_is_whole := C_is_whole T
  refine fng_v (k := 1) (io := none) Fu c__is_row rfl (by decide) (fun _ z => nomatch z) fun cdv A outer s H E pvv hr hg => ?_
  have hu := hr.un64
  have hu2 := hr.un65
  have tk : Takes (cxOf (L2.CX P w) P w K mg base ["row", "place", "size", "thing"] "_is_row" (defScope s__is_row) f cdv A outer s H E) (fun cls d _ H => E cls d H) := takes_of rfl rfl rfl rfl
  refine ⟨_, (pss_cons (ps_if (pt_cmpR (op_neK (K := K) rfl hu) (pe_callB (call_lenK (K := K) rfl) (by rfl) T.b_len bo_len (pa_cons (pv 0) pa_nil)) (pv 2) (by first | rfl | exact nomark _)) (pss_one (ps_ret pe_bl)) pss_nil) (pss_cons (ps_for (passes_of rfl) rfl (pi_anyK (K := K) rfl (pv 0)) (pg_name (i := 3) c__is_row.nd rfl (.inl rfl)) (pss_one (ps_if (PW.pt (pw_and (pt_cmpR op_notN (pv 3) pe_non (by first | rfl | exact nomark _)) (pw_and1 (pt_not (pt_truK (K := K) rfl (pe_ca C_is_whole (hr.mono (by decide)) hg (fun σ => passAt tk σ) (by rfl) (pa_cons (pv 3) pa_nil)) (by intro _; rfl)))))) (pss_one (ps_ret pe_bl)) pss_nil))) (pss_one (ps_ret (pe_cmpR (op_eqK (K := K) rfl hu) (pe_ix (ix_K (K := K) rfl) (pv 0) (pv 1) (fun _ _ => rfl)) pe_int (by first | rfl | exact nomark _)))))), ?_⟩
  exact (ss_seq (ss_if (st_test (se_op rg_ne (se_cb rn_len (sa_cons (se_var 0) sa_nil)) (se_var 2))) (fun _ z => nomatch z) (ss_ret se_bl (fun _ z => nomatch z)) ss_nx) (ss_seq (ss_for (sg_any (se_var 0)) (fun _ z => nomatch z) tg_name (ss_if (st_and (st_test (se_op rg_notN (se_var 3) se_non)) (st_not (st_truth (se_user (su_cons (se_var 3) su_nil))))) (fun _ z => nomatch z) (ss_ret se_bl (fun _ z => nomatch z)) ss_nx)) (ss_ret (se_op rg_eq (se_op rg_ix (se_var 0) (se_var 1)) se_int) (fun _ z => nomatch z))))
theorem C__is_row (T : Tp P w K mg base ea) : Cal P w K mg base "_is_row" s__is_row ["row", "place", "size"] 2 (spV K ea none 3 (fnM none 4 F__is_row)) := T.d__is_row.cal fun Fu => g__is_row T Fu
theorem c__law_any_web : FnScope ["_law_draws_here", "_law_size", "_law_wide", "_law_told_here", "_law_x", "_law_row", "_law_y", "_law_pick"] ["_law_draws_here", "_law_size"] (defScope s__law_any_web) := ⟨rfl, rfl, rfl, by decide +kernel, rfl, by decide +kernel, by decide +kernel⟩
def B__law_any_web_1 : Sl → SR := (sSq (sAsg 7 [] (some 0) (eUser (some 0) 1 (fnM (some 0) 3 F__law_next) (uIo uNil))) (sApp 5 [2, 4, 6, 7] none (eIf (sTest (eOp2 neD (eVar 4) (eVar 6))) (eOp2 ixD (eLst (aCons (eOp2 subD (eOp2 modD (eCall intD (aCons (eOp2 divD (eVar 7) (eC (.int 8))) aNil)) (eC (.int 12))) (eC (.int 3))) (aCons (eC .none) aNil))) (eCall intD (aCons (eOp2 geD (eOp2 modD (eCall intD (aCons (eVar 7) aNil)) (eC (.int 8))) (eOp2 divD (eC (.int 8)) (eVar 2))) aNil))) (eC (.int 0)))))
def B__law_any_web_2 : Sl → SR := (sSq (sAsg 5 [] none (eLst aNil)) (sSq (sFor [1] none (gArgs true rng1 (aCons (eVar 1) aNil)) (tgN 6) B__law_any_web_1) (sAppV 3 5)))
def F__law_any_web : Sl → SR := (sSq (sAsg 2 [] (some 0) (eOp2 addD (eC (.int 1)) (eOp2 modD (eCall intD (aCons (eUser (some 0) 1 (fnM (some 0) 3 F__law_next) (uIo uNil)) aNil)) (eC (.int 4))))) (sSq (sAsg 3 [] none (eLst aNil)) (sSq (sFor [1] none (gArgs true rng1 (aCons (eVar 1) aNil)) (tgN 4) B__law_any_web_2) (sRetV 3))))
theorem g__law_any_web (T : Tp P w K mg base ea) {f : Addr} {fd : FuncData} (Fu : Fun K "_law_any_web" "_law_any_web" s__law_any_web f fd) : FnG P w K mg base 2 f fd ["_law_draws_here", "_law_size"] (spV K ea (some 0) 2 (fnM (some 0) 8 F__law_any_web)) := by
  have C__law_next := C__law_next T
  refine fng_v (k := 1) (io := (some 0)) Fu c__law_any_web rfl (by decide) (fun j z => by cases z; decide) fun cdv A outer s H E pvv hr hg => ?_
  have hu := hr.un64
  have hu2 := hr.un65
  have tk : Takes (cxOf (L2.CX P w) P w K mg base ["_law_draws_here", "_law_size", "_law_wide", "_law_told_here", "_law_x", "_law_row", "_law_y", "_law_pick"] "_law_any_web" (defScope s__law_any_web) f cdv A outer s H E) (fun cls d _ H => E cls d H) := takes_of rfl rfl rfl rfl
  refine ⟨_, (pss_cons (ps_set (i := 2) c__law_any_web.nd rfl (.inl rfl) (pe_op (op_addK (K := K) rfl) pe_int (pe_op op_mod (pe_callTy call_int1 (by rfl) T.b_int bo_int (pa_cons (pe_ca C__law_next (hr.mono (by decide)) hg (fun σ => passAt tk σ) (by rfl) (pa_cons (pv 0) pa_nil)) pa_nil)) pe_int))) (pss_cons (ps_set (i := 3) c__law_any_web.nd rfl (.inl rfl) (pe_lst pa_nil)) (pss_cons (ps_for (passes_of rfl) rfl (pi_range1 (by rfl) T.b_range (pa_cons (pv 1) pa_nil)) (pg_name (i := 4) c__law_any_web.nd rfl (.inl rfl)) (pss_cons (ps_set (i := 5) c__law_any_web.nd rfl (.inl rfl) (pe_lst pa_nil)) (pss_cons (ps_for (passes_of rfl) rfl (pi_range1 (by rfl) T.b_range (pa_cons (pv 1) pa_nil)) (pg_name (i := 6) c__law_any_web.nd rfl (.inl rfl)) (pss_cons (ps_set (i := 7) c__law_any_web.nd rfl (.inl rfl) (pe_ca C__law_next (hr.mono (by decide)) hg (fun σ => passAt tk σ) (by rfl) (pa_cons (pv 0) pa_nil))) (pss_one (ps_expr (pe_bm PySem.F.plainAttrs_list PySem.F.slot_list_append PySem.F.type_list_append mt_append (pv 5) (pa_cons (pe_ifExp (pt_cmpR (op_neK (K := K) rfl hu) (pv 4) (pv 6) (by first | rfl | exact nomark _)) (pe_ix (ix_K (K := K) rfl) (pe_lst (pa_cons (pe_op op_sub (pe_op op_mod (pe_callTy call_int1 (by rfl) T.b_int bo_int (pa_cons (pe_op op_fdiv (pv 7) pe_int) pa_nil)) pe_int) pe_int) (pa_cons pe_non pa_nil))) (pe_callTy call_int1 (by rfl) T.b_int bo_int (pa_cons (pe_cmpR op_ge (pe_op op_mod (pe_callTy call_int1 (by rfl) T.b_int bo_int (pa_cons (pv 7) pa_nil)) pe_int) (pe_op op_fdiv pe_int (pv 2)) (by first | rfl | exact nomark _)) pa_nil)) (fun _ _ => rfl)) pe_int) pa_nil)))))) (pss_one (ps_expr (pe_bm PySem.F.plainAttrs_list PySem.F.slot_list_append PySem.F.type_list_append mt_append (pv 3) (pa_cons (pv 5) pa_nil))))))) (pss_one (ps_ret (pv 3)))))), ?_⟩
  exact (ss_seq (ss_asg (se_op rg_add se_int (se_op rg_mod (se_cb rn_int (sa_cons (se_user (su_io su_nil)) sa_nil)) se_int)) (fun j z => by cases z; rfl)) (ss_seq (ss_asg (se_lst sa_nil) (fun _ z => nomatch z)) (ss_seq (ss_for (sg_rng1 (sa_cons (se_var 1) sa_nil)) (fun _ z => nomatch z) tg_name (ss_seq (ss_asg (se_lst sa_nil) (fun _ z => nomatch z)) (ss_seq (ss_for (sg_rng1 (sa_cons (se_var 1) sa_nil)) (fun _ z => nomatch z) tg_name (ss_seq (ss_asg (se_user (su_io su_nil)) (fun j z => by cases z; rfl)) (ss_app (se_if (st_test (se_op rg_ne (se_var 4) (se_var 6))) (se_op rg_ix (se_lst (sa_cons (se_op rg_sub (se_op rg_mod (se_cb rn_int (sa_cons (se_op rg_div (se_var 7) se_int) sa_nil)) se_int) se_int) (sa_cons se_non sa_nil))) (se_cb rn_int (sa_cons (se_op rg_ib (se_op rg_mod (se_cb rn_int (sa_cons (se_var 7) sa_nil)) se_int) (se_op rg_div se_int (se_var 2))) sa_nil))) se_int) (fun _ z => nomatch z)))) ss_appV))) ss_retV)))
theorem C__law_any_web (T : Tp P w K mg base ea) : Cal P w K mg base "_law_any_web" s__law_any_web ["_law_draws_here", "_law_size"] 2 (spV K ea (some 0) 2 (fnM (some 0) 8 F__law_any_web)) := T.d__law_any_web.cal fun Fu => g__law_any_web T Fu
theorem c__law_long : FnScope ["_law_net", "_law_path_here", "_law_x", "_law_y"] ["_law_net", "_law_path_here"] (defScope s__law_long) := ⟨rfl, rfl, rfl, by decide +kernel, rfl, by decide +kernel, by decide +kernel⟩
def F__law_long : Sl → SR := (sRet [0, 1, 2, 3] none (eCall sumD (aCons (eLc (some 0) [2, 3] (bT [2, 3]) (gIter (eUser none 1 (fnM none 1 F__law_steps) (uCons (eVar 1) uNil))) sYes (eOp2 ixD (eOp2 ixD (eVar 0) (eVar 2)) (eVar 3))) aNil)))
theorem g__law_long (T : Tp P w K mg base ea) {f : Addr} {fd : FuncData} (Fu : Fun K "_law_long" "_law_long" s__law_long f fd) : FnG P w K mg base 2 f fd ["_law_net", "_law_path_here"] (spV K ea none 2 (fnM none 4 F__law_long)) := by
  have C__law_steps := C__law_steps T
  refine fng_v (k := 1) (io := none) Fu c__law_long rfl (by decide) (fun _ z => nomatch z) fun cdv A outer s H E pvv hr hg => ?_
  have hu := hr.un64
  have hu2 := hr.un65
  have tk : Takes (cxOf (L2.CX P w) P w K mg base ["_law_net", "_law_path_here", "_law_x", "_law_y"] "_law_long" (defScope s__law_long) f cdv A outer s H E) (fun cls d _ H => E cls d H) := takes_of rfl rfl rfl rfl
  refine ⟨_, (pss_one (ps_ret (pe_callB (cr_sumK (K := K) rfl rfl) (by rfl) T.b_sum bo_sum (pa_cons (pe_lc rfl c__law_long.nd (pi_anyK (K := K) rfl (pe_ca C__law_steps (hr.mono (by decide)) hg (fun σ => passAt tk σ) (by rfl) (pa_cons (pv 1) pa_nil))) (blkOk_by (own := [("_law_x", 2), ("_law_y", 3)]) (by kernel_rfl)) (fun _ _ _ _ _ => (pg_tupK (K := K) (n := 2) rfl rfl (pgs_cons (pg_name (i := 2) c__law_long.nd rfl (.inl rfl)) (pgs_cons (pg_name (i := 3) c__law_long.nd rfl (.inl rfl)) pgs_nil)) rfl rfl)) (fun _ _ _ _ _ => pts_nil) (fun _ _ _ _ _ => (pe_ix (ix_K (K := K) rfl) (pe_ix (ix_K (K := K) rfl) (pv 0) (pv 2) (fun _ _ => rfl)) (pv 3) (fun _ _ => rfl)))) pa_nil)))), ?_⟩
  exact (ss_ret (se_cb rn_sum (sa_cons (se_lc (fun _ z => nomatch z) (sg_any (se_user (su_cons (se_var 1) su_nil))) (bg_tup (is := [2, 3]) (by decide)) st_yes (se_op rg_ix (se_op rg_ix (se_var 0) (se_var 2)) (se_var 3))) sa_nil)) (fun _ z => nomatch z))
theorem C__law_long (T : Tp P w K mg base ea) : Cal P w K mg base "_law_long" s__law_long ["_law_net", "_law_path_here"] 2 (spV K ea none 2 (fnM none 4 F__law_long)) := T.d__law_long.cal fun Fu => g__law_long T Fu
theorem c__law_bad_webs : FnScope ["_law_draws_here", "_law_told_here"] ["_law_draws_here"] (defScope s__law_bad_webs) := ⟨rfl, rfl, rfl, by decide +kernel, rfl, by decide +kernel, by decide +kernel⟩
def F__law_bad_webs : Sl → SR := (sSq (sAsg 1 [] none (eLst (aCons (eTup (aCons (eC .none) (aCons (eC .none) aNil))) (aCons (eTup (aCons (eTup (aCons (eTup (aCons (eC (.int 0)) aNil)) aNil)) (aCons (eC .none) aNil))) (aCons (eTup (aCons (eLst (aCons (eC .none) aNil)) (aCons (eC .none) aNil))) (aCons (eTup (aCons (eLst (aCons (eLst (aCons (eC (.int 0)) aNil)) (aCons (eC (.int 5)) aNil))) (aCons (eC .none) aNil))) (aCons (eTup (aCons (eLst (aCons (eLst (aCons (eC (.int 1)) aNil)) aNil)) (aCons (eC (.int 0)) aNil))) (aCons (eTup (aCons (eLst (aCons (eLst (aCons (eC .none) aNil)) aNil)) (aCons (eC (.int 0)) aNil))) (aCons (eTup (aCons (eLst (aCons (eLst (aCons (eC (.bool false)) aNil)) aNil)) (aCons (eC (.int 0)) aNil))) aNil))))))))) (sSq (sAsg 1 [1] none (eOp2 addD (eVar 1) (eLst (aCons (eTup (aCons (eLst (aCons (eLst (aCons (eC (.int 0)) (aCons (eC (.int 1)) aNil))) aNil)) (aCons (eC (.int 0)) aNil))) (aCons (eTup (aCons (eLst (aCons (eLst (aCons (eC (.int 0)) (aCons (eC (.int 1)) aNil))) (aCons (eLst (aCons (eC (.int 1)) (aCons (eC (.int 2)) aNil))) aNil))) (aCons (eC (.int 1)) aNil))) (aCons (eTup (aCons (eLst (aCons (eLst (aCons (eC (.int 0)) (aCons (eC (.int 1)) aNil))) (aCons (eLst (aCons (eC (.bool true)) (aCons (eC (.int 0)) aNil))) aNil))) (aCons (eC (.int 1)) aNil))) (aCons (eTup (aCons (eLst (aCons (eLst (aCons (eC (.int 0)) (aCons (eC (.str "1")) aNil))) (aCons (eLst (aCons (eC (.int 5)) (aCons (eC (.int 1)) aNil))) aNil))) (aCons (eC (.int 0)) aNil))) (aCons (eTup (aCons (eC (.str "")) (aCons (eC .none) aNil))) aNil)))))))) (sSq (sAsg 1 [1] none (eOp2 addD (eVar 1) (eLst (aCons (eTup (aCons (eLst (aCons (eLst (aCons (eC (.int 0)) (aCons (eC (.int 1)) aNil))) (aCons (eLst (aCons (eC (.int 0)) aNil)) aNil))) (aCons (eC (.int 1)) aNil))) (aCons (eTup (aCons (eLst (aCons (eLst (aCons (eC (.int 0)) (aCons (eC .none) (aCons (eC (.int 1)) aNil)))) (aCons (eLst (aCons (eC (.int 0)) (aCons (eC (.int 0)) (aCons (eLst (aCons (eC (.int 1)) aNil)) aNil)))) (aCons (eLst (aCons (eC (.int 0)) (aCons (eC (.int 0)) (aCons (eC (.int 0)) aNil)))) aNil)))) (aCons (eC (.int 1)) aNil))) (aCons (eTup (aCons eDic (aCons (eC .none) aNil))) (aCons (eTup (aCons (eLst (aCons (eLst aNil) aNil)) (aCons (eC (.int 0)) aNil))) aNil))))))) (sSq (sAsg 1 [1] none (eOp2 addD (eVar 1) (eLst (aCons (eTup (aCons (eLst (aCons (eLst (aCons (eC (.int 1)) (aCons (eC (.int 0)) aNil))) (aCons (eLst (aCons (eC (.int 0)) aNil)) aNil))) (aCons (eC (.int 0)) aNil))) (aCons (eTup (aCons (eLst (aCons (eLst (aCons (eC (.str "x")) (aCons (eC (.int 0)) aNil))) (aCons (eLst (aCons (eC (.int 0)) aNil)) aNil))) (aCons (eC (.int 0)) aNil))) (aCons (eTup (aCons (eLst (aCons (eLst (aCons (eC (.int 1)) (aCons (eC (.int 2)) aNil))) (aCons (eLst (aCons (eC (.str "x")) (aCons (eC (.int 0)) aNil))) aNil))) (aCons (eC (.int 0)) aNil))) (aCons (eTup (aCons (eOp2 addD (eRep (eLst (aCons (eLst (aCons (eC (.int 0)) aNil)) aNil)) (eC (.int 7))) (eLst (aCons (eC .none) aNil))) (aCons (eC .none) aNil))) aNil))))))) (sRet [1] (some 0) (eOp2 addD (eSl (eVar 1) (some (eOp2 modD (eCall intD (aCons (eUser (some 0) 1 (fnM (some 0) 3 F__law_next) (uIo uNil)) aNil)) (eC (.int 20)))) none) (eSl (eVar 1) none (some (eC (.int 3))))))))))
theorem g__law_bad_webs (T : Tp P w K mg base ea) {f : Addr} {fd : FuncData} (Fu : Fun K "_law_bad_webs" "_law_bad_webs" s__law_bad_webs f fd) : FnG P w K mg base 2 f fd ["_law_draws_here"] (spV K ea (some 0) 1 (fnM (some 0) 2 F__law_bad_webs)) := by
  have C__law_next := C__law_next T
  refine fng_v (k := 1) (io := (some 0)) Fu c__law_bad_webs rfl (by decide) (fun j z => by cases z; decide) fun cdv A outer s H E pvv hr hg => ?_
  have hu := hr.un64
  have hu2 := hr.un65
  have tk : Takes (cxOf (L2.CX P w) P w K mg base ["_law_draws_here", "_law_told_here"] "_law_bad_webs" (defScope s__law_bad_webs) f cdv A outer s H E) (fun cls d _ H => E cls d H) := takes_of rfl rfl rfl rfl
  refine ⟨_, (pss_cons (ps_set (i := 1) c__law_bad_webs.nd rfl (.inl rfl) (pe_lst (pa_cons (pe_tup (pa_cons pe_non (pa_cons pe_non pa_nil))) (pa_cons (pe_tup (pa_cons (pe_tup (pa_cons (pe_tup (pa_cons pe_int pa_nil)) pa_nil)) (pa_cons pe_non pa_nil))) (pa_cons (pe_tup (pa_cons (pe_lst (pa_cons pe_non pa_nil)) (pa_cons pe_non pa_nil))) (pa_cons (pe_tup (pa_cons (pe_lst (pa_cons (pe_lst (pa_cons pe_int pa_nil)) (pa_cons pe_int pa_nil))) (pa_cons pe_non pa_nil))) (pa_cons (pe_tup (pa_cons (pe_lst (pa_cons (pe_lst (pa_cons pe_int pa_nil)) pa_nil)) (pa_cons pe_int pa_nil))) (pa_cons (pe_tup (pa_cons (pe_lst (pa_cons (pe_lst (pa_cons pe_non pa_nil)) pa_nil)) (pa_cons pe_int pa_nil))) (pa_cons (pe_tup (pa_cons (pe_lst (pa_cons (pe_lst (pa_cons pe_bl pa_nil)) pa_nil)) (pa_cons pe_int pa_nil))) pa_nil))))))))) (pss_cons (ps_set (i := 1) c__law_bad_webs.nd rfl (.inl rfl) (pe_op (op_addK (K := K) rfl) (pv 1) (pe_lst (pa_cons (pe_tup (pa_cons (pe_lst (pa_cons (pe_lst (pa_cons pe_int (pa_cons pe_int pa_nil))) pa_nil)) (pa_cons pe_int pa_nil))) (pa_cons (pe_tup (pa_cons (pe_lst (pa_cons (pe_lst (pa_cons pe_int (pa_cons pe_int pa_nil))) (pa_cons (pe_lst (pa_cons pe_int (pa_cons pe_int pa_nil))) pa_nil))) (pa_cons pe_int pa_nil))) (pa_cons (pe_tup (pa_cons (pe_lst (pa_cons (pe_lst (pa_cons pe_int (pa_cons pe_int pa_nil))) (pa_cons (pe_lst (pa_cons pe_bl (pa_cons pe_int pa_nil))) pa_nil))) (pa_cons pe_int pa_nil))) (pa_cons (pe_tup (pa_cons (pe_lst (pa_cons (pe_lst (pa_cons pe_int (pa_cons pe_str pa_nil))) (pa_cons (pe_lst (pa_cons pe_int (pa_cons pe_int pa_nil))) pa_nil))) (pa_cons pe_int pa_nil))) (pa_cons (pe_tup (pa_cons pe_str (pa_cons pe_non pa_nil))) pa_nil)))))))) (pss_cons (ps_set (i := 1) c__law_bad_webs.nd rfl (.inl rfl) (pe_op (op_addK (K := K) rfl) (pv 1) (pe_lst (pa_cons (pe_tup (pa_cons (pe_lst (pa_cons (pe_lst (pa_cons pe_int (pa_cons pe_int pa_nil))) (pa_cons (pe_lst (pa_cons pe_int pa_nil)) pa_nil))) (pa_cons pe_int pa_nil))) (pa_cons (pe_tup (pa_cons (pe_lst (pa_cons (pe_lst (pa_cons pe_int (pa_cons pe_non (pa_cons pe_int pa_nil)))) (pa_cons (pe_lst (pa_cons pe_int (pa_cons pe_int (pa_cons (pe_lst (pa_cons pe_int pa_nil)) pa_nil)))) (pa_cons (pe_lst (pa_cons pe_int (pa_cons pe_int (pa_cons pe_int pa_nil)))) pa_nil)))) (pa_cons pe_int pa_nil))) (pa_cons (pe_tup (pa_cons pe_dnewK (pa_cons pe_non pa_nil))) (pa_cons (pe_tup (pa_cons (pe_lst (pa_cons (pe_lst pa_nil) pa_nil)) (pa_cons pe_int pa_nil))) pa_nil))))))) (pss_cons (ps_set (i := 1) c__law_bad_webs.nd rfl (.inl rfl) (pe_op (op_addK (K := K) rfl) (pv 1) (pe_lst (pa_cons (pe_tup (pa_cons (pe_lst (pa_cons (pe_lst (pa_cons pe_int (pa_cons pe_int pa_nil))) (pa_cons (pe_lst (pa_cons pe_int pa_nil)) pa_nil))) (pa_cons pe_int pa_nil))) (pa_cons (pe_tup (pa_cons (pe_lst (pa_cons (pe_lst (pa_cons pe_str (pa_cons pe_int pa_nil))) (pa_cons (pe_lst (pa_cons pe_int pa_nil)) pa_nil))) (pa_cons pe_int pa_nil))) (pa_cons (pe_tup (pa_cons (pe_lst (pa_cons (pe_lst (pa_cons pe_int (pa_cons pe_int pa_nil))) (pa_cons (pe_lst (pa_cons pe_str (pa_cons pe_int pa_nil))) pa_nil))) (pa_cons pe_int pa_nil))) (pa_cons (pe_tup (pa_cons (pe_op (op_addK (K := K) rfl) (pe_op op_rep (pe_lst (pa_cons (pe_lst (pa_cons pe_int pa_nil)) pa_nil)) pe_int) (pe_lst (pa_cons pe_non pa_nil))) (pa_cons pe_non pa_nil))) pa_nil))))))) (pss_one (ps_ret (pe_op (op_addK (K := K) rfl) (pe_slice (sl_K (K := K) rfl) (pv 1) (po_some (pe_op op_mod (pe_callTy call_int1 (by rfl) T.b_int bo_int (pa_cons (pe_ca C__law_next (hr.mono (by decide)) hg (fun σ => passAt tk σ) (by rfl) (pa_cons (pv 0) pa_nil)) pa_nil)) pe_int)) po_none) (pe_slice (sl_K (K := K) rfl) (pv 1) po_none (po_some pe_int))))))))), ?_⟩
  exact (ss_seq (ss_asg (se_lst (sa_cons (se_tup (sa_cons se_non (sa_cons se_non sa_nil))) (sa_cons (se_tup (sa_cons (se_tup (sa_cons (se_tup (sa_cons se_int sa_nil)) sa_nil)) (sa_cons se_non sa_nil))) (sa_cons (se_tup (sa_cons (se_lst (sa_cons se_non sa_nil)) (sa_cons se_non sa_nil))) (sa_cons (se_tup (sa_cons (se_lst (sa_cons (se_lst (sa_cons se_int sa_nil)) (sa_cons se_int sa_nil))) (sa_cons se_non sa_nil))) (sa_cons (se_tup (sa_cons (se_lst (sa_cons (se_lst (sa_cons se_int sa_nil)) sa_nil)) (sa_cons se_int sa_nil))) (sa_cons (se_tup (sa_cons (se_lst (sa_cons (se_lst (sa_cons se_non sa_nil)) sa_nil)) (sa_cons se_int sa_nil))) (sa_cons (se_tup (sa_cons (se_lst (sa_cons (se_lst (sa_cons se_bl sa_nil)) sa_nil)) (sa_cons se_int sa_nil))) sa_nil)))))))) (fun _ z => nomatch z)) (ss_seq (ss_asg (se_op rg_add (se_var 1) (se_lst (sa_cons (se_tup (sa_cons (se_lst (sa_cons (se_lst (sa_cons se_int (sa_cons se_int sa_nil))) sa_nil)) (sa_cons se_int sa_nil))) (sa_cons (se_tup (sa_cons (se_lst (sa_cons (se_lst (sa_cons se_int (sa_cons se_int sa_nil))) (sa_cons (se_lst (sa_cons se_int (sa_cons se_int sa_nil))) sa_nil))) (sa_cons se_int sa_nil))) (sa_cons (se_tup (sa_cons (se_lst (sa_cons (se_lst (sa_cons se_int (sa_cons se_int sa_nil))) (sa_cons (se_lst (sa_cons se_bl (sa_cons se_int sa_nil))) sa_nil))) (sa_cons se_int sa_nil))) (sa_cons (se_tup (sa_cons (se_lst (sa_cons (se_lst (sa_cons se_int (sa_cons se_str sa_nil))) (sa_cons (se_lst (sa_cons se_int (sa_cons se_int sa_nil))) sa_nil))) (sa_cons se_int sa_nil))) (sa_cons (se_tup (sa_cons se_str (sa_cons se_non sa_nil))) sa_nil))))))) (fun _ z => nomatch z)) (ss_seq (ss_asg (se_op rg_add (se_var 1) (se_lst (sa_cons (se_tup (sa_cons (se_lst (sa_cons (se_lst (sa_cons se_int (sa_cons se_int sa_nil))) (sa_cons (se_lst (sa_cons se_int sa_nil)) sa_nil))) (sa_cons se_int sa_nil))) (sa_cons (se_tup (sa_cons (se_lst (sa_cons (se_lst (sa_cons se_int (sa_cons se_non (sa_cons se_int sa_nil)))) (sa_cons (se_lst (sa_cons se_int (sa_cons se_int (sa_cons (se_lst (sa_cons se_int sa_nil)) sa_nil)))) (sa_cons (se_lst (sa_cons se_int (sa_cons se_int (sa_cons se_int sa_nil)))) sa_nil)))) (sa_cons se_int sa_nil))) (sa_cons (se_tup (sa_cons se_dnew (sa_cons se_non sa_nil))) (sa_cons (se_tup (sa_cons (se_lst (sa_cons (se_lst sa_nil) sa_nil)) (sa_cons se_int sa_nil))) sa_nil)))))) (fun _ z => nomatch z)) (ss_seq (ss_asg (se_op rg_add (se_var 1) (se_lst (sa_cons (se_tup (sa_cons (se_lst (sa_cons (se_lst (sa_cons se_int (sa_cons se_int sa_nil))) (sa_cons (se_lst (sa_cons se_int sa_nil)) sa_nil))) (sa_cons se_int sa_nil))) (sa_cons (se_tup (sa_cons (se_lst (sa_cons (se_lst (sa_cons se_str (sa_cons se_int sa_nil))) (sa_cons (se_lst (sa_cons se_int sa_nil)) sa_nil))) (sa_cons se_int sa_nil))) (sa_cons (se_tup (sa_cons (se_lst (sa_cons (se_lst (sa_cons se_int (sa_cons se_int sa_nil))) (sa_cons (se_lst (sa_cons se_str (sa_cons se_int sa_nil))) sa_nil))) (sa_cons se_int sa_nil))) (sa_cons (se_tup (sa_cons (se_op rg_add (se_rep (se_lst (sa_cons (se_lst (sa_cons se_int sa_nil)) sa_nil)) se_int) (se_lst (sa_cons se_non sa_nil))) (sa_cons se_non sa_nil))) sa_nil)))))) (fun _ z => nomatch z)) (ss_ret (se_op rg_add (se_sl (se_var 1) (sp_some (se_op rg_mod (se_cb rn_int (sa_cons (se_user (su_io su_nil)) sa_nil)) se_int)) sp_none) (se_sl (se_var 1) sp_none (sp_some se_int))) (fun j z => by cases z; rfl))))))
theorem C__law_bad_webs (T : Tp P w K mg base ea) : Cal P w K mg base "_law_bad_webs" s__law_bad_webs ["_law_draws_here"] 2 (spV K ea (some 0) 1 (fnM (some 0) 2 F__law_bad_webs)) := T.d__law_bad_webs.cal fun Fu => g__law_bad_webs T Fu
theorem c__law_path : FnScope ["_law_draws_here", "_law_net", "_law_told_here", "_law_k", "_law_some", "_law_y"] ["_law_draws_here", "_law_net"] (defScope s__law_path) := ⟨rfl, rfl, rfl, by decide +kernel, rfl, by decide +kernel, by decide +kernel⟩
def B__law_path_1 : Sl → SR := (sSq (sAsg 4 [1, 2, 5] none (eLc none [5] (bN 5) (gArgs true rng1 (aCons (eCall lenD (aCons (eVar 1) aNil)) aNil)) (sAnd (sTest (eOp2 neD (eVar 5) (eOp2 ixD (eVar 2) (eOp1 negD (eC (.int 1)))))) (sTest (eOp2 notND (eOp2 ixD (eOp2 ixD (eVar 1) (eOp2 ixD (eVar 2) (eOp1 negD (eC (.int 1))))) (eVar 5)) (eC .none)))) (eVar 5))) (sIf [4] none (sTest (eOp2 neD (eVar 4) (eLst aNil))) (sApp 2 [4] (some 0) (eOp2 ixD (eVar 4) (eOp2 modD (eCall intD (aCons (eUser (some 0) 1 (fnM (some 0) 3 F__law_next) (uIo uNil)) aNil)) (eCall lenD (aCons (eVar 4) aNil))))) sNx))
def F__law_path : Sl → SR := (sSq (sAsg 2 [1] (some 0) (eLst (aCons (eOp2 modD (eCall intD (aCons (eUser (some 0) 1 (fnM (some 0) 3 F__law_next) (uIo uNil)) aNil)) (eCall lenD (aCons (eVar 1) aNil))) aNil))) (sSq (sFor [] (some 0) (gArgs true rng1 (aCons (eOp2 modD (eCall intD (aCons (eUser (some 0) 1 (fnM (some 0) 3 F__law_next) (uIo uNil)) aNil)) (eOp2 ixD (eLst (aCons (eC (.int 30)) (aCons (eC (.int 110)) aNil))) (eOp2 modD (eCall intD (aCons (eUser (some 0) 1 (fnM (some 0) 3 F__law_next) (uIo uNil)) aNil)) (eC (.int 2))))) aNil)) (tgN 3) B__law_path_1) (sRetV 2)))
theorem g__law_path (T : Tp P w K mg base ea) {f : Addr} {fd : FuncData} (Fu : Fun K "_law_path" "_law_path" s__law_path f fd) : FnG P w K mg base 2 f fd ["_law_draws_here", "_law_net"] (spV K ea (some 0) 2 (fnM (some 0) 6 F__law_path)) := by
  have C__law_next := C__law_next T
  refine fng_v (k := 1) (io := (some 0)) Fu c__law_path rfl (by decide) (fun j z => by cases z; decide) fun cdv A outer s H E pvv hr hg => ?_
  have hu := hr.un64
  have hu2 := hr.un65
  have tk : Takes (cxOf (L2.CX P w) P w K mg base ["_law_draws_here", "_law_net", "_law_told_here", "_law_k", "_law_some", "_law_y"] "_law_path" (defScope s__law_path) f cdv A outer s H E) (fun cls d _ H => E cls d H) := takes_of rfl rfl rfl rfl
  refine ⟨_, (pss_cons (ps_set (i := 2) c__law_path.nd rfl (.inr rfl) (pe_lst (pa_cons (pe_op op_mod (pe_callTy call_int1 (by rfl) T.b_int bo_int (pa_cons (pe_ca C__law_next (hr.mono (by decide)) hg (fun σ => passAt tk σ) (by rfl) (pa_cons (pv 0) pa_nil)) pa_nil)) (pe_callB (call_lenK (K := K) rfl) (by rfl) T.b_len bo_len (pa_cons (pv 1) pa_nil))) pa_nil))) (pss_cons (ps_for (passes_of rfl) rfl (pi_range1 (by rfl) T.b_range (pa_cons (pe_op op_mod (pe_callTy call_int1 (by rfl) T.b_int bo_int (pa_cons (pe_ca C__law_next (hr.mono (by decide)) hg (fun σ => passAt tk σ) (by rfl) (pa_cons (pv 0) pa_nil)) pa_nil)) (pe_ix (ix_K (K := K) rfl) (pe_lst (pa_cons pe_int (pa_cons pe_int pa_nil))) (pe_op op_mod (pe_callTy call_int1 (by rfl) T.b_int bo_int (pa_cons (pe_ca C__law_next (hr.mono (by decide)) hg (fun σ => passAt tk σ) (by rfl) (pa_cons (pv 0) pa_nil)) pa_nil)) pe_int) (fun _ _ => rfl))) pa_nil)) (pg_name (i := 3) c__law_path.nd rfl (.inl rfl)) (pss_cons (ps_setLc (i := 4) rfl c__law_path.nd rfl rfl rfl (pi_range1 (by rfl) T.b_range (pa_cons (pe_callB (call_lenK (K := K) rfl) (by rfl) T.b_len bo_len (pa_cons (pv 1) pa_nil)) pa_nil)) (blkOk_by (own := [("_law_y", 5)]) (by kernel_rfl)) (fun _ _ _ _ _ => (pg_name (i := 5) c__law_path.nd rfl (.inl rfl))) (fun _ _ _ _ _ => (pts_one (PW.pt (pw_and (pt_cmpR (op_neK (K := K) rfl hu) (pv 5) (pe_ix (ix_K (K := K) rfl) (pv 2) (pe_un un_neg pe_int) (fun _ _ => rfl)) (by first | rfl | exact nomark _)) (pw_and1 (pt_cmpR op_notN (pe_ix (ix_K (K := K) rfl) (pe_ix (ix_K (K := K) rfl) (pv 1) (pe_ix (ix_K (K := K) rfl) (pv 2) (pe_un un_neg pe_int) (fun _ _ => rfl)) (fun _ _ => rfl)) (pv 5) (fun _ _ => rfl)) pe_non (by first | rfl | exact nomark _))))))) (fun _ _ _ _ _ => (pv 5))) (pss_one (ps_if (pt_cmpR (op_neK (K := K) rfl hu) (pv 4) (pe_lst pa_nil) (by first | rfl | exact nomark _)) (pss_one (ps_expr (pe_bm PySem.F.plainAttrs_list PySem.F.slot_list_append PySem.F.type_list_append mt_append (pv 2) (pa_cons (pe_ix (ix_K (K := K) rfl) (pv 4) (pe_op op_mod (pe_callTy call_int1 (by rfl) T.b_int bo_int (pa_cons (pe_ca C__law_next (hr.mono (by decide)) hg (fun σ => passAt tk σ) (by rfl) (pa_cons (pv 0) pa_nil)) pa_nil)) (pe_callB (call_lenK (K := K) rfl) (by rfl) T.b_len bo_len (pa_cons (pv 4) pa_nil))) (fun _ _ => rfl)) pa_nil)))) pss_nil)))) (pss_one (ps_ret (pv 2))))), ?_⟩
  exact (ss_seq (ss_asg (se_lst (sa_cons (se_op rg_mod (se_cb rn_int (sa_cons (se_user (su_io su_nil)) sa_nil)) (se_cb rn_len (sa_cons (se_var 1) sa_nil))) sa_nil)) (fun j z => by cases z; rfl)) (ss_seq (ss_for (sg_rng1 (sa_cons (se_op rg_mod (se_cb rn_int (sa_cons (se_user (su_io su_nil)) sa_nil)) (se_op rg_ix (se_lst (sa_cons se_int (sa_cons se_int sa_nil))) (se_op rg_mod (se_cb rn_int (sa_cons (se_user (su_io su_nil)) sa_nil)) se_int))) sa_nil)) (fun j z => by cases z; rfl) tg_name (ss_seq (ss_asg (se_lc (fun _ z => nomatch z) (sg_rng1 (sa_cons (se_cb rn_len (sa_cons (se_var 1) sa_nil)) sa_nil)) (bg_name (by decide)) (st_and (st_test (se_op rg_ne (se_var 5) (se_op rg_ix (se_var 2) (se_un rg_neg se_int)))) (st_test (se_op rg_notN (se_op rg_ix (se_op rg_ix (se_var 1) (se_op rg_ix (se_var 2) (se_un rg_neg se_int))) (se_var 5)) se_non))) (se_var 5)) (fun _ z => nomatch z)) (ss_if (st_test (se_op rg_ne (se_var 4) (se_lst sa_nil))) (fun _ z => nomatch z) (ss_app (se_op rg_ix (se_var 4) (se_op rg_mod (se_cb rn_int (sa_cons (se_user (su_io su_nil)) sa_nil)) (se_cb rn_len (sa_cons (se_var 4) sa_nil)))) (fun j z => by cases z; rfl)) ss_nx))) ss_retV))
theorem C__law_path (T : Tp P w K mg base ea) : Cal P w K mg base "_law_path" s__law_path ["_law_draws_here", "_law_net"] 2 (spV K ea (some 0) 2 (fnM (some 0) 6 F__law_path)) := T.d__law_path.cal fun Fu => g__law_path T Fu
theorem c_check_web : FnScope ["web", "row", "place"] ["web"] (defScope s_check_web) := ⟨rfl, rfl, rfl, by decide +kernel, rfl, by decide +kernel, by decide +kernel⟩
def B_check_web_1 : Sl → SR := (sIf [1] none (sNot (sTru (eIsa "list" (eVar 1)))) (sRz "InvalidWeb" "place" [] none (eC .none)) sNx)
def B_check_web_2 : Sl → SR := (sIf [0, 1, 2] none (sNot (sTru (eUser none 3 (fnM none 4 F__is_row) (uCons (eVar 1) (uCons (eVar 2) (uCons (eCall lenD (aCons (eVar 0) aNil)) uNil)))))) (sRz "InvalidWeb" "place" [2] none (eVar 2)) sNx)
def F_check_web : Sl → SR := (sSq (sIf [0] none (sNot (sTru (eIsa "list" (eVar 0)))) (sRz "InvalidWeb" "place" [] none (eC .none)) sNx) (sSq (sFor [0] none (gIter (eVar 0)) (tgN 1) B_check_web_1) (sFor [0] none (gArgs false enumG (aCons (eVar 0) aNil)) (tgT [2, 1]) B_check_web_2)))
theorem g_check_web (T : Tp P w K mg base ea) {f : Addr} {fd : FuncData} (Fu : Fun K "check_web" "check_web" s_check_web f fd) : FnG P w K mg base 3 f fd ["web"] (spV K ea none 1 (fnM none 3 F_check_web)) := by
  have C__is_row := C__is_row T
  refine fng_v (k := 2) (io := none) Fu c_check_web rfl (by decide) (fun _ z => nomatch z) fun cdv A outer s H E pvv hr hg => ?_
  have hu := hr.un64
  have hu2 := hr.un65
  have tk : Takes (cxOf (L2.CX P w) P w K mg base ["web", "row", "place"] "check_web" (defScope s_check_web) f cdv A outer s H E) (fun cls d _ H => E cls d H) := takes_of rfl rfl rfl rfl
  refine ⟨_, (pss_cons (ps_if (pt_not (pt_truK (K := K) rfl (pe_callB (call_isiG (K := K) rfl) (by rfl) T.b_isinstance bo_isinstance (pa_cons (pv 0) (pa_cons (pe_ty (T := "list") (by rfl) T.b_list bo_list) pa_nil))) (by intro _; rfl))) (pss_one (ps_rz rfl tk T.e_InvalidWeb (hr.mono (by decide)) (by rfl) pe_non)) pss_nil) (pss_cons (ps_for (passes_of rfl) rfl (pi_anyK (K := K) rfl (pv 0)) (pg_name (i := 1) c_check_web.nd rfl (.inl rfl)) (pss_one (ps_if (pt_not (pt_truK (K := K) rfl (pe_callB (call_isiG (K := K) rfl) (by rfl) T.b_isinstance bo_isinstance (pa_cons (pv 1) (pa_cons (pe_ty (T := "list") (by rfl) T.b_list bo_list) pa_nil))) (by intro _; rfl))) (pss_one (ps_rz rfl tk T.e_InvalidWeb (hr.mono (by decide)) (by rfl) pe_non)) pss_nil))) (pss_one (ps_for (passes_of rfl) rfl (pi_enumK (K := K) rfl (by rfl) T.b_enumerate (pa_cons (pv 0) pa_nil) rfl) (pg_tupK (K := K) (n := 2) rfl rfl (pgs_cons (pg_name (i := 2) c_check_web.nd rfl (.inl rfl)) (pgs_cons (pg_name (i := 1) c_check_web.nd rfl (.inl rfl)) pgs_nil)) rfl rfl) (pss_one (ps_if (pt_not (pt_truK (K := K) rfl (pe_ca C__is_row (hr.mono (by decide)) hg (fun σ => passAt tk σ) (by rfl) (pa_cons (pv 1) (pa_cons (pv 2) (pa_cons (pe_callB (call_lenK (K := K) rfl) (by rfl) T.b_len bo_len (pa_cons (pv 0) pa_nil)) pa_nil)))) (by intro _; rfl))) (pss_one (ps_rz rfl tk T.e_InvalidWeb (hr.mono (by decide)) (by rfl) (pv 2))) pss_nil)))))), ?_⟩
  exact (ss_seq (ss_if (st_not (st_truth (se_isa (by decide) (se_var 0)))) (fun _ z => nomatch z) (ss_rz T.e_InvalidWeb se_non (fun _ z => nomatch z)) ss_nx) (ss_seq (ss_for (sg_any (se_var 0)) (fun _ z => nomatch z) tg_name (ss_if (st_not (st_truth (se_isa (by decide) (se_var 1)))) (fun _ z => nomatch z) (ss_rz T.e_InvalidWeb se_non (fun _ z => nomatch z)) ss_nx)) (ss_for (sg_enum (sa_cons (se_var 0) sa_nil)) (fun _ z => nomatch z) (tg_tup (is := [2, 1])) (ss_if (st_not (st_truth (se_user (su_cons (se_var 1) (su_cons (se_var 2) (su_cons (se_cb rn_len (sa_cons (se_var 0) sa_nil)) su_nil)))))) (fun _ z => nomatch z) (ss_rz T.e_InvalidWeb (se_var 2) (fun _ z => nomatch z)) ss_nx))))
theorem C_check_web (T : Tp P w K mg base ea) : Cal P w K mg base "check_web" s_check_web ["web"] 3 (spV K ea none 1 (fnM none 3 F_check_web)) := T.d_check_web.cal fun Fu => g_check_web T Fu
theorem c_check_walk : FnScope ["web", "walk", "index", "place"] ["web", "walk"] (defScope s_check_walk) := ⟨rfl, rfl, rfl, by decide +kernel, rfl, by decide +kernel, by decide +kernel⟩
def B_check_walk_1 : Sl → SR := (sSq (sIf [0, 3] none (sNot (sTru (eUser none 2 (fnM none 2 F_is_place) (uCons (eVar 3) (uCons (eCall lenD (aCons (eVar 0) aNil)) uNil))))) (sRz "InvalidWalk" "index" [2] none (eVar 2)) sNx) (sIf [0, 1, 2, 3] none (sAnd (sTest (eOp2 gtD (eVar 2) (eC (.int 0)))) (sNot (sTru (eUser none 3 (fnM none 3 F_has_edge) (uCons (eVar 0) (uCons (eOp2 ixD (eVar 1) (eOp2 subD (eVar 2) (eC (.int 1)))) (uCons (eVar 3) uNil))))))) (sRz "InvalidWalk" "index" [2] none (eVar 2)) sNx))
def F_check_walk : Sl → SR := (sSq (sIf [1] none (sOr (sNot (sTru (eIsa "list" (eVar 1)))) (sNot (sTru (eVar 1)))) (sRz "InvalidWalk" "index" [] none (eC .none)) sNx) (sFor [1] none (gArgs false enumG (aCons (eVar 1) aNil)) (tgT [2, 3]) B_check_walk_1))
theorem g_check_walk (T : Tp P w K mg base ea) {f : Addr} {fd : FuncData} (Fu : Fun K "check_walk" "check_walk" s_check_walk f fd) : FnG P w K mg base 3 f fd ["web", "walk"] (spV K ea none 2 (fnM none 4 F_check_walk)) := by
  have C_is_place := C_is_place T
  have C_has_edge := C_has_edge T
  refine fng_v (k := 2) (io := none) Fu c_check_walk rfl (by decide) (fun _ z => nomatch z) fun cdv A outer s H E pvv hr hg => ?_
  have hu := hr.un64
  have hu2 := hr.un65
  have tk : Takes (cxOf (L2.CX P w) P w K mg base ["web", "walk", "index", "place"] "check_walk" (defScope s_check_walk) f cdv A outer s H E) (fun cls d _ H => E cls d H) := takes_of rfl rfl rfl rfl
  refine ⟨_, (pss_cons (ps_if (PW.pt (pw_or (pt_not (pt_truK (K := K) rfl (pe_callB (call_isiG (K := K) rfl) (by rfl) T.b_isinstance bo_isinstance (pa_cons (pv 1) (pa_cons (pe_ty (T := "list") (by rfl) T.b_list bo_list) pa_nil))) (by intro _; rfl))) (pw_or1 (pt_not (pt_truK (K := K) rfl (pv 1) (by intro _; rfl)))))) (pss_one (ps_rz rfl tk T.e_InvalidWalk (hr.mono (by decide)) (by rfl) pe_non)) pss_nil) (pss_one (ps_for (passes_of rfl) rfl (pi_enumK (K := K) rfl (by rfl) T.b_enumerate (pa_cons (pv 1) pa_nil) rfl) (pg_tupK (K := K) (n := 2) rfl rfl (pgs_cons (pg_name (i := 2) c_check_walk.nd rfl (.inl rfl)) (pgs_cons (pg_name (i := 3) c_check_walk.nd rfl (.inl rfl)) pgs_nil)) rfl rfl) (pss_cons (ps_if (pt_not (pt_truK (K := K) rfl (pe_ca C_is_place (hr.mono (by decide)) hg (fun σ => passAt tk σ) (by rfl) (pa_cons (pv 3) (pa_cons (pe_callB (call_lenK (K := K) rfl) (by rfl) T.b_len bo_len (pa_cons (pv 0) pa_nil)) pa_nil))) (by intro _; rfl))) (pss_one (ps_rz rfl tk T.e_InvalidWalk (hr.mono (by decide)) (by rfl) (pv 2))) pss_nil) (pss_one (ps_if (PW.pt (pw_and (pt_cmpR op_gt (pv 2) pe_int (by first | rfl | exact nomark _)) (pw_and1 (pt_not (pt_truK (K := K) rfl (pe_ca C_has_edge (hr.mono (by decide)) hg (fun σ => passAt tk σ) (by rfl) (pa_cons (pv 0) (pa_cons (pe_ix (ix_K (K := K) rfl) (pv 1) (pe_op op_sub (pv 2) pe_int) (fun _ _ => rfl)) (pa_cons (pv 3) pa_nil)))) (by intro _; rfl)))))) (pss_one (ps_rz rfl tk T.e_InvalidWalk (hr.mono (by decide)) (by rfl) (pv 2))) pss_nil)))))), ?_⟩
  exact (ss_seq (ss_if (st_or (st_not (st_truth (se_isa (by decide) (se_var 1)))) (st_not (st_truth (se_var 1)))) (fun _ z => nomatch z) (ss_rz T.e_InvalidWalk se_non (fun _ z => nomatch z)) ss_nx) (ss_for (sg_enum (sa_cons (se_var 1) sa_nil)) (fun _ z => nomatch z) (tg_tup (is := [2, 3])) (ss_seq (ss_if (st_not (st_truth (se_user (su_cons (se_var 3) (su_cons (se_cb rn_len (sa_cons (se_var 0) sa_nil)) su_nil))))) (fun _ z => nomatch z) (ss_rz T.e_InvalidWalk (se_var 2) (fun _ z => nomatch z)) ss_nx) (ss_if (st_and (st_test (se_op rg_ib (se_var 2) se_int)) (st_not (st_truth (se_user (su_cons (se_var 0) (su_cons (se_op rg_ix (se_var 1) (se_op rg_sub (se_var 2) se_int)) (su_cons (se_var 3) su_nil))))))) (fun _ z => nomatch z) (ss_rz T.e_InvalidWalk (se_var 2) (fun _ z => nomatch z)) ss_nx))))
theorem C_check_walk (T : Tp P w K mg base ea) : Cal P w K mg base "check_walk" s_check_walk ["web", "walk"] 3 (spV K ea none 2 (fnM none 4 F_check_walk)) := T.d_check_walk.cal fun Fu => g_check_walk T Fu
theorem c_length_of : FnScope ["web", "walk", "x", "y"] ["web", "walk"] (defScope s_length_of) := ⟨rfl, rfl, rfl, by decide +kernel, rfl, by decide +kernel, by decide +kernel⟩
def F_length_of : Sl → SR := (sSq (sDrop [0] none (eUser none 1 (fnM none 3 F_check_web) (uCons (eVar 0) uNil))) (sSq (sDrop [0, 1] none (eUser none 2 (fnM none 4 F_check_walk) (uCons (eVar 0) (uCons (eVar 1) uNil)))) (sRet [0, 1, 2, 3] none (eCall sumD (aCons (eLc (some 0) [2, 3] (bT [2, 3]) (gArgs false zipG (aCons (eVar 1) (aCons (eSl (eVar 1) (some (eC (.int 1))) none) aNil))) sYes (eOp2 ixD (eOp2 ixD (eVar 0) (eVar 2)) (eVar 3))) aNil)))))
theorem g_length_of (T : Tp P w K mg base ea) {f : Addr} {fd : FuncData} (Fu : Fun K "length_of" "length_of" s_length_of f fd) : FnG P w K mg base 4 f fd ["web", "walk"] (spV K ea none 2 (fnM none 4 F_length_of)) := by
  have C_check_web := C_check_web T
  have C_check_walk := C_check_walk T
  refine fng_v (k := 3) (io := none) Fu c_length_of rfl (by decide) (fun _ z => nomatch z) fun cdv A outer s H E pvv hr hg => ?_
  have hu := hr.un64
  have hu2 := hr.un65
  have tk : Takes (cxOf (L2.CX P w) P w K mg base ["web", "walk", "x", "y"] "length_of" (defScope s_length_of) f cdv A outer s H E) (fun cls d _ H => E cls d H) := takes_of rfl rfl rfl rfl
  refine ⟨_, (pss_cons (ps_expr (pe_ca C_check_web (hr.mono (by decide)) hg (fun σ => passAt tk σ) (by rfl) (pa_cons (pv 0) pa_nil))) (pss_cons (ps_expr (pe_ca C_check_walk (hr.mono (by decide)) hg (fun σ => passAt tk σ) (by rfl) (pa_cons (pv 0) (pa_cons (pv 1) pa_nil)))) (pss_one (ps_ret (pe_callB (cr_sumK (K := K) rfl rfl) (by rfl) T.b_sum bo_sum (pa_cons (pe_lc rfl c_length_of.nd (pi_zipK (K := K) rfl (by rfl) T.b_zip (pa_cons (pv 1) (pa_cons (pe_slice (sl_K (K := K) rfl) (pv 1) (po_some pe_int) po_none) pa_nil)) rfl rfl) (blkOk_by (own := [("x", 2), ("y", 3)]) (by kernel_rfl)) (fun _ _ _ _ _ => (pg_tupK (K := K) (n := 2) rfl rfl (pgs_cons (pg_name (i := 2) c_length_of.nd rfl (.inl rfl)) (pgs_cons (pg_name (i := 3) c_length_of.nd rfl (.inl rfl)) pgs_nil)) rfl rfl)) (fun _ _ _ _ _ => pts_nil) (fun _ _ _ _ _ => (pe_ix (ix_K (K := K) rfl) (pe_ix (ix_K (K := K) rfl) (pv 0) (pv 2) (fun _ _ => rfl)) (pv 3) (fun _ _ => rfl)))) pa_nil)))))), ?_⟩
  exact (ss_seq (ss_drop (se_user (su_cons (se_var 0) su_nil)) (fun _ z => nomatch z)) (ss_seq (ss_drop (se_user (su_cons (se_var 0) (su_cons (se_var 1) su_nil))) (fun _ z => nomatch z)) (ss_ret (se_cb rn_sum (sa_cons (se_lc (fun _ z => nomatch z) (sg_zip (sa_cons (se_var 1) (sa_cons (se_sl (se_var 1) (sp_some se_int) sp_none) sa_nil))) (bg_tup (is := [2, 3]) (by decide)) st_yes (se_op rg_ix (se_op rg_ix (se_var 0) (se_var 2)) (se_var 3))) sa_nil)) (fun _ z => nomatch z))))
theorem C_length_of (T : Tp P w K mg base ea) : Cal P w K mg base "length_of" s_length_of ["web", "walk"] 4 (spV K ea none 2 (fnM none 4 F_length_of)) := T.d_length_of.cal fun Fu => g_length_of T Fu
theorem c__law_told : FnScope ["_law_net", "_law_path_here", "_law_error", "e"] ["_law_net", "_law_path_here"] (defScope s__law_told) := ⟨rfl, rfl, rfl, by decide +kernel, rfl, by decide +kernel, by decide +kernel⟩
def F__law_told : Sl → SR := (sSq (sAsg 2 [] none (eC .none)) (sSq (sTry ["InvalidWalk", "InvalidWeb"] 3 2 (sDrop [0, 1] none (eUser none 2 (fnM none 4 F_length_of) (uCons (eVar 0) (uCons (eVar 1) uNil))))) (sSq (sIf [2] none (sOr (sTest (eOp2 isND (eVar 2) (eC .none))) (sNot (sTru (eOp1 (isXD (some false) [("InvalidWalk", true), ("InvalidWeb", true)]) (eVar 2))))) (sRet [] none (eC (.str "told"))) sNx) (sRet [2] none (eIf (sTru (eOp1 (isXD (some false) [("InvalidWalk", true), ("InvalidWeb", false)]) (eVar 2))) (eCall reprD (aCons (eLst (aCons (eC (.str "walk")) (aCons (eOp1 (xaD "index" ["InvalidWalk"]) (eVar 2)) aNil))) aNil)) (eCall reprD (aCons (eLst (aCons (eC (.str "web")) (aCons (eOp1 (xaD "place" ["InvalidWeb"]) (eVar 2)) aNil))) aNil)))))))
theorem g__law_told (T : Tp P w K mg base ea) {f : Addr} {fd : FuncData} (Fu : Fun K "_law_told" "_law_told" s__law_told f fd) : FnG P w K mg base 5 f fd ["_law_net", "_law_path_here"] (spV K ea none 2 (fnM none 4 F__law_told)) := by
  have C_length_of := C_length_of T
  refine fng_v (k := 4) (io := none) Fu c__law_told rfl (by decide) (fun _ z => nomatch z) fun cdv A outer s H E pvv hr hg => ?_
  have hu := hr.un64
  have hu2 := hr.un65
  have tk : Takes (cxOf (L2.CX P w) P w K mg base ["_law_net", "_law_path_here", "_law_error", "e"] "_law_told" (defScope s__law_told) f cdv A outer s H E) (fun cls d _ H => E cls d H) := takes_of rfl rfl rfl rfl
  refine ⟨_, (pss_cons (ps_set (i := 2) c__law_told.nd rfl (.inl rfl) pe_non) (pss_cons (ps_try_tell rfl rfl rfl c__law_told.nd (i := 3) rfl (by rfl) (tst_tup (.cons ⟨by rfl, by decide, .inl T.c_InvalidWalk⟩ (.cons ⟨by rfl, by decide, .inl T.c_InvalidWeb⟩ .nil)) (Nat.le_of_ble_eq_true rfl)) tk (fun W pn xe tk hp => (pss_one (ps_expr (pe_ca C_length_of (hr.mono (by decide)) hg (fun σ => passAt tk σ) (by rfl) (pa_cons (pv 0) (pa_cons (pv 1) pa_nil)))))) (fun a oe cls d pn hz hf => pss_one (ps_set (i := 2) c__law_told.nd rfl (.inl rfl) (pv 3)))) (pss_cons (ps_if (PW.pt (pw_or (pt_cmpR op_isN (pv 2) pe_non (by first | rfl | exact nomark _)) (pw_or1 (pt_not (pt_truK (K := K) rfl (pe_callB (call_isX (K := K) rfl T.xk) (by rfl) T.b_isinstance bo_isinstance (pa_cons (pv 2) (pa_cons (pe_ty (T := "ValueError") (by rfl) T.b_ValueError bo_ValueError) pa_nil))) (by intro _; rfl)))))) (pss_one (ps_ret pe_str)) pss_nil) (pss_one (ps_ret (pe_ifExp (pt_truK (K := K) rfl (pe_callB (call_isX (K := K) rfl T.xk) (by rfl) T.b_isinstance bo_isinstance (pa_cons (pv 2) (pa_cons (C8.pe_gc (v := .ref (ea "InvalidWalk")) (by rfl) ⟨_, T.c_InvalidWalk, rfl⟩) pa_nil))) (by intro _; rfl)) (pe_callB (call_reprK (K := K) rfl hg hu) (by rfl) T.b_repr bo_repr (pa_cons (pe_lst (pa_cons pe_str (pa_cons (pe_xa (K := K) rfl (pv 2)) pa_nil))) pa_nil)) (pe_callB (call_reprK (K := K) rfl hg hu) (by rfl) T.b_repr bo_repr (pa_cons (pe_lst (pa_cons pe_str (pa_cons (pe_xa (K := K) rfl (pv 2)) pa_nil))) pa_nil)))))))), ?_⟩
  exact (ss_seq (ss_asg se_non (fun _ z => nomatch z)) (ss_seq (ss_try (L := ["InvalidWalk", "InvalidWeb"]) (F := (sDrop [0, 1] none (eUser none 2 (fnM none 4 F_length_of) (uCons (eVar 0) (uCons (eVar 1) uNil))))) (fun W => (ss_drop (se_user (su_cons (se_var 0) (su_cons (se_var 1) su_nil))) (fun _ z => nomatch z))) (.cons ⟨T.x_InvalidWalk.at', (exm_cons T.x_InvalidWalk T.x_InvalidWalk.self (exm_cons T.x_InvalidWeb T.s_InvalidWalk_InvalidWeb exm_nil))⟩ (.cons ⟨T.x_InvalidWeb.at', (exm_cons T.x_InvalidWalk T.s_InvalidWeb_InvalidWalk (exm_cons T.x_InvalidWeb T.x_InvalidWeb.self exm_nil))⟩ .nil))) (ss_seq (ss_if (st_or (st_test (se_op rg_isN (se_var 2) se_non)) (st_not (st_truth (se_isX (non := some false) (tb := [("InvalidWalk", true), ("InvalidWeb", true)]) (.ty _) (fun b z => by cases z; exact (one_ty (by decide) T.sn_ValueError (by rfl))) (.cons ⟨_, T.x_InvalidWalk, (one_ty (by decide) T.sb_InvalidWalk_ValueError (by rfl))⟩ (.cons ⟨_, T.x_InvalidWeb, (one_ty (by decide) T.sb_InvalidWeb_ValueError (by rfl))⟩ .nil)) (se_var 2))))) (fun _ z => nomatch z) (ss_ret se_str (fun _ z => nomatch z)) ss_nx) (ss_ret (se_if (st_truth (se_isX (non := some false) (tb := [("InvalidWalk", true), ("InvalidWeb", false)]) (.own _) (fun b z => by cases z; exact (XcT.one T.x_InvalidWalk T.sn_InvalidWalk)) (.cons ⟨_, T.x_InvalidWalk, (XcT.one T.x_InvalidWalk T.x_InvalidWalk.self)⟩ (.cons ⟨_, T.x_InvalidWeb, (XcT.one T.x_InvalidWalk T.s_InvalidWeb_InvalidWalk)⟩ .nil)) (se_var 2))) (se_cb rn_repr (sa_cons (se_lst (sa_cons se_str (sa_cons (se_xa (L := ["InvalidWalk"]) (.cons ⟨_, T.x_InvalidWalk, T.f_InvalidWalk⟩ .nil) (se_var 2)) sa_nil))) sa_nil)) (se_cb rn_repr (sa_cons (se_lst (sa_cons se_str (sa_cons (se_xa (L := ["InvalidWeb"]) (.cons ⟨_, T.x_InvalidWeb, T.f_InvalidWeb⟩ .nil) (se_var 2)) sa_nil))) sa_nil))) (fun _ z => nomatch z)))))
theorem C__law_told (T : Tp P w K mg base ea) : Cal P w K mg base "_law_told" s__law_told ["_law_net", "_law_path_here"] 5 (spV K ea none 2 (fnM none 4 F__law_told)) := T.d__law_told.cal fun Fu => g__law_told T Fu
theorem c__law_right : FnScope ["_law_draws_here", "_law_net", "_law_far", "_law_row", "_law_long_here", "_law_path_here", "_law_before", "_law_due", "_law_thing", "_law_bad", "_law_y", "_law_place"] ["_law_draws_here"] (defScope s__law_right) := ⟨rfl, rfl, rfl, by decide +kernel, rfl, by decide +kernel, by decide +kernel⟩
def B__law_right_1 : Sl → SR := (sIf [1, 8] none (sTest (eOp2 neD (eUser none 2 (fnM none 4 F__law_told) (uCons (eVar 1) (uCons (eVar 8) uNil))) (eCall reprD (aCons (eLst (aCons (eC (.str "walk")) (aCons (eC .none) aNil))) aNil)))) (sRet [] none (eC (.bool false))) sNx)
def B__law_right_2 : Sl → SR := (sSq (sIf [1, 5, 9] none (sTest (eOp2 neD (eUser none 2 (fnM none 4 F__law_told) (uCons (eVar 1) (uCons (eOp2 addD (eVar 5) (eLst (aCons (eVar 9) (aCons (eC .none) aNil)))) uNil))) (eCall reprD (aCons (eLst (aCons (eC (.str "walk")) (aCons (eCall lenD (aCons (eVar 5) aNil)) aNil))) aNil)))) (sRet [] none (eC (.bool false))) sNx) (sIf [1, 5, 9] none (sAnd (sTest (eOp2 neD (eVar 9) (eOp2 ixD (eVar 5) (eOp1 negD (eC (.int 1)))))) (sTest (eOp2 neD (eUser none 2 (fnM none 4 F__law_told) (uCons (eVar 1) (uCons (eOp2 addD (eLst (aCons (eVar 9) aNil)) (eVar 5)) uNil))) (eCall reprD (aCons (eLst (aCons (eC (.str "walk")) (aCons (eC (.int 0)) aNil))) aNil))))) (sRet [] none (eC (.bool false))) sNx))
def B__law_right_3 : Sl → SR := (sIf [1, 5, 10] none (sTest (eOp2 neD (eUser none 2 (fnM none 4 F__law_told) (uCons (eVar 1) (uCons (eOp2 addD (eVar 5) (eLst (aCons (eVar 10) aNil))) uNil))) (eCall reprD (aCons (eLst (aCons (eC (.str "walk")) (aCons (eCall lenD (aCons (eVar 5) aNil)) aNil))) aNil)))) (sRet [] none (eC (.bool false))) sNx)
def B__law_right_4 : Sl → SR := (sIf [9, 11] none (sTest (eOp2 neD (eUser none 2 (fnM none 4 F__law_told) (uCons (eVar 9) (uCons (eC .none) uNil))) (eCall reprD (aCons (eLst (aCons (eC (.str "web")) (aCons (eVar 11) aNil))) aNil)))) (sRet [] none (eC (.bool false))) sNx)
def F__law_right : Sl → SR := (sSq (sAsg 1 [] (some 0) (eUser (some 0) 2 (fnM (some 0) 8 F__law_any_web) (uIo (uCons (eOp2 addD (eC (.int 1)) (eOp2 modD (eCall intD (aCons (eUser (some 0) 1 (fnM (some 0) 3 F__law_next) (uIo uNil)) aNil)) (eC (.int 8)))) uNil)))) (sSq (sAsg 2 [] (some 0) (eOp2 ixD (eLst (aCons (eC (.int 1)) (aCons (eC (.int 1)) (aCons (eOp2 powWD (eC (.int 10)) (eC (.int 5))) (aCons (eOp2 powWD (eC (.int 10)) (eC (.int 11))) aNil))))) (eOp2 modD (eCall intD (aCons (eUser (some 0) 1 (fnM (some 0) 3 F__law_next) (uIo uNil)) aNil)) (eC (.int 4))))) (sSq (sAsg 1 [1, 2, 3, 4] none (eLc none [3] (bN 3) (gIter (eVar 1)) sYes (eLc none [4] (bN 4) (gIter (eVar 3)) sYes (eIf (sTest (eOp2 isND (eVar 4) (eC .none))) (eC .none) (eOp2 mulD (eVar 4) (eVar 2)))))) (sSq (sAsg 5 [1] (some 0) (eUser (some 0) 2 (fnM (some 0) 6 F__law_path) (uIo (uCons (eVar 1) uNil)))) (sSq (sAsg 6 [1, 5] none (eCall reprD (aCons (eLst (aCons (eVar 1) (aCons (eVar 5) aNil))) aNil))) (sSq (sAsg 7 [1, 5] none (eUser none 2 (fnM none 4 F__law_long) (uCons (eVar 1) (uCons (eVar 5) uNil)))) (sSq (sIf [1, 5, 7] none (sTest (eOp2 neD (eCall reprD (aCons (eLst (aCons (eUser none 2 (fnM none 4 F_length_of) (uCons (eVar 1) (uCons (eVar 5) uNil))) (aCons (eUser none 2 (fnM none 4 F_length_of) (uPerm 2 [1, 0] (uCons (eVar 5) (uCons (eVar 1) uNil)))) aNil))) aNil)) (eCall reprD (aCons (eLst (aCons (eVar 7) (aCons (eVar 7) aNil))) aNil)))) (sRet [] none (eC (.bool false))) sNx) (sSq (sIf [1, 5, 6] none (sTest (eOp2 neD (eCall reprD (aCons (eLst (aCons (eVar 1) (aCons (eVar 5) aNil))) aNil)) (eVar 6))) (sRet [] none (eC (.bool false))) sNx) (sSq (sIf [1, 5] none (sTest (eOp2 neD (eUser none 2 (fnM none 4 F_length_of) (uCons (eVar 1) (uCons (eSl (eVar 5) none (some (eC (.int 1)))) uNil))) (eC (.int 0)))) (sRet [] none (eC (.bool false))) sNx) (sSq (sFor [5] none (gIter (eLst (aCons (eC .none) (aCons (eTup aNil) (aCons (eCall tupD (aCons (eVar 5) aNil)) (aCons (eLst aNil) (aCons eDic (aCons (eC (.str "")) (aCons (eC (.int 5)) aNil))))))))) (tgN 8) B__law_right_1) (sSq (sFor [1, 5] none (gIter (eLst (aCons (eCall lenD (aCons (eVar 1) aNil)) (aCons (eOp1 negD (eC (.int 1))) (aCons (eC .none) (aCons (eC (.bool true)) (aCons (eC (.str "0")) (aCons (eLst (aCons (eC (.int 0)) aNil)) (aCons (eTup (aCons (eC (.int 0)) aNil)) (aCons (eOp2 ixD (eVar 5) (eOp1 negD (eC (.int 1)))) aNil)))))))))) (tgN 9) B__law_right_2) (sSq (sFor [1, 5, 11] none (gIter (eLc none [11] (bN 11) (gArgs true rng1 (aCons (eCall lenD (aCons (eVar 1) aNil)) aNil)) (sTest (eOp2 isND (eOp2 ixD (eOp2 ixD (eVar 1) (eOp2 ixD (eVar 5) (eOp1 negD (eC (.int 1))))) (eVar 11)) (eC .none))) (eVar 11))) (tgN 10) B__law_right_3) (sSq (sFor [] (some 0) (gIter (eUser (some 0) 1 (fnM (some 0) 2 F__law_bad_webs) (uIo uNil))) (tgT [9, 11]) B__law_right_4) (sRet [] none (eC (.bool true))))))))))))))))
theorem g__law_right (T : Tp P w K mg base ea) {f : Addr} {fd : FuncData} (Fu : Fun K "_law_right" "_law_right" s__law_right f fd) : FnG P w K mg base 6 f fd ["_law_draws_here"] (spV K ea (some 0) 1 (fnM (some 0) 12 F__law_right)) := by
  have C__law_any_web := C__law_any_web T
  have C__law_path := C__law_path T
  have C__law_long := C__law_long T
  have C__law_bad_webs := C__law_bad_webs T
  have C_length_of := C_length_of T
  have C__law_told := C__law_told T
  have C__law_next := C__law_next T
  refine fng_v (k := 5) (io := (some 0)) Fu c__law_right rfl (by decide) (fun j z => by cases z; decide) fun cdv A outer s H E pvv hr hg => ?_
  have hu := hr.un64
  have hu2 := hr.un65
  have tk : Takes (cxOf (L2.CX P w) P w K mg base ["_law_draws_here", "_law_net", "_law_far", "_law_row", "_law_long_here", "_law_path_here", "_law_before", "_law_due", "_law_thing", "_law_bad", "_law_y", "_law_place"] "_law_right" (defScope s__law_right) f cdv A outer s H E) (fun cls d _ H => E cls d H) := takes_of rfl rfl rfl rfl
  refine ⟨_, (pss_cons (ps_set (i := 1) c__law_right.nd rfl (.inr rfl) (pe_ca C__law_any_web (hr.mono (by decide)) hg (fun σ => passAt tk σ) (by rfl) (pa_cons (pv 0) (pa_cons (pe_op (op_addK (K := K) rfl) pe_int (pe_op op_mod (pe_callTy call_int1 (by rfl) T.b_int bo_int (pa_cons (pe_ca C__law_next (hr.mono (by decide)) hg (fun σ => passAt tk σ) (by rfl) (pa_cons (pv 0) pa_nil)) pa_nil)) pe_int)) pa_nil)))) (pss_cons (ps_set (i := 2) c__law_right.nd rfl (.inr rfl) (pe_ix (ix_K (K := K) rfl) (pe_lst (pa_cons pe_int (pa_cons pe_int (pa_cons (pe_op op_powW pe_int pe_int) (pa_cons (pe_op op_powW pe_int pe_int) pa_nil))))) (pe_op op_mod (pe_callTy call_int1 (by rfl) T.b_int bo_int (pa_cons (pe_ca C__law_next (hr.mono (by decide)) hg (fun σ => passAt tk σ) (by rfl) (pa_cons (pv 0) pa_nil)) pa_nil)) pe_int) (fun _ _ => rfl))) (pss_cons (ps_set (i := 1) c__law_right.nd rfl (.inr rfl) (pe_lc rfl c__law_right.nd (pi_anyK (K := K) rfl (pv 1)) (blkOk_by (own := [("_law_row", 3)]) (by kernel_rfl)) (fun _ _ _ _ _ => (pg_name (i := 3) c__law_right.nd rfl (.inl rfl))) (fun _ _ _ _ _ => pts_nil) (fun _ _ _ _ _ => (pe_lc rfl c__law_right.nd (pi_anyK (K := K) rfl (pv 3)) (blkOk_by (own := [("_law_long_here", 4)]) (by kernel_rfl)) (fun _ _ _ _ _ => (pg_name (i := 4) c__law_right.nd rfl (.inl rfl))) (fun _ _ _ _ _ => pts_nil) (fun _ _ _ _ _ => (pe_ifExp (pt_cmpR op_isN (pv 4) pe_non (by first | rfl | exact nomark _)) pe_non (pe_op op_mulW (pv 4) (pv 2)))))))) (pss_cons (ps_set (i := 5) c__law_right.nd rfl (.inr rfl) (pe_ca C__law_path (hr.mono (by decide)) hg (fun σ => passAt tk σ) (by rfl) (pa_cons (pv 0) (pa_cons (pv 1) pa_nil)))) (pss_cons (ps_set (i := 6) c__law_right.nd rfl (.inl rfl) (pe_callB (call_reprK (K := K) rfl hg hu) (by rfl) T.b_repr bo_repr (pa_cons (pe_lst (pa_cons (pv 1) (pa_cons (pv 5) pa_nil))) pa_nil))) (pss_cons (ps_set (i := 7) c__law_right.nd rfl (.inl rfl) (pe_ca C__law_long (hr.mono (by decide)) hg (fun σ => passAt tk σ) (by rfl) (pa_cons (pv 1) (pa_cons (pv 5) pa_nil)))) (pss_cons (ps_if (pt_cmpR (op_neK (K := K) rfl hu) (pe_callB (call_reprK (K := K) rfl hg hu) (by rfl) T.b_repr bo_repr (pa_cons (pe_lst (pa_cons (pe_ca C_length_of (hr.mono (by decide)) hg (fun σ => passAt tk σ) (by rfl) (pa_cons (pv 1) (pa_cons (pv 5) pa_nil))) (pa_cons (pe_caW (n := 2) (π := [1, 0]) C_length_of (hr.mono (by decide)) hg (fun σ => passAt tk σ) (by rfl) (fun _ _ _ _ _ _ ws hl => match ws, hl with | [_, _], _ => rfl) (pk_cons (pv 5) (pk_cons (pv 1) pk_nil))) pa_nil))) pa_nil)) (pe_callB (call_reprK (K := K) rfl hg hu) (by rfl) T.b_repr bo_repr (pa_cons (pe_lst (pa_cons (pv 7) (pa_cons (pv 7) pa_nil))) pa_nil)) (by first | rfl | exact nomark _)) (pss_one (ps_ret pe_bl)) pss_nil) (pss_cons (ps_if (pt_cmpR (op_neK (K := K) rfl hu) (pe_callB (call_reprK (K := K) rfl hg hu) (by rfl) T.b_repr bo_repr (pa_cons (pe_lst (pa_cons (pv 1) (pa_cons (pv 5) pa_nil))) pa_nil)) (pv 6) (by first | rfl | exact nomark _)) (pss_one (ps_ret pe_bl)) pss_nil) (pss_cons (ps_if (pt_cmpR (op_neK (K := K) rfl hu) (pe_ca C_length_of (hr.mono (by decide)) hg (fun σ => passAt tk σ) (by rfl) (pa_cons (pv 1) (pa_cons (pe_slice (sl_K (K := K) rfl) (pv 5) po_none (po_some pe_int)) pa_nil))) pe_int (by first | rfl | exact nomark _)) (pss_one (ps_ret pe_bl)) pss_nil) (pss_cons (ps_for (passes_of rfl) rfl (pi_anyK (K := K) rfl (pe_lst (pa_cons pe_non (pa_cons (pe_tup pa_nil) (pa_cons (pe_callTy (call_tupK (K := K) rfl) (by rfl) T.b_tuple bo_tuple (pa_cons (pv 5) pa_nil)) (pa_cons (pe_lst pa_nil) (pa_cons pe_dnewK (pa_cons pe_str (pa_cons pe_int pa_nil))))))))) (pg_name (i := 8) c__law_right.nd rfl (.inl rfl)) (pss_one (ps_if (pt_cmpR (op_neK (K := K) rfl hu) (pe_ca C__law_told (hr.mono (by decide)) hg (fun σ => passAt tk σ) (by rfl) (pa_cons (pv 1) (pa_cons (pv 8) pa_nil))) (pe_callB (call_reprK (K := K) rfl hg hu) (by rfl) T.b_repr bo_repr (pa_cons (pe_lst (pa_cons pe_str (pa_cons pe_non pa_nil))) pa_nil)) (by first | rfl | exact nomark _)) (pss_one (ps_ret pe_bl)) pss_nil))) (pss_cons (ps_for (passes_of rfl) rfl (pi_anyK (K := K) rfl (pe_lst (pa_cons (pe_callB (call_lenK (K := K) rfl) (by rfl) T.b_len bo_len (pa_cons (pv 1) pa_nil)) (pa_cons (pe_un un_neg pe_int) (pa_cons pe_non (pa_cons pe_bl (pa_cons pe_str (pa_cons (pe_lst (pa_cons pe_int pa_nil)) (pa_cons (pe_tup (pa_cons pe_int pa_nil)) (pa_cons (pe_ix (ix_K (K := K) rfl) (pv 5) (pe_un un_neg pe_int) (fun _ _ => rfl)) pa_nil)))))))))) (pg_name (i := 9) c__law_right.nd rfl (.inl rfl)) (pss_cons (ps_if (pt_cmpR (op_neK (K := K) rfl hu) (pe_ca C__law_told (hr.mono (by decide)) hg (fun σ => passAt tk σ) (by rfl) (pa_cons (pv 1) (pa_cons (pe_op (op_addK (K := K) rfl) (pv 5) (pe_lst (pa_cons (pv 9) (pa_cons pe_non pa_nil)))) pa_nil))) (pe_callB (call_reprK (K := K) rfl hg hu) (by rfl) T.b_repr bo_repr (pa_cons (pe_lst (pa_cons pe_str (pa_cons (pe_callB (call_lenK (K := K) rfl) (by rfl) T.b_len bo_len (pa_cons (pv 5) pa_nil)) pa_nil))) pa_nil)) (by first | rfl | exact nomark _)) (pss_one (ps_ret pe_bl)) pss_nil) (pss_one (ps_if (PW.pt (pw_and (pt_cmpR (op_neK (K := K) rfl hu) (pv 9) (pe_ix (ix_K (K := K) rfl) (pv 5) (pe_un un_neg pe_int) (fun _ _ => rfl)) (by first | rfl | exact nomark _)) (pw_and1 (pt_cmpR (op_neK (K := K) rfl hu) (pe_ca C__law_told (hr.mono (by decide)) hg (fun σ => passAt tk σ) (by rfl) (pa_cons (pv 1) (pa_cons (pe_op (op_addK (K := K) rfl) (pe_lst (pa_cons (pv 9) pa_nil)) (pv 5)) pa_nil))) (pe_callB (call_reprK (K := K) rfl hg hu) (by rfl) T.b_repr bo_repr (pa_cons (pe_lst (pa_cons pe_str (pa_cons pe_int pa_nil))) pa_nil)) (by first | rfl | exact nomark _))))) (pss_one (ps_ret pe_bl)) pss_nil)))) (pss_cons (ps_for (passes_of rfl) rfl (pi_anyK (K := K) rfl (pe_lc rfl c__law_right.nd (pi_range1 (by rfl) T.b_range (pa_cons (pe_callB (call_lenK (K := K) rfl) (by rfl) T.b_len bo_len (pa_cons (pv 1) pa_nil)) pa_nil)) (blkOk_by (own := [("_law_place", 11)]) (by kernel_rfl)) (fun _ _ _ _ _ => (pg_name (i := 11) c__law_right.nd rfl (.inl rfl))) (fun _ _ _ _ _ => (pts_one (pt_cmpR op_isN (pe_ix (ix_K (K := K) rfl) (pe_ix (ix_K (K := K) rfl) (pv 1) (pe_ix (ix_K (K := K) rfl) (pv 5) (pe_un un_neg pe_int) (fun _ _ => rfl)) (fun _ _ => rfl)) (pv 11) (fun _ _ => rfl)) pe_non (by first | rfl | exact nomark _)))) (fun _ _ _ _ _ => (pv 11)))) (pg_name (i := 10) c__law_right.nd rfl (.inl rfl)) (pss_one (ps_if (pt_cmpR (op_neK (K := K) rfl hu) (pe_ca C__law_told (hr.mono (by decide)) hg (fun σ => passAt tk σ) (by rfl) (pa_cons (pv 1) (pa_cons (pe_op (op_addK (K := K) rfl) (pv 5) (pe_lst (pa_cons (pv 10) pa_nil))) pa_nil))) (pe_callB (call_reprK (K := K) rfl hg hu) (by rfl) T.b_repr bo_repr (pa_cons (pe_lst (pa_cons pe_str (pa_cons (pe_callB (call_lenK (K := K) rfl) (by rfl) T.b_len bo_len (pa_cons (pv 5) pa_nil)) pa_nil))) pa_nil)) (by first | rfl | exact nomark _)) (pss_one (ps_ret pe_bl)) pss_nil))) (pss_cons (ps_for (passes_of rfl) rfl (pi_anyK (K := K) rfl (pe_ca C__law_bad_webs (hr.mono (by decide)) hg (fun σ => passAt tk σ) (by rfl) (pa_cons (pv 0) pa_nil))) (pg_tupK (K := K) (n := 2) rfl rfl (pgs_cons (pg_name (i := 9) c__law_right.nd rfl (.inl rfl)) (pgs_cons (pg_name (i := 11) c__law_right.nd rfl (.inl rfl)) pgs_nil)) rfl rfl) (pss_one (ps_if (pt_cmpR (op_neK (K := K) rfl hu) (pe_ca C__law_told (hr.mono (by decide)) hg (fun σ => passAt tk σ) (by rfl) (pa_cons (pv 9) (pa_cons pe_non pa_nil))) (pe_callB (call_reprK (K := K) rfl hg hu) (by rfl) T.b_repr bo_repr (pa_cons (pe_lst (pa_cons pe_str (pa_cons (pv 11) pa_nil))) pa_nil)) (by first | rfl | exact nomark _)) (pss_one (ps_ret pe_bl)) pss_nil))) (pss_one (ps_ret pe_bl))))))))))))))), ?_⟩
  exact (ss_seq (ss_asg (se_user (su_io (su_cons (se_op rg_add se_int (se_op rg_mod (se_cb rn_int (sa_cons (se_user (su_io su_nil)) sa_nil)) se_int)) su_nil))) (fun j z => by cases z; rfl)) (ss_seq (ss_asg (se_op rg_ix (se_lst (sa_cons se_int (sa_cons se_int (sa_cons (se_op rg_powW se_int se_int) (sa_cons (se_op rg_powW se_int se_int) sa_nil))))) (se_op rg_mod (se_cb rn_int (sa_cons (se_user (su_io su_nil)) sa_nil)) se_int)) (fun j z => by cases z; rfl)) (ss_seq (ss_asg (se_lc (fun _ z => nomatch z) (sg_any (se_var 1)) (bg_name (by decide)) st_yes (se_lc (fun _ z => nomatch z) (sg_any (se_var 3)) (bg_name (by decide)) st_yes (se_if (st_test (se_op rg_isN (se_var 4) se_non)) se_non (se_op rg_mul (se_var 4) (se_var 2))))) (fun _ z => nomatch z)) (ss_seq (ss_asg (se_user (su_io (su_cons (se_var 1) su_nil))) (fun j z => by cases z; rfl)) (ss_seq (ss_asg (se_cb rn_repr (sa_cons (se_lst (sa_cons (se_var 1) (sa_cons (se_var 5) sa_nil))) sa_nil)) (fun _ z => nomatch z)) (ss_seq (ss_asg (se_user (su_cons (se_var 1) (su_cons (se_var 5) su_nil))) (fun _ z => nomatch z)) (ss_seq (ss_if (st_test (se_op rg_ne (se_cb rn_repr (sa_cons (se_lst (sa_cons (se_user (su_cons (se_var 1) (su_cons (se_var 5) su_nil))) (sa_cons (se_user (su_perm (su_cons (se_var 5) (su_cons (se_var 1) su_nil)))) sa_nil))) sa_nil)) (se_cb rn_repr (sa_cons (se_lst (sa_cons (se_var 7) (sa_cons (se_var 7) sa_nil))) sa_nil)))) (fun _ z => nomatch z) (ss_ret se_bl (fun _ z => nomatch z)) ss_nx) (ss_seq (ss_if (st_test (se_op rg_ne (se_cb rn_repr (sa_cons (se_lst (sa_cons (se_var 1) (sa_cons (se_var 5) sa_nil))) sa_nil)) (se_var 6))) (fun _ z => nomatch z) (ss_ret se_bl (fun _ z => nomatch z)) ss_nx) (ss_seq (ss_if (st_test (se_op rg_ne (se_user (su_cons (se_var 1) (su_cons (se_sl (se_var 5) sp_none (sp_some se_int)) su_nil))) se_int)) (fun _ z => nomatch z) (ss_ret se_bl (fun _ z => nomatch z)) ss_nx) (ss_seq (ss_for (sg_any (se_lst (sa_cons se_non (sa_cons (se_tup sa_nil) (sa_cons (se_cb rn_tup (sa_cons (se_var 5) sa_nil)) (sa_cons (se_lst sa_nil) (sa_cons se_dnew (sa_cons se_str (sa_cons se_int sa_nil))))))))) (fun _ z => nomatch z) tg_name (ss_if (st_test (se_op rg_ne (se_user (su_cons (se_var 1) (su_cons (se_var 8) su_nil))) (se_cb rn_repr (sa_cons (se_lst (sa_cons se_str (sa_cons se_non sa_nil))) sa_nil)))) (fun _ z => nomatch z) (ss_ret se_bl (fun _ z => nomatch z)) ss_nx)) (ss_seq (ss_for (sg_any (se_lst (sa_cons (se_cb rn_len (sa_cons (se_var 1) sa_nil)) (sa_cons (se_un rg_neg se_int) (sa_cons se_non (sa_cons se_bl (sa_cons se_str (sa_cons (se_lst (sa_cons se_int sa_nil)) (sa_cons (se_tup (sa_cons se_int sa_nil)) (sa_cons (se_op rg_ix (se_var 5) (se_un rg_neg se_int)) sa_nil)))))))))) (fun _ z => nomatch z) tg_name (ss_seq (ss_if (st_test (se_op rg_ne (se_user (su_cons (se_var 1) (su_cons (se_op rg_add (se_var 5) (se_lst (sa_cons (se_var 9) (sa_cons se_non sa_nil)))) su_nil))) (se_cb rn_repr (sa_cons (se_lst (sa_cons se_str (sa_cons (se_cb rn_len (sa_cons (se_var 5) sa_nil)) sa_nil))) sa_nil)))) (fun _ z => nomatch z) (ss_ret se_bl (fun _ z => nomatch z)) ss_nx) (ss_if (st_and (st_test (se_op rg_ne (se_var 9) (se_op rg_ix (se_var 5) (se_un rg_neg se_int)))) (st_test (se_op rg_ne (se_user (su_cons (se_var 1) (su_cons (se_op rg_add (se_lst (sa_cons (se_var 9) sa_nil)) (se_var 5)) su_nil))) (se_cb rn_repr (sa_cons (se_lst (sa_cons se_str (sa_cons se_int sa_nil))) sa_nil))))) (fun _ z => nomatch z) (ss_ret se_bl (fun _ z => nomatch z)) ss_nx))) (ss_seq (ss_for (sg_any (se_lc (fun _ z => nomatch z) (sg_rng1 (sa_cons (se_cb rn_len (sa_cons (se_var 1) sa_nil)) sa_nil)) (bg_name (by decide)) (st_test (se_op rg_isN (se_op rg_ix (se_op rg_ix (se_var 1) (se_op rg_ix (se_var 5) (se_un rg_neg se_int))) (se_var 11)) se_non)) (se_var 11))) (fun _ z => nomatch z) tg_name (ss_if (st_test (se_op rg_ne (se_user (su_cons (se_var 1) (su_cons (se_op rg_add (se_var 5) (se_lst (sa_cons (se_var 10) sa_nil))) su_nil))) (se_cb rn_repr (sa_cons (se_lst (sa_cons se_str (sa_cons (se_cb rn_len (sa_cons (se_var 5) sa_nil)) sa_nil))) sa_nil)))) (fun _ z => nomatch z) (ss_ret se_bl (fun _ z => nomatch z)) ss_nx)) (ss_seq (ss_for (sg_any (se_user (su_io su_nil))) (fun j z => by cases z; rfl) (tg_tup (is := [9, 11])) (ss_if (st_test (se_op rg_ne (se_user (su_cons (se_var 9) (su_cons se_non su_nil))) (se_cb rn_repr (sa_cons (se_lst (sa_cons se_str (sa_cons (se_var 11) sa_nil))) sa_nil)))) (fun _ z => nomatch z) (ss_ret se_bl (fun _ z => nomatch z)) ss_nx)) (ss_ret se_bl (fun _ z => nomatch z)))))))))))))))
theorem C__law_right (T : Tp P w K mg base ea) : Cal P w K mg base "_law_right" s__law_right ["_law_draws_here"] 6 (spV K ea (some 0) 1 (fnM (some 0) 12 F__law_right)) := T.d__law_right.cal fun Fu => g__law_right T Fu
theorem c_law : FnScope ["_law_script", "_law_cell", "_law_draws_here", "_law_turn"] ["_law_script"] (defScope s_law) := ⟨rfl, rfl, rfl, by decide +kernel, rfl, by decide +kernel, by decide +kernel⟩
def B_law_1 : Sl → SR := (sIf [] (some 2) (sNot (sTru (eUser (some 0) 1 (fnM (some 0) 12 F__law_right) (uIo uNil)))) (sRet [] none (eC (.bool false))) sNx)
def B_law_2 : Sl → SR := (sSq (sAsg 2 [1] none (eUser none 1 (fnM none 1 F__law_draws) (uCons (eVar 1) uNil))) (sFor [] none (gArgs true rng1 (aCons (eC (.int 3)) aNil)) (tgN 3) B_law_1))
def F_law : Sl → SR := (sSq (sFor [0] none (gIter (eOp2 addD (eSl (eVar 0) none (some (eC (.int 6)))) (eLst (aCons (eC (.int 0)) aNil)))) (tgN 1) B_law_2) (sRet [] none (eC (.bool true))))
theorem g_law (T : Tp P w K mg base ea) {f : Addr} {fd : FuncData} (Fu : Fun K "law" "law" s_law f fd) : FnG P w K mg base 7 f fd ["_law_script"] (spV K ea none 1 (fnM none 4 F_law)) := by
  have C__law_draws := C__law_draws T
  have C__law_right := C__law_right T
  refine fng_v (k := 6) (io := none) Fu c_law rfl (by decide) (fun _ z => nomatch z) fun cdv A outer s H E pvv hr hg => ?_
  have hu := hr.un64
  have hu2 := hr.un65
  have tk : Takes (cxOf (L2.CX P w) P w K mg base ["_law_script", "_law_cell", "_law_draws_here", "_law_turn"] "law" (defScope s_law) f cdv A outer s H E) (fun cls d _ H => E cls d H) := takes_of rfl rfl rfl rfl
  refine ⟨_, (pss_cons (ps_for (passes_of rfl) rfl (pi_anyK (K := K) rfl (pe_op (op_addK (K := K) rfl) (pe_slice (sl_K (K := K) rfl) (pv 0) po_none (po_some pe_int)) (pe_lst (pa_cons pe_int pa_nil)))) (pg_name (i := 1) c_law.nd rfl (.inl rfl)) (pss_cons (ps_set (i := 2) c_law.nd rfl (.inl rfl) (pe_ca C__law_draws (hr.mono (by decide)) hg (fun σ => passAt tk σ) (by rfl) (pa_cons (pv 1) pa_nil))) (pss_one (ps_for (passes_of rfl) rfl (pi_range1 (by rfl) T.b_range (pa_cons pe_int pa_nil)) (pg_name (i := 3) c_law.nd rfl (.inl rfl)) (pss_one (ps_if (pt_not (pt_truK (K := K) rfl (pe_ca C__law_right (hr.mono (by decide)) hg (fun σ => passAt tk σ) (by rfl) (pa_cons (pv 2) pa_nil)) (by intro _; rfl))) (pss_one (ps_ret pe_bl)) pss_nil)))))) (pss_one (ps_ret pe_bl))), ?_⟩
  exact (ss_seq (ss_for (sg_any (se_op rg_add (se_sl (se_var 0) sp_none (sp_some se_int)) (se_lst (sa_cons se_int sa_nil)))) (fun _ z => nomatch z) tg_name (ss_seq (ss_asg (se_user (su_cons (se_var 1) su_nil)) (fun _ z => nomatch z)) (ss_for (sg_rng1 (sa_cons se_int sa_nil)) (fun _ z => nomatch z) tg_name (ss_if (st_not (st_truth (se_user (su_io su_nil)))) (fun j z => by cases z; rfl) (ss_ret se_bl (fun _ z => nomatch z)) ss_nx)))) (ss_ret se_bl (fun _ z => nomatch z)))
theorem C_law (T : Tp P w K mg base ea) : Cal P w K mg base "law" s_law ["_law_script"] 7 (spV K ea none 1 (fnM none 4 F_law)) := T.d_law.cal fun Fu => g_law T Fu
end
abbrev i_InvalidWeb : Stmt := (bodyOf (topS 1)).getD 0 (.Pass ⟨0, 0, 0, 0⟩)
theorem ci_InvalidWeb : FnScope ["self", "place"] ["self", "place"] (defScope i_InvalidWeb) := ⟨rfl, rfl, rfl, by decide +kernel, rfl, by decide +kernel, by decide +kernel⟩
theorem in_InvalidWeb {P : Program} {w : World} {K : Fg} {mg : Str → Option Value} {base : Heap} {fI : Addr} {fd : FuncData} (Fu : Fun K "__init__" "InvalidWeb.__init__" i_InvalidWeb fI fd) (hm : mg "ValueError" = none) (vV : PySem.W.findCls K (.type "ValueError") (.type "type") "__init__" = some (.val (.builtin "ValueError.__init__"))) : FnOk P w K mg base (L2.CX P w) 1 fI fd ["self", "place"] (spI K "place") :=
  Fu.okX ci_InvalidWeb spI_len fun cdv A outer s H vs Q E hr h => ⟨_, pss_cons (ps_expr (pe_veinit (by rfl) hm vV (pa_cons (pv 0) (pa_cons pe_str pa_nil)))) (pss_one (ps_ost (pv 0) (pv 1))), init_read h⟩
abbrev i_InvalidWalk : Stmt := (bodyOf (topS 2)).getD 0 (.Pass ⟨0, 0, 0, 0⟩)
theorem ci_InvalidWalk : FnScope ["self", "index"] ["self", "index"] (defScope i_InvalidWalk) := ⟨rfl, rfl, rfl, by decide +kernel, rfl, by decide +kernel, by decide +kernel⟩
theorem in_InvalidWalk {P : Program} {w : World} {K : Fg} {mg : Str → Option Value} {base : Heap} {fI : Addr} {fd : FuncData} (Fu : Fun K "__init__" "InvalidWalk.__init__" i_InvalidWalk fI fd) (hm : mg "ValueError" = none) (vV : PySem.W.findCls K (.type "ValueError") (.type "type") "__init__" = some (.val (.builtin "ValueError.__init__"))) : FnOk P w K mg base (L2.CX P w) 1 fI fd ["self", "index"] (spI K "index") :=
  Fu.okX ci_InvalidWalk spI_len fun cdv A outer s H vs Q E hr h => ⟨_, pss_cons (ps_expr (pe_veinit (by rfl) hm vV (pa_cons (pv 0) (pa_cons pe_str pa_nil)))) (pss_one (ps_ost (pv 0) (pv 1))), init_read h⟩
def Want : Prop := ∀ ns : List Int, ns.length ≤ 63 → (∀ z ∈ ns, Builtin.Int.intBits z ≤ 1048576) → ∃ m μ, fnM none 4 F_law [some (.list (ns.map PyData.int))] none = .ok m (.bool true) μ
theorem law_mk (want : Want) {P : Program} {w : World} {K : Fg} {h : Heap} {mg : Str → Option Value} {fa : Addr} (X : K.In h) (G : h.Ns mainGlobals mg) (hfa : mg "law" = some (.ref fa))
    {C_InvalidWeb : Addr} {nm_InvalidWeb q_InvalidWeb : Str} {N_InvalidWeb : Addr} {bs_InvalidWeb : List Value} {sn_InvalidWeb : List Str} {sub_InvalidWeb : List Value} {ab_InvalidWeb : Bool} {col_InvalidWeb : Option Bool} {dd_InvalidWeb : Option Addr} {m0_InvalidWeb m1_InvalidWeb m2_InvalidWeb m3_InvalidWeb m5_InvalidWeb : Option Value}
    {f_InvalidWeb : Addr} {oc_InvalidWeb kV_InvalidWeb doc_InvalidWeb pm_InvalidWeb cd_InvalidWeb ct_InvalidWeb : Value} {od_InvalidWeb an_InvalidWeb : Option Addr} {sl_InvalidWeb : Array (Option Value)}
    {C_InvalidWalk : Addr} {nm_InvalidWalk q_InvalidWalk : Str} {N_InvalidWalk : Addr} {bs_InvalidWalk : List Value} {sn_InvalidWalk : List Str} {sub_InvalidWalk : List Value} {ab_InvalidWalk : Bool} {col_InvalidWalk : Option Bool} {dd_InvalidWalk : Option Addr} {m0_InvalidWalk m1_InvalidWalk m2_InvalidWalk m3_InvalidWalk m5_InvalidWalk : Option Value}
    {f_InvalidWalk : Addr} {oc_InvalidWalk kV_InvalidWalk doc_InvalidWalk pm_InvalidWalk cd_InvalidWalk ct_InvalidWalk : Value} {od_InvalidWalk an_InvalidWalk : Option Addr} {sl_InvalidWalk : Array (Option Value)}
    {cd_InvalidWalkX : ClassData}
    {cd_InvalidWebX : ClassData}
    {f_is_whole : Addr} {oc_is_whole kV_is_whole doc_is_whole pm_is_whole cd_is_whole ct_is_whole : Value} {od_is_whole an_is_whole : Option Addr} {sl_is_whole : Array (Option Value)}
    {f_is_place : Addr} {oc_is_place kV_is_place doc_is_place pm_is_place cd_is_place ct_is_place : Value} {od_is_place an_is_place : Option Addr} {sl_is_place : Array (Option Value)}
    {f_has_edge : Addr} {oc_has_edge kV_has_edge doc_has_edge pm_has_edge cd_has_edge ct_has_edge : Value} {od_has_edge an_has_edge : Option Addr} {sl_has_edge : Array (Option Value)}
    {f_check_web : Addr} {oc_check_web kV_check_web doc_check_web pm_check_web cd_check_web ct_check_web : Value} {od_check_web an_check_web : Option Addr} {sl_check_web : Array (Option Value)}
    {f__is_row : Addr} {oc__is_row kV__is_row doc__is_row pm__is_row cd__is_row ct__is_row : Value} {od__is_row an__is_row : Option Addr} {sl__is_row : Array (Option Value)}
    {f_check_walk : Addr} {oc_check_walk kV_check_walk doc_check_walk pm_check_walk cd_check_walk ct_check_walk : Value} {od_check_walk an_check_walk : Option Addr} {sl_check_walk : Array (Option Value)}
    {f_length_of : Addr} {oc_length_of kV_length_of doc_length_of pm_length_of cd_length_of ct_length_of : Value} {od_length_of an_length_of : Option Addr} {sl_length_of : Array (Option Value)}
    {f__law_draws : Addr} {oc__law_draws kV__law_draws doc__law_draws pm__law_draws cd__law_draws ct__law_draws : Value} {od__law_draws an__law_draws : Option Addr} {sl__law_draws : Array (Option Value)}
    {f__law_next : Addr} {oc__law_next kV__law_next doc__law_next pm__law_next cd__law_next ct__law_next : Value} {od__law_next an__law_next : Option Addr} {sl__law_next : Array (Option Value)}
    {f__law_any_web : Addr} {oc__law_any_web kV__law_any_web doc__law_any_web pm__law_any_web cd__law_any_web ct__law_any_web : Value} {od__law_any_web an__law_any_web : Option Addr} {sl__law_any_web : Array (Option Value)}
    {f__law_steps : Addr} {oc__law_steps kV__law_steps doc__law_steps pm__law_steps cd__law_steps ct__law_steps : Value} {od__law_steps an__law_steps : Option Addr} {sl__law_steps : Array (Option Value)}
    {f__law_long : Addr} {oc__law_long kV__law_long doc__law_long pm__law_long cd__law_long ct__law_long : Value} {od__law_long an__law_long : Option Addr} {sl__law_long : Array (Option Value)}
    {f__law_bad_webs : Addr} {oc__law_bad_webs kV__law_bad_webs doc__law_bad_webs pm__law_bad_webs cd__law_bad_webs ct__law_bad_webs : Value} {od__law_bad_webs an__law_bad_webs : Option Addr} {sl__law_bad_webs : Array (Option Value)}
    {f__law_told : Addr} {oc__law_told kV__law_told doc__law_told pm__law_told cd__law_told ct__law_told : Value} {od__law_told an__law_told : Option Addr} {sl__law_told : Array (Option Value)}
    {f__law_path : Addr} {oc__law_path kV__law_path doc__law_path pm__law_path cd__law_path ct__law_path : Value} {od__law_path an__law_path : Option Addr} {sl__law_path : Array (Option Value)}
    {f__law_right : Addr} {oc__law_right kV__law_right doc__law_right pm__law_right cd__law_right ct__law_right : Value} {od__law_right an__law_right : Option Addr} {sl__law_right : Array (Option Value)}
    {f_law : Addr} {oc_law kV_law doc_law pm_law cd_law ct_law : Value} {od_law an_law : Option Addr} {sl_law : Array (Option Value)}
    (z_ValueError : PySem.W.nsIn K mainGlobals "ValueError" = some none)
    (z_bool : PySem.W.nsIn K mainGlobals "bool" = some none)
    (z_enumerate : PySem.W.nsIn K mainGlobals "enumerate" = some none)
    (z_int : PySem.W.nsIn K mainGlobals "int" = some none)
    (z_isinstance : PySem.W.nsIn K mainGlobals "isinstance" = some none)
    (z_len : PySem.W.nsIn K mainGlobals "len" = some none)
    (z_list : PySem.W.nsIn K mainGlobals "list" = some none)
    (z_range : PySem.W.nsIn K mainGlobals "range" = some none)
    (z_repr : PySem.W.nsIn K mainGlobals "repr" = some none)
    (z_sum : PySem.W.nsIn K mainGlobals "sum" = some none)
    (z_tuple : PySem.W.nsIn K mainGlobals "tuple" = some none)
    (z_zip : PySem.W.nsIn K mainGlobals "zip" = some none)
    (zVE : PySem.W.nsIn K mainGlobals "ValueError" = some none) (vVE : PySem.W.findCls K (.type "ValueError") (.type "type") "__init__" = some (.val (.builtin "ValueError.__init__")))
    (g_InvalidWeb : PySem.W.nsIn K mainGlobals "InvalidWeb" = some (some (.ref C_InvalidWeb))) (x_InvalidWeb : K.lookup C_InvalidWeb = some (excClassObj nm_InvalidWeb q_InvalidWeb C_InvalidWeb N_InvalidWeb bs_InvalidWeb [.type "ValueError", .type "Exception", .type "BaseException", .type "object"] true sn_InvalidWeb sub_InvalidWeb ab_InvalidWeb col_InvalidWeb dd_InvalidWeb m0_InvalidWeb m1_InvalidWeb m2_InvalidWeb m3_InvalidWeb m5_InvalidWeb "ValueError.__new__"))
    (sa_InvalidWeb : PySem.W.findIn K (.ref C_InvalidWeb) "__setattr__" = some (some (.builtin "object.__setattr__"))) (no_InvalidWeb : PySem.W.findIn K (.ref C_InvalidWeb) "place" = some none) (ex_InvalidWeb : PySem.W.subIn K (.ref C_InvalidWeb) (.type "BaseException") = some true) (ty_InvalidWeb : PySem.W.typeIn K (.ref C_InvalidWeb) = some (.type "type")) (kc_InvalidWeb : PySem.W.keepIn K (.ref C_InvalidWeb) = true)
    (a_InvalidWeb : PySem.W.findIn K (.ref C_InvalidWeb) "__init__" = some (some (.ref f_InvalidWeb))) (l_InvalidWeb : K.lookup f_InvalidWeb = some ⟨oc_InvalidWeb, od_InvalidWeb, .func (PySem.W.fnOf "__init__" "InvalidWeb.__init__" (defArgs i_InvalidWeb) (defBody i_InvalidWeb) (defScope i_InvalidWeb) .none kV_InvalidWeb doc_InvalidWeb pm_InvalidWeb an_InvalidWeb cd_InvalidWeb ct_InvalidWeb), sl_InvalidWeb⟩) (c_InvalidWeb : PySem.W.codeIn K cd_InvalidWeb "InvalidWeb.__init__" = true) (k_InvalidWeb : PySem.W.keepIn K (.ref f_InvalidWeb) = true)
    (ti_InvalidWeb : PySem.W.typeIn K (.ref f_InvalidWeb) = some (.type "function"))
    (g_InvalidWalk : PySem.W.nsIn K mainGlobals "InvalidWalk" = some (some (.ref C_InvalidWalk))) (x_InvalidWalk : K.lookup C_InvalidWalk = some (excClassObj nm_InvalidWalk q_InvalidWalk C_InvalidWalk N_InvalidWalk bs_InvalidWalk [.type "ValueError", .type "Exception", .type "BaseException", .type "object"] true sn_InvalidWalk sub_InvalidWalk ab_InvalidWalk col_InvalidWalk dd_InvalidWalk m0_InvalidWalk m1_InvalidWalk m2_InvalidWalk m3_InvalidWalk m5_InvalidWalk "ValueError.__new__"))
    (sa_InvalidWalk : PySem.W.findIn K (.ref C_InvalidWalk) "__setattr__" = some (some (.builtin "object.__setattr__"))) (no_InvalidWalk : PySem.W.findIn K (.ref C_InvalidWalk) "index" = some none) (ex_InvalidWalk : PySem.W.subIn K (.ref C_InvalidWalk) (.type "BaseException") = some true) (ty_InvalidWalk : PySem.W.typeIn K (.ref C_InvalidWalk) = some (.type "type")) (kc_InvalidWalk : PySem.W.keepIn K (.ref C_InvalidWalk) = true)
    (a_InvalidWalk : PySem.W.findIn K (.ref C_InvalidWalk) "__init__" = some (some (.ref f_InvalidWalk))) (l_InvalidWalk : K.lookup f_InvalidWalk = some ⟨oc_InvalidWalk, od_InvalidWalk, .func (PySem.W.fnOf "__init__" "InvalidWalk.__init__" (defArgs i_InvalidWalk) (defBody i_InvalidWalk) (defScope i_InvalidWalk) .none kV_InvalidWalk doc_InvalidWalk pm_InvalidWalk an_InvalidWalk cd_InvalidWalk ct_InvalidWalk), sl_InvalidWalk⟩) (c_InvalidWalk : PySem.W.codeIn K cd_InvalidWalk "InvalidWalk.__init__" = true) (k_InvalidWalk : PySem.W.keepIn K (.ref f_InvalidWalk) = true)
    (ti_InvalidWalk : PySem.W.typeIn K (.ref f_InvalidWalk) = some (.type "function"))
    (ga_InvalidWalk : PySem.W.findIn K (.ref C_InvalidWalk) "__getattribute__" = some (some (.builtin "BaseException.__getattribute__"))) (gg_InvalidWalk : PySem.W.findIn K (.ref C_InvalidWalk) "__getattr__" = some none) (hd_InvalidWalk : PySem.W.hasDictIn K C_InvalidWalk = true) (cl_InvalidWalk : PySem.W.clsIn K C_InvalidWalk = some cd_InvalidWalkX) (ca_InvalidWalk : PySem.W.findIn K (.ref C_InvalidWalk) "__class__" = some (some (.builtin "object.__class__"))) (cm_InvalidWalk : PySem.W.mroIn K C_InvalidWalk (.type "object") = some true) (se_InvalidWalk : PySem.W.subIn K (.ref C_InvalidWalk) (.ref C_InvalidWalk) = some true) (sn_InvalidWalkX : PySem.W.subIn K (.type "NoneType") (.ref C_InvalidWalk) = some false)
    (s_InvalidWalk_InvalidWeb : PySem.W.subIn K (.ref C_InvalidWalk) (.ref C_InvalidWeb) = some false)
    (sb_InvalidWalk_ValueError : PySem.W.subIn K (.ref C_InvalidWalk) (.type "ValueError") = some true)
    (ga_InvalidWeb : PySem.W.findIn K (.ref C_InvalidWeb) "__getattribute__" = some (some (.builtin "BaseException.__getattribute__"))) (gg_InvalidWeb : PySem.W.findIn K (.ref C_InvalidWeb) "__getattr__" = some none) (hd_InvalidWeb : PySem.W.hasDictIn K C_InvalidWeb = true) (cl_InvalidWeb : PySem.W.clsIn K C_InvalidWeb = some cd_InvalidWebX) (ca_InvalidWeb : PySem.W.findIn K (.ref C_InvalidWeb) "__class__" = some (some (.builtin "object.__class__"))) (cm_InvalidWeb : PySem.W.mroIn K C_InvalidWeb (.type "object") = some true) (se_InvalidWeb : PySem.W.subIn K (.ref C_InvalidWeb) (.ref C_InvalidWeb) = some true) (sn_InvalidWebX : PySem.W.subIn K (.type "NoneType") (.ref C_InvalidWeb) = some false)
    (s_InvalidWeb_InvalidWalk : PySem.W.subIn K (.ref C_InvalidWeb) (.ref C_InvalidWalk) = some false)
    (sb_InvalidWeb_ValueError : PySem.W.subIn K (.ref C_InvalidWeb) (.type "ValueError") = some true)
    (sn_ValueError : PySem.W.subIn K (.type "NoneType") (.type "ValueError") = some false)
    (xkn : PySem.W.specialIn K (.builtin "object.__class__") "__get__" = some (some (.builtin "getset_descriptor.__get__"))) (xkt : PySem.W.takesIn K (.builtin "object.__class__") = some true)
    (a_is_whole : PySem.W.nsIn K mainGlobals "is_whole" = some (some (.ref f_is_whole))) (l_is_whole : K.lookup f_is_whole = some ⟨oc_is_whole, od_is_whole, .func (PySem.W.fnOf "is_whole" "is_whole" (defArgs s_is_whole) (defBody s_is_whole) (defScope s_is_whole) .none kV_is_whole doc_is_whole pm_is_whole an_is_whole cd_is_whole ct_is_whole), sl_is_whole⟩) (c_is_whole : PySem.W.codeIn K cd_is_whole "is_whole" = true) (k_is_whole : PySem.W.keepIn K (.ref f_is_whole) = true)
    (a_is_place : PySem.W.nsIn K mainGlobals "is_place" = some (some (.ref f_is_place))) (l_is_place : K.lookup f_is_place = some ⟨oc_is_place, od_is_place, .func (PySem.W.fnOf "is_place" "is_place" (defArgs s_is_place) (defBody s_is_place) (defScope s_is_place) .none kV_is_place doc_is_place pm_is_place an_is_place cd_is_place ct_is_place), sl_is_place⟩) (c_is_place : PySem.W.codeIn K cd_is_place "is_place" = true) (k_is_place : PySem.W.keepIn K (.ref f_is_place) = true)
    (a_has_edge : PySem.W.nsIn K mainGlobals "has_edge" = some (some (.ref f_has_edge))) (l_has_edge : K.lookup f_has_edge = some ⟨oc_has_edge, od_has_edge, .func (PySem.W.fnOf "has_edge" "has_edge" (defArgs s_has_edge) (defBody s_has_edge) (defScope s_has_edge) .none kV_has_edge doc_has_edge pm_has_edge an_has_edge cd_has_edge ct_has_edge), sl_has_edge⟩) (c_has_edge : PySem.W.codeIn K cd_has_edge "has_edge" = true) (k_has_edge : PySem.W.keepIn K (.ref f_has_edge) = true)
    (a_check_web : PySem.W.nsIn K mainGlobals "check_web" = some (some (.ref f_check_web))) (l_check_web : K.lookup f_check_web = some ⟨oc_check_web, od_check_web, .func (PySem.W.fnOf "check_web" "check_web" (defArgs s_check_web) (defBody s_check_web) (defScope s_check_web) .none kV_check_web doc_check_web pm_check_web an_check_web cd_check_web ct_check_web), sl_check_web⟩) (c_check_web : PySem.W.codeIn K cd_check_web "check_web" = true) (k_check_web : PySem.W.keepIn K (.ref f_check_web) = true)
    (a__is_row : PySem.W.nsIn K mainGlobals "_is_row" = some (some (.ref f__is_row))) (l__is_row : K.lookup f__is_row = some ⟨oc__is_row, od__is_row, .func (PySem.W.fnOf "_is_row" "_is_row" (defArgs s__is_row) (defBody s__is_row) (defScope s__is_row) .none kV__is_row doc__is_row pm__is_row an__is_row cd__is_row ct__is_row), sl__is_row⟩) (c__is_row : PySem.W.codeIn K cd__is_row "_is_row" = true) (k__is_row : PySem.W.keepIn K (.ref f__is_row) = true)
    (a_check_walk : PySem.W.nsIn K mainGlobals "check_walk" = some (some (.ref f_check_walk))) (l_check_walk : K.lookup f_check_walk = some ⟨oc_check_walk, od_check_walk, .func (PySem.W.fnOf "check_walk" "check_walk" (defArgs s_check_walk) (defBody s_check_walk) (defScope s_check_walk) .none kV_check_walk doc_check_walk pm_check_walk an_check_walk cd_check_walk ct_check_walk), sl_check_walk⟩) (c_check_walk : PySem.W.codeIn K cd_check_walk "check_walk" = true) (k_check_walk : PySem.W.keepIn K (.ref f_check_walk) = true)
    (a_length_of : PySem.W.nsIn K mainGlobals "length_of" = some (some (.ref f_length_of))) (l_length_of : K.lookup f_length_of = some ⟨oc_length_of, od_length_of, .func (PySem.W.fnOf "length_of" "length_of" (defArgs s_length_of) (defBody s_length_of) (defScope s_length_of) .none kV_length_of doc_length_of pm_length_of an_length_of cd_length_of ct_length_of), sl_length_of⟩) (c_length_of : PySem.W.codeIn K cd_length_of "length_of" = true) (k_length_of : PySem.W.keepIn K (.ref f_length_of) = true)
    (a__law_draws : PySem.W.nsIn K mainGlobals "_law_draws" = some (some (.ref f__law_draws))) (l__law_draws : K.lookup f__law_draws = some ⟨oc__law_draws, od__law_draws, .func (PySem.W.fnOf "_law_draws" "_law_draws" (defArgs s__law_draws) (defBody s__law_draws) (defScope s__law_draws) .none kV__law_draws doc__law_draws pm__law_draws an__law_draws cd__law_draws ct__law_draws), sl__law_draws⟩) (c__law_draws : PySem.W.codeIn K cd__law_draws "_law_draws" = true) (k__law_draws : PySem.W.keepIn K (.ref f__law_draws) = true)
    (a__law_next : PySem.W.nsIn K mainGlobals "_law_next" = some (some (.ref f__law_next))) (l__law_next : K.lookup f__law_next = some ⟨oc__law_next, od__law_next, .func (PySem.W.fnOf "_law_next" "_law_next" (defArgs s__law_next) (defBody s__law_next) (defScope s__law_next) .none kV__law_next doc__law_next pm__law_next an__law_next cd__law_next ct__law_next), sl__law_next⟩) (c__law_next : PySem.W.codeIn K cd__law_next "_law_next" = true) (k__law_next : PySem.W.keepIn K (.ref f__law_next) = true)
    (a__law_any_web : PySem.W.nsIn K mainGlobals "_law_any_web" = some (some (.ref f__law_any_web))) (l__law_any_web : K.lookup f__law_any_web = some ⟨oc__law_any_web, od__law_any_web, .func (PySem.W.fnOf "_law_any_web" "_law_any_web" (defArgs s__law_any_web) (defBody s__law_any_web) (defScope s__law_any_web) .none kV__law_any_web doc__law_any_web pm__law_any_web an__law_any_web cd__law_any_web ct__law_any_web), sl__law_any_web⟩) (c__law_any_web : PySem.W.codeIn K cd__law_any_web "_law_any_web" = true) (k__law_any_web : PySem.W.keepIn K (.ref f__law_any_web) = true)
    (a__law_steps : PySem.W.nsIn K mainGlobals "_law_steps" = some (some (.ref f__law_steps))) (l__law_steps : K.lookup f__law_steps = some ⟨oc__law_steps, od__law_steps, .func (PySem.W.fnOf "_law_steps" "_law_steps" (defArgs s__law_steps) (defBody s__law_steps) (defScope s__law_steps) .none kV__law_steps doc__law_steps pm__law_steps an__law_steps cd__law_steps ct__law_steps), sl__law_steps⟩) (c__law_steps : PySem.W.codeIn K cd__law_steps "_law_steps" = true) (k__law_steps : PySem.W.keepIn K (.ref f__law_steps) = true)
    (a__law_long : PySem.W.nsIn K mainGlobals "_law_long" = some (some (.ref f__law_long))) (l__law_long : K.lookup f__law_long = some ⟨oc__law_long, od__law_long, .func (PySem.W.fnOf "_law_long" "_law_long" (defArgs s__law_long) (defBody s__law_long) (defScope s__law_long) .none kV__law_long doc__law_long pm__law_long an__law_long cd__law_long ct__law_long), sl__law_long⟩) (c__law_long : PySem.W.codeIn K cd__law_long "_law_long" = true) (k__law_long : PySem.W.keepIn K (.ref f__law_long) = true)
    (a__law_bad_webs : PySem.W.nsIn K mainGlobals "_law_bad_webs" = some (some (.ref f__law_bad_webs))) (l__law_bad_webs : K.lookup f__law_bad_webs = some ⟨oc__law_bad_webs, od__law_bad_webs, .func (PySem.W.fnOf "_law_bad_webs" "_law_bad_webs" (defArgs s__law_bad_webs) (defBody s__law_bad_webs) (defScope s__law_bad_webs) .none kV__law_bad_webs doc__law_bad_webs pm__law_bad_webs an__law_bad_webs cd__law_bad_webs ct__law_bad_webs), sl__law_bad_webs⟩) (c__law_bad_webs : PySem.W.codeIn K cd__law_bad_webs "_law_bad_webs" = true) (k__law_bad_webs : PySem.W.keepIn K (.ref f__law_bad_webs) = true)
    (a__law_told : PySem.W.nsIn K mainGlobals "_law_told" = some (some (.ref f__law_told))) (l__law_told : K.lookup f__law_told = some ⟨oc__law_told, od__law_told, .func (PySem.W.fnOf "_law_told" "_law_told" (defArgs s__law_told) (defBody s__law_told) (defScope s__law_told) .none kV__law_told doc__law_told pm__law_told an__law_told cd__law_told ct__law_told), sl__law_told⟩) (c__law_told : PySem.W.codeIn K cd__law_told "_law_told" = true) (k__law_told : PySem.W.keepIn K (.ref f__law_told) = true)
    (a__law_path : PySem.W.nsIn K mainGlobals "_law_path" = some (some (.ref f__law_path))) (l__law_path : K.lookup f__law_path = some ⟨oc__law_path, od__law_path, .func (PySem.W.fnOf "_law_path" "_law_path" (defArgs s__law_path) (defBody s__law_path) (defScope s__law_path) .none kV__law_path doc__law_path pm__law_path an__law_path cd__law_path ct__law_path), sl__law_path⟩) (c__law_path : PySem.W.codeIn K cd__law_path "_law_path" = true) (k__law_path : PySem.W.keepIn K (.ref f__law_path) = true)
    (a__law_right : PySem.W.nsIn K mainGlobals "_law_right" = some (some (.ref f__law_right))) (l__law_right : K.lookup f__law_right = some ⟨oc__law_right, od__law_right, .func (PySem.W.fnOf "_law_right" "_law_right" (defArgs s__law_right) (defBody s__law_right) (defScope s__law_right) .none kV__law_right doc__law_right pm__law_right an__law_right cd__law_right ct__law_right), sl__law_right⟩) (c__law_right : PySem.W.codeIn K cd__law_right "_law_right" = true) (k__law_right : PySem.W.keepIn K (.ref f__law_right) = true)
    (a_law : PySem.W.nsIn K mainGlobals "law" = some (some (.ref f_law))) (l_law : K.lookup f_law = some ⟨oc_law, od_law, .func (PySem.W.fnOf "law" "law" (defArgs s_law) (defBody s_law) (defScope s_law) .none kV_law doc_law pm_law an_law cd_law ct_law), sl_law⟩) (c_law : PySem.W.codeIn K cd_law "law" = true) (k_law : PySem.W.keepIn K (.ref f_law) = true)
    : ∃ (fd : FuncData) (sp : Sp), (∀ (s : Shared) (u : Value), BindsTo s fd ⟨[u], []⟩ [("_law_script", u)]) ∧ (∀ base : Heap, K.In base → base.Ns mainGlobals mg → FnG P w K mg base 7 fa fd ["_law_script"] sp) ∧
      ∀ (H : Hp) (a : Addr) (ns : List Int), ns.length ≤ 63 → (∀ z ∈ ns, Builtin.Int.intBits z ≤ 1048576) → SqL K H a (ns.map V.int) → sp [.ref a] H (fun v _ => v = .bl true) fun _ _ _ => False := by
  have q_InvalidWalk : eaOf mg "InvalidWalk" = C_InvalidWalk := by unfold eaOf; rw [PySem.W.mg_of X G g_InvalidWalk]
  have q_InvalidWeb : eaOf mg "InvalidWeb" = C_InvalidWeb := by unfold eaOf; rw [PySem.W.mg_of X G g_InvalidWeb]
  have T : ∀ base : Heap, Tp P w K mg base (eaOf mg) := fun base => {
    b_ValueError := PySem.W.mg_none_of X G z_ValueError,
    b_bool := PySem.W.mg_none_of X G z_bool,
    b_enumerate := PySem.W.mg_none_of X G z_enumerate,
    b_int := PySem.W.mg_none_of X G z_int,
    b_isinstance := PySem.W.mg_none_of X G z_isinstance,
    b_len := PySem.W.mg_none_of X G z_len,
    b_list := PySem.W.mg_none_of X G z_list,
    b_range := PySem.W.mg_none_of X G z_range,
    b_repr := PySem.W.mg_none_of X G z_repr,
    b_sum := PySem.W.mg_none_of X G z_sum,
    b_tuple := PySem.W.mg_none_of X G z_tuple,
    b_zip := PySem.W.mg_none_of X G z_zip,
    e_InvalidWeb := er_mk X G g_InvalidWeb x_InvalidWeb (by decide +kernel) sa_InvalidWeb no_InvalidWeb ex_InvalidWeb ty_InvalidWeb kc_InvalidWeb a_InvalidWeb ti_InvalidWeb l_InvalidWeb c_InvalidWeb k_InvalidWeb (fun _ _ _ _ _ _ us hl => match us, hl with | [_, _], _ => rfl) fun Fu => in_InvalidWeb Fu (PySem.W.mg_none_of X G zVE) vVE,
    e_InvalidWalk := er_mk X G g_InvalidWalk x_InvalidWalk (by decide +kernel) sa_InvalidWalk no_InvalidWalk ex_InvalidWalk ty_InvalidWalk kc_InvalidWalk a_InvalidWalk ti_InvalidWalk l_InvalidWalk c_InvalidWalk k_InvalidWalk (fun _ _ _ _ _ _ us hl => match us, hl with | [_, _], _ => rfl) fun Fu => in_InvalidWalk Fu (PySem.W.mg_none_of X G zVE) vVE,
    c_InvalidWalk := by rw [q_InvalidWalk]; exact PySem.W.mg_of X G g_InvalidWalk,
    x_InvalidWalk := by rw [q_InvalidWalk]; exact ⟨g_InvalidWalk, ga_InvalidWalk, gg_InvalidWalk, ex_InvalidWalk, hd_InvalidWalk, by rw [cl_InvalidWalk]; rfl, ty_InvalidWalk, ca_InvalidWalk, cm_InvalidWalk, se_InvalidWalk⟩,
    sn_InvalidWalk := by rw [q_InvalidWalk]; exact sn_InvalidWalkX,
    f_InvalidWalk := by rw [q_InvalidWalk]; exact no_InvalidWalk,
    s_InvalidWalk_InvalidWeb := by rw [q_InvalidWalk, q_InvalidWeb]; exact s_InvalidWalk_InvalidWeb,
    sb_InvalidWalk_ValueError := by rw [q_InvalidWalk]; exact sb_InvalidWalk_ValueError,
    c_InvalidWeb := by rw [q_InvalidWeb]; exact PySem.W.mg_of X G g_InvalidWeb,
    x_InvalidWeb := by rw [q_InvalidWeb]; exact ⟨g_InvalidWeb, ga_InvalidWeb, gg_InvalidWeb, ex_InvalidWeb, hd_InvalidWeb, by rw [cl_InvalidWeb]; rfl, ty_InvalidWeb, ca_InvalidWeb, cm_InvalidWeb, se_InvalidWeb⟩,
    sn_InvalidWeb := by rw [q_InvalidWeb]; exact sn_InvalidWebX,
    f_InvalidWeb := by rw [q_InvalidWeb]; exact no_InvalidWeb,
    s_InvalidWeb_InvalidWalk := by rw [q_InvalidWeb, q_InvalidWalk]; exact s_InvalidWeb_InvalidWalk,
    sb_InvalidWeb_ValueError := by rw [q_InvalidWeb]; exact sb_InvalidWeb_ValueError,
    sn_ValueError := sn_ValueError,
    xk := ⟨xkn, xkt⟩,
    d_is_whole := df_mk X G a_is_whole l_is_whole c_is_whole k_is_whole (fun _ _ _ _ _ _ us hl => match us, hl with | [_], _ => rfl),
    d_is_place := df_mk X G a_is_place l_is_place c_is_place k_is_place (fun _ _ _ _ _ _ us hl => match us, hl with | [_, _], _ => rfl),
    d_has_edge := df_mk X G a_has_edge l_has_edge c_has_edge k_has_edge (fun _ _ _ _ _ _ us hl => match us, hl with | [_, _, _], _ => rfl),
    d_check_web := df_mk X G a_check_web l_check_web c_check_web k_check_web (fun _ _ _ _ _ _ us hl => match us, hl with | [_], _ => rfl),
    d__is_row := df_mk X G a__is_row l__is_row c__is_row k__is_row (fun _ _ _ _ _ _ us hl => match us, hl with | [_, _, _], _ => rfl),
    d_check_walk := df_mk X G a_check_walk l_check_walk c_check_walk k_check_walk (fun _ _ _ _ _ _ us hl => match us, hl with | [_, _], _ => rfl),
    d_length_of := df_mk X G a_length_of l_length_of c_length_of k_length_of (fun _ _ _ _ _ _ us hl => match us, hl with | [_, _], _ => rfl),
    d__law_draws := df_mk X G a__law_draws l__law_draws c__law_draws k__law_draws (fun _ _ _ _ _ _ us hl => match us, hl with | [_], _ => rfl),
    d__law_next := df_mk X G a__law_next l__law_next c__law_next k__law_next (fun _ _ _ _ _ _ us hl => match us, hl with | [_], _ => rfl),
    d__law_any_web := df_mk X G a__law_any_web l__law_any_web c__law_any_web k__law_any_web (fun _ _ _ _ _ _ us hl => match us, hl with | [_, _], _ => rfl),
    d__law_steps := df_mk X G a__law_steps l__law_steps c__law_steps k__law_steps (fun _ _ _ _ _ _ us hl => match us, hl with | [_], _ => rfl),
    d__law_long := df_mk X G a__law_long l__law_long c__law_long k__law_long (fun _ _ _ _ _ _ us hl => match us, hl with | [_, _], _ => rfl),
    d__law_bad_webs := df_mk X G a__law_bad_webs l__law_bad_webs c__law_bad_webs k__law_bad_webs (fun _ _ _ _ _ _ us hl => match us, hl with | [_], _ => rfl),
    d__law_told := df_mk X G a__law_told l__law_told c__law_told k__law_told (fun _ _ _ _ _ _ us hl => match us, hl with | [_, _], _ => rfl),
    d__law_path := df_mk X G a__law_path l__law_path c__law_path k__law_path (fun _ _ _ _ _ _ us hl => match us, hl with | [_, _], _ => rfl),
    d__law_right := df_mk X G a__law_right l__law_right c__law_right k__law_right (fun _ _ _ _ _ _ us hl => match us, hl with | [_], _ => rfl),
    d_law := df_mk X G a_law l_law c_law k_law (fun _ _ _ _ _ _ us hl => match us, hl with | [_], _ => rfl) }
  have e := hfa.symm.trans (PySem.W.mg_of X G a_law)
  cases e
  have F := fun_mk (st := s_law) l_law c_law k_law
  exact ⟨_, spV K (eaOf mg) none 1 (fnM none 4 F_law), fun s u => .of_eq rfl, fun base _ _ => g_law (T base) F, fun H a ns hl hb hS => law_spV (Nat.le_trans hl (by decide)) hS (want ns hl hb)⟩
end K04
end
section
set_option Elab.async false
set_option linter.all false
set_option maxRecDepth 100000
set_option maxHeartbeats 2000000
namespace K04
open PySem PySem.Spec L2 VF
open PyProof.Rows hiding St
/-- the draws: what is left of the cell, how many, and whether the cell is a great one -/
def drD (A k : Int) (b : Bool) : D := .list [.int A, .int k, .bool b]
theorem v_draws (i : Int) : ∃ A k b, fnM none 1 F__law_draws [some (.int i)] none = .ok none (drD A k b) none :=
  ⟨i % (((10 : Int) ^ 60) ^ 60) ^ 4, 0, decide ((10 : Int) ^ 18 ≤ i), by kernel_rfl⟩
theorem v_next (A k : Int) (b : Bool) (hk : 0 ≤ k ∧ k ≤ 1000000) : ∃ v A', 0 ≤ v ∧ fnM (some 0) 3 F__law_next [none] (some (none, drD A k b)) = .ok none (.int v) (some (none, drD A' (k + 1) b)) := by
  cases b with
  | true => exact ⟨A % 1000000, A / 1000000, Int.emod_nonneg _ (by decide), by kernel_rfl⟩
  | false =>
    obtain ⟨k1, hk1⟩ : ∃ k1, k1 = k + 1 := ⟨_, rfl⟩
    obtain ⟨q, hq⟩ : ∃ q, q = k1 * k1 := ⟨_, rfl⟩
    have q1 : 0 ≤ q ∧ q ≤ 1000001 * 1000001 := by
      rw [hq]
      exact ⟨Int.mul_nonneg (by omega) (by omega), Int.mul_le_mul (by omega) (by omega) (by omega) (by omega)⟩
    obtain ⟨r, hr⟩ : ∃ r, r = A % 1000003 := ⟨_, rfl⟩
    have r1 : 0 ≤ r ∧ r < 1000003 := by rw [hr]; exact ⟨Int.emod_nonneg _ (by decide), Int.emod_lt_of_pos _ (by decide)⟩
    obtain ⟨n1, h1⟩ : ∃ n1, n1 = (r + q * 7919 + k1) * 48271 % 2147483629 := ⟨_, rfl⟩
    have n11 : 0 ≤ n1 ∧ n1 < 2147483629 := by rw [h1]; exact ⟨Int.emod_nonneg _ (by decide), Int.emod_lt_of_pos _ (by decide)⟩
    obtain ⟨n2, h2⟩ : ∃ n2, n2 = n1 * n1 % 2147483587 := ⟨_, rfl⟩
    have n21 : 0 ≤ n2 ∧ n2 < 2147483587 := by rw [h2]; exact ⟨Int.emod_nonneg _ (by decide), Int.emod_lt_of_pos _ (by decide)⟩
    refine ⟨n2 * (n2 + 2) % 2147483579 / 7, A, Int.ediv_nonneg (Int.emod_nonneg _ (by decide)) (by decide), fn_eq ?_⟩
    have c1 : cMulW k1 k1 = true := cMul_b (by omega) (by omega)
    have c2 : cMulW q 7919 = true := cMul_b (by omega) (by omega)
    have c3 : cMulW (r + q * 7919 + k1) 48271 = true := cMul_b (by omega) (by omega)
    have c4 : cMulW n1 n1 = true := cMul_b (by omega) (by omega)
    have c5 : cMulW n2 (n2 + 2) = true := cMul_b (by omega) (by omega)
    simp (disch := (first | assumption | (simp only [VF.owned_n, VF.owned_s, VF.scal_int, VF.scal_bool, VF.scal_str, VF.scal_none, VF.scal_list, VF.scal_tuple, VF.SZ, List.length_cons, List.length_nil, List.length_set, List.length_append, List.length_map, List.length_range, Int.reduceToNat, Int.reduceLE, Int.reduceLT, Nat.reduceAdd, Nat.reduceLT, Nat.reduceLeDiff, Nat.reduceEqDiff, Nat.zero_add, Nat.zero_lt_succ, Int.toNat_natCast, ne_eq, reduceCtorEq, not_false_eq_true]; done) | (simp only [VF.owned_n, VF.owned_s, VF.scal_int, VF.scal_bool, VF.scal_str, VF.scal_none, VF.scal_list, VF.scal_tuple, VF.SZ, List.length_cons, List.length_nil, List.length_set, List.length_append, List.length_map, List.length_range, Int.reduceToNat, Int.reduceLE, Int.reduceLT, Nat.reduceAdd, Nat.reduceLT, Nat.reduceLeDiff, Nat.reduceEqDiff, Nat.zero_add, Nat.zero_lt_succ, Int.toNat_natCast, ne_eq, reduceCtorEq, not_false_eq_true]; first | assumption | omega) | decide | omega)) only [VF.sSq_k, VF.srB_nx, VF.srB_rt, VF.srB_rz, VF.srB_bk, VF.srB_ct, VF.sIf_k, VF.tsB_ok, VF.tsB_rz, VF.sFor_k, VF.gsB_ok, VF.gsB_rz, VF.sDrop_k, VF.sRet_k, VF.sAsg_k, VF.sAsgT_k, VF.sRz_k, VF.esB_ok, VF.esB_rz, VF.put_int, VF.put_bool, VF.put_str, VF.put_none, VF.put_0, VF.put_listn, VF.put_list1, VF.put_tupn, VF.put_tup1, VF.sRetV_k, VF.retVK_ow, VF.retVK_fz, VF.sApp_k, VF.sAppK_k, VF.appD_k, VF.appK_n, VF.appK_s, VF.sAppV_k, VF.sAppVK_ow, VF.sAppVK_fz, VF.sSet_k, VF.sSetK_k, VF.setK_k, VF.setD_k, VF.setDK_n, VF.setDK_s, VF.sNx, VF.sBk, VF.sCt, VF.sTry_k, VF.tryK_nx, VF.drp_fz, VF.drp_no, VF.drp_ow, VF.excD_s, VF.excD_n, VF.lv0_exc, VF.isXD_none, List.map_cons, List.map_nil, VF.retR_rt, VF.retR_nx, VF.retR_rz, VF.retOf_0, VF.retOf_1, VF.retK_k, VF.arg0, VF.evS_0, VF.evS_1, VF.evSJ_k, VF.esK0_n, VF.esK0_s, VF.esK0_rz, VF.esK1_n, VF.esK1_s, VF.evT_0, VF.evT_1, VF.evTJ_k, VF.tsK0_k, VF.tsK0_rz, VF.tsK1_k, VF.evG_0, VF.evG_1, VF.evGJ_k, VF.gsK0_t, VF.gsK0_f, VF.gsK1_t, VF.frzF_cons, VF.frzF_nil, VF.envF_cons, VF.envF_nil, VF.fr1_false, VF.fr1_fz, VF.fr1_no, VF.fr1_ow, VF.en1_fz, VF.en1_no, VF.en1_ow, VF.en1_own, VF.erB_ok, VF.erB_rz, VF.arB_ok, VF.arB_rz, VF.irB_ok, VF.irB_rz, VF.trB_ok, VF.trB_rz, VF.obB_ok, VF.gaB_ok, VF.gaB_rz, VF.c1_k, VF.c2_k, VF.c2'_k, VF.c3_k, VF.c4_k, VF.c4'_k, VF.c5_k, VF.c6_k, VF.c7_k, VF.c8_k, VF.c9_k, VF.c10_k, VF.c11_k, VF.c11'_k, VF.c12_k, VF.c13_k, VF.c13'_k, VF.c13''_k, VF.c14_k, VF.c15_k, VF.c16_k, VF.c17_k, VF.c18_k, VF.c19_k, VF.c20_k, VF.c21_k, VF.c22_k, VF.c23_k, VF.c24_k, VF.c25_k, VF.k1_k, VF.k1'_k, VF.k2_k, VF.k3_k, VF.k4_k, VF.eVar_k, VF.varK_k, VF.eC_k, VF.eOp1_k, VF.eOp2_k, VF.erO_k, VF.eCall_k, VF.aNil_k, VF.aCons_k, VF.eLst_k, VF.eTup_k, VF.eIf_k, VF.eAnd_k, VF.eOr_k, VF.eNot_k, VF.andK_k, VF.orK_k, VF.notK_k, VF.eCh_k, VF.chK_k, VF.eBd_none, VF.eBd_some, VF.bdK_k, VF.eSl_k, VF.uNil_k, VF.uCons_k, VF.uIo_k, VF.uPerm_k, VF.permL, VF.eUser_k, VF.usrK_none, VF.usrK_some, VF.usrJ_k, eq_self, VF.sTest_k, VF.tBool_k, VF.sTru_k, VF.tTru_bool, VF.tTru_int, VF.tTru_list, VF.tTru_none, VF.sNot_k, VF.sAnd_k, VF.sOr_k, VF.sYes_k, VF.gIter_k, VF.gSeq_list, VF.gSeq_tuple, VF.gArgs_k, VF.gaK_k, VF.eLc_k, VF.lcK_k, VF.iiD_k, VF.icD_if, VF.ibD_k, VF.intD_int, VF.intD_bool, VF.addD_int, VF.negD_k, VF.cMod_k, VF.cDiv_k, VF.ixD_list, VF.ixD_tuple, VF.itD_k, VF.ixN_pos, VF.atI_pos, VF.lv0_int, VF.lv0_bool, VF.lv0_str, VF.lv0_none, VF.lv0_list, VF.lv0_tuple, VF.scal_int, VF.scal_bool, VF.scal_str, VF.scal_none, VF.scal_list, VF.scal_tuple, VF.neD_int, VF.eqD_int, VF.rng1_if, VF.rng2_if, VF.enumG_k, VF.zipG_k, Int.toNat_natCast, VF.notND_none, VF.notND_int, VF.notND_bool, VF.notND_str, VF.notND_list, VF.notND_tuple, VF.isND_none, VF.isND_int, VF.isND_list, VF.isND_tuple, VF.isND_exc, VF.eIsa_k, VF.lenD_list, VF.lenD_tuple, beq_self_eq_true, VF.slD_k, VF.cut_tail, VF.lzD_k, VF.wipeE, VF.lmin_nn, VF.up_n, VF.up_s, VF.lmin_ns, VF.lmin_sn, VF.lmin_ss, VF.owned_n, VF.owned_s, List.contains_cons, List.contains_nil, List.getElem?_cons_zero, List.getElem?_cons_succ, List.getElem?_nil, List.set_cons_zero, List.set_cons_succ, List.length_cons, List.length_nil, List.append_nil, List.cons_append, List.nil_append, List.replicate_succ, List.replicate_zero, Option.some.injEq, Bool.and_true, Bool.true_and, Bool.and_false, Bool.false_and, Bool.or_false, Bool.false_or, Bool.or_true, Bool.true_or, Bool.not_true, Bool.not_false, Nat.reduceBEq, Nat.reduceAdd, Nat.reduceSub, Nat.reduceLeDiff, Nat.reduceEqDiff, Nat.reduceLT, Int.reduceToNat, decide_true, decide_false, ↓reduceIte, reduceCtorEq, Bool.false_eq_true, Nat.zero_add, F__law_next, drD, ← hk1, ← hq, ← hr, ← h1, ← h2, c1, c2, c3, c4, c5]
/-! webs -/
def cellD : Option Int → D
  | some i => .int i
  | none => .none
theorem cellD_s {i : Int} : cellD (some i) = .int i := rfl
theorem cellD_n : cellD none = .none := rfl
def rowD (n : Nat) (f : Nat → Option Int) : D := .list ((List.range n).map fun y => cellD (f y))
def webD (n : Nat) (c : Nat → Nat → Option Int) : D := .list ((List.range n).map fun x => rowD n (c x))
/-- what stands at a place of row x -/
def okCell (lo hi : Int) (x y : Nat) (c : Option Int) : Prop := (x = y → c = some 0) ∧ ∀ i, c = some i → lo ≤ i ∧ i ≤ hi
def IsWeb (lo hi : Int) (n : Nat) (c : Nat → Nat → Option Int) : Prop := ∀ x y, x < n → y < n → okCell lo hi x y (c x y)
theorem v_any_row (A k : Int) (b : Bool) (n x : Nat) (W : Int) (hk : 0 ≤ k ∧ k ≤ 900000) (hn : n ≤ 8) (hW : 1 ≤ W ∧ W ≤ 4) (rows : List D) (s6 s7 : Slot) : ∃ f A' k' t6 t7, (∀ y, y < n → okCell (-3) 8 x y (f y)) ∧ k ≤ k' ∧ k' ≤ k + n ∧
    forR (tgN 6) B__law_any_web_1 (rngD 0 n)
      [.ow true none (drD A k b), .fz (.int n), .fz (.int W), .ow false none (.list rows), .fz (.int x), .ow false none (.list []), s6, s7] =
      .nx [.ow true none (drD A' k' b), .fz (.int n), .fz (.int W), .ow false none (.list rows), .fz (.int x), .ow false none (rowD n f), t6, t7] := by
  refine forR_to (b := tgN 6) (F := B__law_any_web_1) (ds := rngD 0 n) (fun i ρ => ∃ f A' k' t6 t7, (∀ y, y < i → okCell (-3) 8 x y (f y)) ∧ k ≤ k' ∧ k' ≤ k + i ∧ ρ = [.ow true none (drD A' k' b), .fz (.int n), .fz (.int W), .ow false none (.list rows), .fz (.int x), .ow false none (.list ((List.range i).map fun y => cellD (f y))), t6, t7])
    ⟨fun _ => none, A, k, s6, s7, fun y hy => absurd hy (Nat.not_lt_zero _), Int.le_refl _, by omega, rfl⟩ ?_ ?_
  · rintro i ρ d hd ⟨f, A', k', t6, t7, g1, g2, g3, rfl⟩
    obtain ⟨hi, rfl⟩ := rngD_get hd
    obtain ⟨v, A2, hv, e⟩ := v_next A' k' b ⟨by omega, by omega⟩
    have hi2 : i < 1000000 := by omega
    have step : ∀ c, okCell (-3) 8 x i c → ∃ (f' : Nat → Option Int) (A' k'' : Int) (t6 t7 : Slot), (∀ y, y < i + 1 → okCell (-3) 8 x y (f' y)) ∧ k ≤ k'' ∧ k'' ≤ k + (i + 1 : Nat) ∧
        [Slot.ow true none (drD A2 (k' + 1) b), .fz (.int n), .fz (.int W), .ow false none (.list rows), .fz (.int x), .ow false none (.list ((List.range i).map (fun y => cellD (f y)) ++ [cellD c])), .fz (.int (i : Nat)), .fz (.int v)] =
        [.ow true none (drD A' k'' b), .fz (.int n), .fz (.int W), .ow false none (.list rows), .fz (.int x), .ow false none (.list ((List.range (i + 1)).map fun y => cellD (f' y))), t6, t7] := by
      intro c hc
      refine ⟨updN f i c, A2, k' + 1, _, _, fun y hy => ?_, by omega, by omega, by rw [range_snoc]⟩
      by_cases z : y = i
      · subst z; rw [updN_same]; exact hc
      · rw [updN_ne z]; exact g1 y (by omega)
    by_cases hx : x = i
    · subst hx
      refine ⟨_, _, rfl, .inl ?_, step (some 0) ⟨fun _ => rfl, fun j hj => by cases hj; decide⟩⟩
      have q : ((x : Int) == (x : Int)) = true := by simp
      simp (disch := (first | assumption | (simp only [VF.owned_n, VF.owned_s, VF.scal_int, VF.scal_bool, VF.scal_str, VF.scal_none, VF.scal_list, VF.scal_tuple, VF.SZ, List.length_cons, List.length_nil, List.length_set, List.length_append, List.length_map, List.length_range, Int.reduceToNat, Int.reduceLE, Int.reduceLT, Nat.reduceAdd, Nat.reduceLT, Nat.reduceLeDiff, Nat.reduceEqDiff, Nat.zero_add, Nat.zero_lt_succ, Int.toNat_natCast, ne_eq, reduceCtorEq, not_false_eq_true]; done) | (simp only [VF.owned_n, VF.owned_s, VF.scal_int, VF.scal_bool, VF.scal_str, VF.scal_none, VF.scal_list, VF.scal_tuple, VF.SZ, List.length_cons, List.length_nil, List.length_set, List.length_append, List.length_map, List.length_range, Int.reduceToNat, Int.reduceLE, Int.reduceLT, Nat.reduceAdd, Nat.reduceLT, Nat.reduceLeDiff, Nat.reduceEqDiff, Nat.zero_add, Nat.zero_lt_succ, Int.toNat_natCast, ne_eq, reduceCtorEq, not_false_eq_true]; first | assumption | omega) | decide | omega)) only [VF.sSq_k, VF.srB_nx, VF.srB_rt, VF.srB_rz, VF.srB_bk, VF.srB_ct, VF.sIf_k, VF.tsB_ok, VF.tsB_rz, VF.sFor_k, VF.gsB_ok, VF.gsB_rz, VF.sDrop_k, VF.sRet_k, VF.sAsg_k, VF.sAsgT_k, VF.sRz_k, VF.esB_ok, VF.esB_rz, VF.put_int, VF.put_bool, VF.put_str, VF.put_none, VF.put_0, VF.put_listn, VF.put_list1, VF.put_tupn, VF.put_tup1, VF.sRetV_k, VF.retVK_ow, VF.retVK_fz, VF.sApp_k, VF.sAppK_k, VF.appD_k, VF.appK_n, VF.appK_s, VF.sAppV_k, VF.sAppVK_ow, VF.sAppVK_fz, VF.sSet_k, VF.sSetK_k, VF.setK_k, VF.setD_k, VF.setDK_n, VF.setDK_s, VF.sNx, VF.sBk, VF.sCt, VF.sTry_k, VF.tryK_nx, VF.drp_fz, VF.drp_no, VF.drp_ow, VF.excD_s, VF.excD_n, VF.lv0_exc, VF.isXD_none, List.map_cons, List.map_nil, VF.retR_rt, VF.retR_nx, VF.retR_rz, VF.retOf_0, VF.retOf_1, VF.retK_k, VF.arg0, VF.evS_0, VF.evS_1, VF.evSJ_k, VF.esK0_n, VF.esK0_s, VF.esK0_rz, VF.esK1_n, VF.esK1_s, VF.evT_0, VF.evT_1, VF.evTJ_k, VF.tsK0_k, VF.tsK0_rz, VF.tsK1_k, VF.evG_0, VF.evG_1, VF.evGJ_k, VF.gsK0_t, VF.gsK0_f, VF.gsK1_t, VF.frzF_cons, VF.frzF_nil, VF.envF_cons, VF.envF_nil, VF.fr1_false, VF.fr1_fz, VF.fr1_no, VF.fr1_ow, VF.en1_fz, VF.en1_no, VF.en1_ow, VF.en1_own, VF.erB_ok, VF.erB_rz, VF.arB_ok, VF.arB_rz, VF.irB_ok, VF.irB_rz, VF.trB_ok, VF.trB_rz, VF.obB_ok, VF.gaB_ok, VF.gaB_rz, VF.c1_k, VF.c2_k, VF.c2'_k, VF.c3_k, VF.c4_k, VF.c4'_k, VF.c5_k, VF.c6_k, VF.c7_k, VF.c8_k, VF.c9_k, VF.c10_k, VF.c11_k, VF.c11'_k, VF.c12_k, VF.c13_k, VF.c13'_k, VF.c13''_k, VF.c14_k, VF.c15_k, VF.c16_k, VF.c17_k, VF.c18_k, VF.c19_k, VF.c20_k, VF.c21_k, VF.c22_k, VF.c23_k, VF.c24_k, VF.c25_k, VF.k1_k, VF.k1'_k, VF.k2_k, VF.k3_k, VF.k4_k, VF.eVar_k, VF.varK_k, VF.eC_k, VF.eOp1_k, VF.eOp2_k, VF.erO_k, VF.eCall_k, VF.aNil_k, VF.aCons_k, VF.eLst_k, VF.eTup_k, VF.eIf_k, VF.eAnd_k, VF.eOr_k, VF.eNot_k, VF.andK_k, VF.orK_k, VF.notK_k, VF.eCh_k, VF.chK_k, VF.eBd_none, VF.eBd_some, VF.bdK_k, VF.eSl_k, VF.uNil_k, VF.uCons_k, VF.uIo_k, VF.uPerm_k, VF.permL, VF.eUser_k, VF.usrK_none, VF.usrK_some, VF.usrJ_k, eq_self, VF.sTest_k, VF.tBool_k, VF.sTru_k, VF.tTru_bool, VF.tTru_int, VF.tTru_list, VF.tTru_none, VF.sNot_k, VF.sAnd_k, VF.sOr_k, VF.sYes_k, VF.gIter_k, VF.gSeq_list, VF.gSeq_tuple, VF.gArgs_k, VF.gaK_k, VF.eLc_k, VF.lcK_k, VF.iiD_k, VF.icD_if, VF.ibD_k, VF.intD_int, VF.intD_bool, VF.addD_int, VF.negD_k, VF.cMod_k, VF.cDiv_k, VF.ixD_list, VF.ixD_tuple, VF.itD_k, VF.ixN_pos, VF.atI_pos, VF.lv0_int, VF.lv0_bool, VF.lv0_str, VF.lv0_none, VF.lv0_list, VF.lv0_tuple, VF.scal_int, VF.scal_bool, VF.scal_str, VF.scal_none, VF.scal_list, VF.scal_tuple, VF.neD_int, VF.eqD_int, VF.rng1_if, VF.rng2_if, VF.enumG_k, VF.zipG_k, Int.toNat_natCast, VF.notND_none, VF.notND_int, VF.notND_bool, VF.notND_str, VF.notND_list, VF.notND_tuple, VF.isND_none, VF.isND_int, VF.isND_list, VF.isND_tuple, VF.isND_exc, VF.eIsa_k, VF.lenD_list, VF.lenD_tuple, beq_self_eq_true, VF.slD_k, VF.cut_tail, VF.lzD_k, VF.wipeE, VF.lmin_nn, VF.up_n, VF.up_s, VF.lmin_ns, VF.lmin_sn, VF.lmin_ss, VF.owned_n, VF.owned_s, List.contains_cons, List.contains_nil, List.getElem?_cons_zero, List.getElem?_cons_succ, List.getElem?_nil, List.set_cons_zero, List.set_cons_succ, List.length_cons, List.length_nil, List.append_nil, List.cons_append, List.nil_append, List.replicate_succ, List.replicate_zero, Option.some.injEq, Bool.and_true, Bool.true_and, Bool.and_false, Bool.false_and, Bool.or_false, Bool.false_or, Bool.or_true, Bool.true_or, Bool.not_true, Bool.not_false, Nat.reduceBEq, Nat.reduceAdd, Nat.reduceSub, Nat.reduceLeDiff, Nat.reduceEqDiff, Nat.reduceLT, Int.reduceToNat, decide_true, decide_false, ↓reduceIte, reduceCtorEq, Bool.false_eq_true, Nat.zero_add, B__law_any_web_1, e, q, cellD_s, cellD_n]
    · have q : ((x : Int) == (i : Int)) = false := by simp; omega
      cases hb : decide (8 / W ≤ v % 8) with
      | true =>
        refine ⟨_, _, rfl, .inl ?_, step none ⟨fun z => absurd z hx, fun j hj => by cases hj⟩⟩
        simp (disch := (first | assumption | (simp only [VF.owned_n, VF.owned_s, VF.scal_int, VF.scal_bool, VF.scal_str, VF.scal_none, VF.scal_list, VF.scal_tuple, VF.SZ, List.length_cons, List.length_nil, List.length_set, List.length_append, List.length_map, List.length_range, Int.reduceToNat, Int.reduceLE, Int.reduceLT, Nat.reduceAdd, Nat.reduceLT, Nat.reduceLeDiff, Nat.reduceEqDiff, Nat.zero_add, Nat.zero_lt_succ, Int.toNat_natCast, ne_eq, reduceCtorEq, not_false_eq_true]; done) | (simp only [VF.owned_n, VF.owned_s, VF.scal_int, VF.scal_bool, VF.scal_str, VF.scal_none, VF.scal_list, VF.scal_tuple, VF.SZ, List.length_cons, List.length_nil, List.length_set, List.length_append, List.length_map, List.length_range, Int.reduceToNat, Int.reduceLE, Int.reduceLT, Nat.reduceAdd, Nat.reduceLT, Nat.reduceLeDiff, Nat.reduceEqDiff, Nat.zero_add, Nat.zero_lt_succ, Int.toNat_natCast, ne_eq, reduceCtorEq, not_false_eq_true]; first | assumption | omega) | decide | omega)) only [VF.sSq_k, VF.srB_nx, VF.srB_rt, VF.srB_rz, VF.srB_bk, VF.srB_ct, VF.sIf_k, VF.tsB_ok, VF.tsB_rz, VF.sFor_k, VF.gsB_ok, VF.gsB_rz, VF.sDrop_k, VF.sRet_k, VF.sAsg_k, VF.sAsgT_k, VF.sRz_k, VF.esB_ok, VF.esB_rz, VF.put_int, VF.put_bool, VF.put_str, VF.put_none, VF.put_0, VF.put_listn, VF.put_list1, VF.put_tupn, VF.put_tup1, VF.sRetV_k, VF.retVK_ow, VF.retVK_fz, VF.sApp_k, VF.sAppK_k, VF.appD_k, VF.appK_n, VF.appK_s, VF.sAppV_k, VF.sAppVK_ow, VF.sAppVK_fz, VF.sSet_k, VF.sSetK_k, VF.setK_k, VF.setD_k, VF.setDK_n, VF.setDK_s, VF.sNx, VF.sBk, VF.sCt, VF.sTry_k, VF.tryK_nx, VF.drp_fz, VF.drp_no, VF.drp_ow, VF.excD_s, VF.excD_n, VF.lv0_exc, VF.isXD_none, List.map_cons, List.map_nil, VF.retR_rt, VF.retR_nx, VF.retR_rz, VF.retOf_0, VF.retOf_1, VF.retK_k, VF.arg0, VF.evS_0, VF.evS_1, VF.evSJ_k, VF.esK0_n, VF.esK0_s, VF.esK0_rz, VF.esK1_n, VF.esK1_s, VF.evT_0, VF.evT_1, VF.evTJ_k, VF.tsK0_k, VF.tsK0_rz, VF.tsK1_k, VF.evG_0, VF.evG_1, VF.evGJ_k, VF.gsK0_t, VF.gsK0_f, VF.gsK1_t, VF.frzF_cons, VF.frzF_nil, VF.envF_cons, VF.envF_nil, VF.fr1_false, VF.fr1_fz, VF.fr1_no, VF.fr1_ow, VF.en1_fz, VF.en1_no, VF.en1_ow, VF.en1_own, VF.erB_ok, VF.erB_rz, VF.arB_ok, VF.arB_rz, VF.irB_ok, VF.irB_rz, VF.trB_ok, VF.trB_rz, VF.obB_ok, VF.gaB_ok, VF.gaB_rz, VF.c1_k, VF.c2_k, VF.c2'_k, VF.c3_k, VF.c4_k, VF.c4'_k, VF.c5_k, VF.c6_k, VF.c7_k, VF.c8_k, VF.c9_k, VF.c10_k, VF.c11_k, VF.c11'_k, VF.c12_k, VF.c13_k, VF.c13'_k, VF.c13''_k, VF.c14_k, VF.c15_k, VF.c16_k, VF.c17_k, VF.c18_k, VF.c19_k, VF.c20_k, VF.c21_k, VF.c22_k, VF.c23_k, VF.c24_k, VF.c25_k, VF.k1_k, VF.k1'_k, VF.k2_k, VF.k3_k, VF.k4_k, VF.eVar_k, VF.varK_k, VF.eC_k, VF.eOp1_k, VF.eOp2_k, VF.erO_k, VF.eCall_k, VF.aNil_k, VF.aCons_k, VF.eLst_k, VF.eTup_k, VF.eIf_k, VF.eAnd_k, VF.eOr_k, VF.eNot_k, VF.andK_k, VF.orK_k, VF.notK_k, VF.eCh_k, VF.chK_k, VF.eBd_none, VF.eBd_some, VF.bdK_k, VF.eSl_k, VF.uNil_k, VF.uCons_k, VF.uIo_k, VF.uPerm_k, VF.permL, VF.eUser_k, VF.usrK_none, VF.usrK_some, VF.usrJ_k, eq_self, VF.sTest_k, VF.tBool_k, VF.sTru_k, VF.tTru_bool, VF.tTru_int, VF.tTru_list, VF.tTru_none, VF.sNot_k, VF.sAnd_k, VF.sOr_k, VF.sYes_k, VF.gIter_k, VF.gSeq_list, VF.gSeq_tuple, VF.gArgs_k, VF.gaK_k, VF.eLc_k, VF.lcK_k, VF.iiD_k, VF.icD_if, VF.ibD_k, VF.intD_int, VF.intD_bool, VF.addD_int, VF.negD_k, VF.cMod_k, VF.cDiv_k, VF.ixD_list, VF.ixD_tuple, VF.itD_k, VF.ixN_pos, VF.atI_pos, VF.lv0_int, VF.lv0_bool, VF.lv0_str, VF.lv0_none, VF.lv0_list, VF.lv0_tuple, VF.scal_int, VF.scal_bool, VF.scal_str, VF.scal_none, VF.scal_list, VF.scal_tuple, VF.neD_int, VF.eqD_int, VF.rng1_if, VF.rng2_if, VF.enumG_k, VF.zipG_k, Int.toNat_natCast, VF.notND_none, VF.notND_int, VF.notND_bool, VF.notND_str, VF.notND_list, VF.notND_tuple, VF.isND_none, VF.isND_int, VF.isND_list, VF.isND_tuple, VF.isND_exc, VF.eIsa_k, VF.lenD_list, VF.lenD_tuple, beq_self_eq_true, VF.slD_k, VF.cut_tail, VF.lzD_k, VF.wipeE, VF.lmin_nn, VF.up_n, VF.up_s, VF.lmin_ns, VF.lmin_sn, VF.lmin_ss, VF.owned_n, VF.owned_s, List.contains_cons, List.contains_nil, List.getElem?_cons_zero, List.getElem?_cons_succ, List.getElem?_nil, List.set_cons_zero, List.set_cons_succ, List.length_cons, List.length_nil, List.append_nil, List.cons_append, List.nil_append, List.replicate_succ, List.replicate_zero, Option.some.injEq, Bool.and_true, Bool.true_and, Bool.and_false, Bool.false_and, Bool.or_false, Bool.false_or, Bool.or_true, Bool.true_or, Bool.not_true, Bool.not_false, Nat.reduceBEq, Nat.reduceAdd, Nat.reduceSub, Nat.reduceLeDiff, Nat.reduceEqDiff, Nat.reduceLT, Int.reduceToNat, decide_true, decide_false, ↓reduceIte, reduceCtorEq, Bool.false_eq_true, Nat.zero_add, B__law_any_web_1, e, q, hb, cellD_s, cellD_n]
      | false =>
        refine ⟨_, _, rfl, .inl ?_, step (some (v / 8 % 12 - 3)) ⟨fun z => absurd z hx, fun j hj => by cases hj; omega⟩⟩
        simp (disch := (first | assumption | (simp only [VF.owned_n, VF.owned_s, VF.scal_int, VF.scal_bool, VF.scal_str, VF.scal_none, VF.scal_list, VF.scal_tuple, VF.SZ, List.length_cons, List.length_nil, List.length_set, List.length_append, List.length_map, List.length_range, Int.reduceToNat, Int.reduceLE, Int.reduceLT, Nat.reduceAdd, Nat.reduceLT, Nat.reduceLeDiff, Nat.reduceEqDiff, Nat.zero_add, Nat.zero_lt_succ, Int.toNat_natCast, ne_eq, reduceCtorEq, not_false_eq_true]; done) | (simp only [VF.owned_n, VF.owned_s, VF.scal_int, VF.scal_bool, VF.scal_str, VF.scal_none, VF.scal_list, VF.scal_tuple, VF.SZ, List.length_cons, List.length_nil, List.length_set, List.length_append, List.length_map, List.length_range, Int.reduceToNat, Int.reduceLE, Int.reduceLT, Nat.reduceAdd, Nat.reduceLT, Nat.reduceLeDiff, Nat.reduceEqDiff, Nat.zero_add, Nat.zero_lt_succ, Int.toNat_natCast, ne_eq, reduceCtorEq, not_false_eq_true]; first | assumption | omega) | decide | omega)) only [VF.sSq_k, VF.srB_nx, VF.srB_rt, VF.srB_rz, VF.srB_bk, VF.srB_ct, VF.sIf_k, VF.tsB_ok, VF.tsB_rz, VF.sFor_k, VF.gsB_ok, VF.gsB_rz, VF.sDrop_k, VF.sRet_k, VF.sAsg_k, VF.sAsgT_k, VF.sRz_k, VF.esB_ok, VF.esB_rz, VF.put_int, VF.put_bool, VF.put_str, VF.put_none, VF.put_0, VF.put_listn, VF.put_list1, VF.put_tupn, VF.put_tup1, VF.sRetV_k, VF.retVK_ow, VF.retVK_fz, VF.sApp_k, VF.sAppK_k, VF.appD_k, VF.appK_n, VF.appK_s, VF.sAppV_k, VF.sAppVK_ow, VF.sAppVK_fz, VF.sSet_k, VF.sSetK_k, VF.setK_k, VF.setD_k, VF.setDK_n, VF.setDK_s, VF.sNx, VF.sBk, VF.sCt, VF.sTry_k, VF.tryK_nx, VF.drp_fz, VF.drp_no, VF.drp_ow, VF.excD_s, VF.excD_n, VF.lv0_exc, VF.isXD_none, List.map_cons, List.map_nil, VF.retR_rt, VF.retR_nx, VF.retR_rz, VF.retOf_0, VF.retOf_1, VF.retK_k, VF.arg0, VF.evS_0, VF.evS_1, VF.evSJ_k, VF.esK0_n, VF.esK0_s, VF.esK0_rz, VF.esK1_n, VF.esK1_s, VF.evT_0, VF.evT_1, VF.evTJ_k, VF.tsK0_k, VF.tsK0_rz, VF.tsK1_k, VF.evG_0, VF.evG_1, VF.evGJ_k, VF.gsK0_t, VF.gsK0_f, VF.gsK1_t, VF.frzF_cons, VF.frzF_nil, VF.envF_cons, VF.envF_nil, VF.fr1_false, VF.fr1_fz, VF.fr1_no, VF.fr1_ow, VF.en1_fz, VF.en1_no, VF.en1_ow, VF.en1_own, VF.erB_ok, VF.erB_rz, VF.arB_ok, VF.arB_rz, VF.irB_ok, VF.irB_rz, VF.trB_ok, VF.trB_rz, VF.obB_ok, VF.gaB_ok, VF.gaB_rz, VF.c1_k, VF.c2_k, VF.c2'_k, VF.c3_k, VF.c4_k, VF.c4'_k, VF.c5_k, VF.c6_k, VF.c7_k, VF.c8_k, VF.c9_k, VF.c10_k, VF.c11_k, VF.c11'_k, VF.c12_k, VF.c13_k, VF.c13'_k, VF.c13''_k, VF.c14_k, VF.c15_k, VF.c16_k, VF.c17_k, VF.c18_k, VF.c19_k, VF.c20_k, VF.c21_k, VF.c22_k, VF.c23_k, VF.c24_k, VF.c25_k, VF.k1_k, VF.k1'_k, VF.k2_k, VF.k3_k, VF.k4_k, VF.eVar_k, VF.varK_k, VF.eC_k, VF.eOp1_k, VF.eOp2_k, VF.erO_k, VF.eCall_k, VF.aNil_k, VF.aCons_k, VF.eLst_k, VF.eTup_k, VF.eIf_k, VF.eAnd_k, VF.eOr_k, VF.eNot_k, VF.andK_k, VF.orK_k, VF.notK_k, VF.eCh_k, VF.chK_k, VF.eBd_none, VF.eBd_some, VF.bdK_k, VF.eSl_k, VF.uNil_k, VF.uCons_k, VF.uIo_k, VF.uPerm_k, VF.permL, VF.eUser_k, VF.usrK_none, VF.usrK_some, VF.usrJ_k, eq_self, VF.sTest_k, VF.tBool_k, VF.sTru_k, VF.tTru_bool, VF.tTru_int, VF.tTru_list, VF.tTru_none, VF.sNot_k, VF.sAnd_k, VF.sOr_k, VF.sYes_k, VF.gIter_k, VF.gSeq_list, VF.gSeq_tuple, VF.gArgs_k, VF.gaK_k, VF.eLc_k, VF.lcK_k, VF.iiD_k, VF.icD_if, VF.ibD_k, VF.intD_int, VF.intD_bool, VF.addD_int, VF.negD_k, VF.cMod_k, VF.cDiv_k, VF.ixD_list, VF.ixD_tuple, VF.itD_k, VF.ixN_pos, VF.atI_pos, VF.lv0_int, VF.lv0_bool, VF.lv0_str, VF.lv0_none, VF.lv0_list, VF.lv0_tuple, VF.scal_int, VF.scal_bool, VF.scal_str, VF.scal_none, VF.scal_list, VF.scal_tuple, VF.neD_int, VF.eqD_int, VF.rng1_if, VF.rng2_if, VF.enumG_k, VF.zipG_k, Int.toNat_natCast, VF.notND_none, VF.notND_int, VF.notND_bool, VF.notND_str, VF.notND_list, VF.notND_tuple, VF.isND_none, VF.isND_int, VF.isND_list, VF.isND_tuple, VF.isND_exc, VF.eIsa_k, VF.lenD_list, VF.lenD_tuple, beq_self_eq_true, VF.slD_k, VF.cut_tail, VF.lzD_k, VF.wipeE, VF.lmin_nn, VF.up_n, VF.up_s, VF.lmin_ns, VF.lmin_sn, VF.lmin_ss, VF.owned_n, VF.owned_s, List.contains_cons, List.contains_nil, List.getElem?_cons_zero, List.getElem?_cons_succ, List.getElem?_nil, List.set_cons_zero, List.set_cons_succ, List.length_cons, List.length_nil, List.append_nil, List.cons_append, List.nil_append, List.replicate_succ, List.replicate_zero, Option.some.injEq, Bool.and_true, Bool.true_and, Bool.and_false, Bool.false_and, Bool.or_false, Bool.false_or, Bool.or_true, Bool.true_or, Bool.not_true, Bool.not_false, Nat.reduceBEq, Nat.reduceAdd, Nat.reduceSub, Nat.reduceLeDiff, Nat.reduceEqDiff, Nat.reduceLT, Int.reduceToNat, decide_true, decide_false, ↓reduceIte, reduceCtorEq, Bool.false_eq_true, Nat.zero_add, B__law_any_web_1, e, q, hb, cellD_s, cellD_n]
  · intro ρ' h2 h1
    rw [rngD_length] at h2
    obtain ⟨f, A', k', t6, t7, g1, g2, g3, rfl⟩ := h2
    exact ⟨f, A', k', t6, t7, g1, g2, g3, h1⟩
theorem v_any_web (A k : Int) (b : Bool) (n : Nat) (hk : 0 ≤ k ∧ k ≤ 800000) (hn : n ≤ 8) : ∃ c A' k', IsWeb (-3) 8 n c ∧ k ≤ k' ∧ k' ≤ k + 65 ∧
    fnM (some 0) 8 F__law_any_web [none, some (.int n)] (some (none, drD A k b)) = .ok none (webD n c) (some (none, drD A' k' b)) := by
  obtain ⟨v0, A0, h0, e0⟩ := v_next A k b ⟨by omega, by omega⟩
  have sm : smallI n = true := smallI_b (by omega)
  have main : ∃ c A' k' s4 s5 s6 s7, IsWeb (-3) 8 n c ∧ k ≤ k' ∧ k' ≤ k + 65 ∧ forR (tgN 4) B__law_any_web_2 (rngD 0 n) [.ow true none (drD A0 (k + 1) b), .fz (.int n), .fz (.int (1 + v0 % 4)), .ow false none (.list []), .no, .no, .no, .no] =
      .nx [.ow true none (drD A' k' b), .fz (.int n), .fz (.int (1 + v0 % 4)), .ow false none (webD n c), s4, s5, s6, s7] := by
    refine forR_to (b := tgN 4) (F := B__law_any_web_2) (ds := rngD 0 n) (fun i ρ => ∃ (c : Nat → Nat → Option Int) (A' k' : Int) (s4 s5 s6 s7 : Slot), (∀ x y, x < i → y < n → okCell (-3) 8 x y (c x y)) ∧ k + 1 ≤ k' ∧ k' ≤ k + 1 + i * 8 ∧
      ρ = [.ow true none (drD A' k' b), .fz (.int n), .fz (.int (1 + v0 % 4)), .ow false none (.list ((List.range i).map fun x => rowD n (c x))), s4, s5, s6, s7])
      ⟨fun _ _ => none, A0, k + 1, .no, .no, .no, .no, fun x y hx => absurd hx (Nat.not_lt_zero _), Int.le_refl _, by omega, rfl⟩ ?_ ?_
    · rintro i ρ d hd ⟨c, A', k', s4, s5, s6, s7, g1, g2, g3, rfl⟩
      obtain ⟨hi, rfl⟩ := rngD_get hd
      obtain ⟨f, A2, k2, t6, t7, q1, q2, q3, e⟩ := v_any_row A' k' b n i (1 + v0 % 4) ⟨by omega, by omega⟩ hn ⟨by omega, by omega⟩ ((List.range i).map fun x => rowD n (c x)) s6 s7
      have hi2 : i < 1000000 := by omega
      refine ⟨_, _, rfl, .inl ?_, updN c i f, A2, k2, .fz (.int i), .no, t6, t7, fun x y hx hy => ?_, by omega, by omega, by rw [← range_snoc (rowD n)]⟩
      · simp (disch := (first | assumption | (simp only [VF.owned_n, VF.owned_s, VF.scal_int, VF.scal_bool, VF.scal_str, VF.scal_none, VF.scal_list, VF.scal_tuple, VF.SZ, List.length_cons, List.length_nil, List.length_set, List.length_append, List.length_map, List.length_range, Int.reduceToNat, Int.reduceLE, Int.reduceLT, Nat.reduceAdd, Nat.reduceLT, Nat.reduceLeDiff, Nat.reduceEqDiff, Nat.zero_add, Nat.zero_lt_succ, Int.toNat_natCast, ne_eq, reduceCtorEq, not_false_eq_true]; done) | (simp only [VF.owned_n, VF.owned_s, VF.scal_int, VF.scal_bool, VF.scal_str, VF.scal_none, VF.scal_list, VF.scal_tuple, VF.SZ, List.length_cons, List.length_nil, List.length_set, List.length_append, List.length_map, List.length_range, Int.reduceToNat, Int.reduceLE, Int.reduceLT, Nat.reduceAdd, Nat.reduceLT, Nat.reduceLeDiff, Nat.reduceEqDiff, Nat.zero_add, Nat.zero_lt_succ, Int.toNat_natCast, ne_eq, reduceCtorEq, not_false_eq_true]; first | assumption | omega) | decide | omega)) only [VF.sSq_k, VF.srB_nx, VF.srB_rt, VF.srB_rz, VF.srB_bk, VF.srB_ct, VF.sIf_k, VF.tsB_ok, VF.tsB_rz, VF.sFor_k, VF.gsB_ok, VF.gsB_rz, VF.sDrop_k, VF.sRet_k, VF.sAsg_k, VF.sAsgT_k, VF.sRz_k, VF.esB_ok, VF.esB_rz, VF.put_int, VF.put_bool, VF.put_str, VF.put_none, VF.put_0, VF.put_listn, VF.put_list1, VF.put_tupn, VF.put_tup1, VF.sRetV_k, VF.retVK_ow, VF.retVK_fz, VF.sApp_k, VF.sAppK_k, VF.appD_k, VF.appK_n, VF.appK_s, VF.sAppV_k, VF.sAppVK_ow, VF.sAppVK_fz, VF.sSet_k, VF.sSetK_k, VF.setK_k, VF.setD_k, VF.setDK_n, VF.setDK_s, VF.sNx, VF.sBk, VF.sCt, VF.sTry_k, VF.tryK_nx, VF.drp_fz, VF.drp_no, VF.drp_ow, VF.excD_s, VF.excD_n, VF.lv0_exc, VF.isXD_none, List.map_cons, List.map_nil, VF.retR_rt, VF.retR_nx, VF.retR_rz, VF.retOf_0, VF.retOf_1, VF.retK_k, VF.arg0, VF.evS_0, VF.evS_1, VF.evSJ_k, VF.esK0_n, VF.esK0_s, VF.esK0_rz, VF.esK1_n, VF.esK1_s, VF.evT_0, VF.evT_1, VF.evTJ_k, VF.tsK0_k, VF.tsK0_rz, VF.tsK1_k, VF.evG_0, VF.evG_1, VF.evGJ_k, VF.gsK0_t, VF.gsK0_f, VF.gsK1_t, VF.frzF_cons, VF.frzF_nil, VF.envF_cons, VF.envF_nil, VF.fr1_false, VF.fr1_fz, VF.fr1_no, VF.fr1_ow, VF.en1_fz, VF.en1_no, VF.en1_ow, VF.en1_own, VF.erB_ok, VF.erB_rz, VF.arB_ok, VF.arB_rz, VF.irB_ok, VF.irB_rz, VF.trB_ok, VF.trB_rz, VF.obB_ok, VF.gaB_ok, VF.gaB_rz, VF.c1_k, VF.c2_k, VF.c2'_k, VF.c3_k, VF.c4_k, VF.c4'_k, VF.c5_k, VF.c6_k, VF.c7_k, VF.c8_k, VF.c9_k, VF.c10_k, VF.c11_k, VF.c11'_k, VF.c12_k, VF.c13_k, VF.c13'_k, VF.c13''_k, VF.c14_k, VF.c15_k, VF.c16_k, VF.c17_k, VF.c18_k, VF.c19_k, VF.c20_k, VF.c21_k, VF.c22_k, VF.c23_k, VF.c24_k, VF.c25_k, VF.k1_k, VF.k1'_k, VF.k2_k, VF.k3_k, VF.k4_k, VF.eVar_k, VF.varK_k, VF.eC_k, VF.eOp1_k, VF.eOp2_k, VF.erO_k, VF.eCall_k, VF.aNil_k, VF.aCons_k, VF.eLst_k, VF.eTup_k, VF.eIf_k, VF.eAnd_k, VF.eOr_k, VF.eNot_k, VF.andK_k, VF.orK_k, VF.notK_k, VF.eCh_k, VF.chK_k, VF.eBd_none, VF.eBd_some, VF.bdK_k, VF.eSl_k, VF.uNil_k, VF.uCons_k, VF.uIo_k, VF.uPerm_k, VF.permL, VF.eUser_k, VF.usrK_none, VF.usrK_some, VF.usrJ_k, eq_self, VF.sTest_k, VF.tBool_k, VF.sTru_k, VF.tTru_bool, VF.tTru_int, VF.tTru_list, VF.tTru_none, VF.sNot_k, VF.sAnd_k, VF.sOr_k, VF.sYes_k, VF.gIter_k, VF.gSeq_list, VF.gSeq_tuple, VF.gArgs_k, VF.gaK_k, VF.eLc_k, VF.lcK_k, VF.iiD_k, VF.icD_if, VF.ibD_k, VF.intD_int, VF.intD_bool, VF.addD_int, VF.negD_k, VF.cMod_k, VF.cDiv_k, VF.ixD_list, VF.ixD_tuple, VF.itD_k, VF.ixN_pos, VF.atI_pos, VF.lv0_int, VF.lv0_bool, VF.lv0_str, VF.lv0_none, VF.lv0_list, VF.lv0_tuple, VF.scal_int, VF.scal_bool, VF.scal_str, VF.scal_none, VF.scal_list, VF.scal_tuple, VF.neD_int, VF.eqD_int, VF.rng1_if, VF.rng2_if, VF.enumG_k, VF.zipG_k, Int.toNat_natCast, VF.notND_none, VF.notND_int, VF.notND_bool, VF.notND_str, VF.notND_list, VF.notND_tuple, VF.isND_none, VF.isND_int, VF.isND_list, VF.isND_tuple, VF.isND_exc, VF.eIsa_k, VF.lenD_list, VF.lenD_tuple, beq_self_eq_true, VF.slD_k, VF.cut_tail, VF.lzD_k, VF.wipeE, VF.lmin_nn, VF.up_n, VF.up_s, VF.lmin_ns, VF.lmin_sn, VF.lmin_ss, VF.owned_n, VF.owned_s, List.contains_cons, List.contains_nil, List.getElem?_cons_zero, List.getElem?_cons_succ, List.getElem?_nil, List.set_cons_zero, List.set_cons_succ, List.length_cons, List.length_nil, List.append_nil, List.cons_append, List.nil_append, List.replicate_succ, List.replicate_zero, Option.some.injEq, Bool.and_true, Bool.true_and, Bool.and_false, Bool.false_and, Bool.or_false, Bool.false_or, Bool.or_true, Bool.true_or, Bool.not_true, Bool.not_false, Nat.reduceBEq, Nat.reduceAdd, Nat.reduceSub, Nat.reduceLeDiff, Nat.reduceEqDiff, Nat.reduceLT, Int.reduceToNat, decide_true, decide_false, ↓reduceIte, reduceCtorEq, Bool.false_eq_true, Nat.zero_add, B__law_any_web_2, sm, e]
      · by_cases z : x = i
        · subst z; rw [updN_same]; exact q1 y hy
        · rw [updN_ne z]; exact g1 x y (by omega) hy
    · intro ρ' h2 h1
      rw [rngD_length] at h2
      obtain ⟨c, A', k', s4, s5, s6, s7, g1, g2, g3, rfl⟩ := h2
      exact ⟨c, A', k', s4, s5, s6, s7, fun x y hx hy => g1 x y hx hy, by omega, by omega, h1⟩
  obtain ⟨c, A', k', s4, s5, s6, s7, g1, g2, g3, e⟩ := main
  refine ⟨c, A', k', g1, g2, g3, fn_eq ?_⟩
  simp (disch := (first | assumption | (simp only [VF.owned_n, VF.owned_s, VF.scal_int, VF.scal_bool, VF.scal_str, VF.scal_none, VF.scal_list, VF.scal_tuple, VF.SZ, List.length_cons, List.length_nil, List.length_set, List.length_append, List.length_map, List.length_range, Int.reduceToNat, Int.reduceLE, Int.reduceLT, Nat.reduceAdd, Nat.reduceLT, Nat.reduceLeDiff, Nat.reduceEqDiff, Nat.zero_add, Nat.zero_lt_succ, Int.toNat_natCast, ne_eq, reduceCtorEq, not_false_eq_true]; done) | (simp only [VF.owned_n, VF.owned_s, VF.scal_int, VF.scal_bool, VF.scal_str, VF.scal_none, VF.scal_list, VF.scal_tuple, VF.SZ, List.length_cons, List.length_nil, List.length_set, List.length_append, List.length_map, List.length_range, Int.reduceToNat, Int.reduceLE, Int.reduceLT, Nat.reduceAdd, Nat.reduceLT, Nat.reduceLeDiff, Nat.reduceEqDiff, Nat.zero_add, Nat.zero_lt_succ, Int.toNat_natCast, ne_eq, reduceCtorEq, not_false_eq_true]; first | assumption | omega) | decide | omega)) only [VF.sSq_k, VF.srB_nx, VF.srB_rt, VF.srB_rz, VF.srB_bk, VF.srB_ct, VF.sIf_k, VF.tsB_ok, VF.tsB_rz, VF.sFor_k, VF.gsB_ok, VF.gsB_rz, VF.sDrop_k, VF.sRet_k, VF.sAsg_k, VF.sAsgT_k, VF.sRz_k, VF.esB_ok, VF.esB_rz, VF.put_int, VF.put_bool, VF.put_str, VF.put_none, VF.put_0, VF.put_listn, VF.put_list1, VF.put_tupn, VF.put_tup1, VF.sRetV_k, VF.retVK_ow, VF.retVK_fz, VF.sApp_k, VF.sAppK_k, VF.appD_k, VF.appK_n, VF.appK_s, VF.sAppV_k, VF.sAppVK_ow, VF.sAppVK_fz, VF.sSet_k, VF.sSetK_k, VF.setK_k, VF.setD_k, VF.setDK_n, VF.setDK_s, VF.sNx, VF.sBk, VF.sCt, VF.sTry_k, VF.tryK_nx, VF.drp_fz, VF.drp_no, VF.drp_ow, VF.excD_s, VF.excD_n, VF.lv0_exc, VF.isXD_none, List.map_cons, List.map_nil, VF.retR_rt, VF.retR_nx, VF.retR_rz, VF.retOf_0, VF.retOf_1, VF.retK_k, VF.arg0, VF.evS_0, VF.evS_1, VF.evSJ_k, VF.esK0_n, VF.esK0_s, VF.esK0_rz, VF.esK1_n, VF.esK1_s, VF.evT_0, VF.evT_1, VF.evTJ_k, VF.tsK0_k, VF.tsK0_rz, VF.tsK1_k, VF.evG_0, VF.evG_1, VF.evGJ_k, VF.gsK0_t, VF.gsK0_f, VF.gsK1_t, VF.frzF_cons, VF.frzF_nil, VF.envF_cons, VF.envF_nil, VF.fr1_false, VF.fr1_fz, VF.fr1_no, VF.fr1_ow, VF.en1_fz, VF.en1_no, VF.en1_ow, VF.en1_own, VF.erB_ok, VF.erB_rz, VF.arB_ok, VF.arB_rz, VF.irB_ok, VF.irB_rz, VF.trB_ok, VF.trB_rz, VF.obB_ok, VF.gaB_ok, VF.gaB_rz, VF.c1_k, VF.c2_k, VF.c2'_k, VF.c3_k, VF.c4_k, VF.c4'_k, VF.c5_k, VF.c6_k, VF.c7_k, VF.c8_k, VF.c9_k, VF.c10_k, VF.c11_k, VF.c11'_k, VF.c12_k, VF.c13_k, VF.c13'_k, VF.c13''_k, VF.c14_k, VF.c15_k, VF.c16_k, VF.c17_k, VF.c18_k, VF.c19_k, VF.c20_k, VF.c21_k, VF.c22_k, VF.c23_k, VF.c24_k, VF.c25_k, VF.k1_k, VF.k1'_k, VF.k2_k, VF.k3_k, VF.k4_k, VF.eVar_k, VF.varK_k, VF.eC_k, VF.eOp1_k, VF.eOp2_k, VF.erO_k, VF.eCall_k, VF.aNil_k, VF.aCons_k, VF.eLst_k, VF.eTup_k, VF.eIf_k, VF.eAnd_k, VF.eOr_k, VF.eNot_k, VF.andK_k, VF.orK_k, VF.notK_k, VF.eCh_k, VF.chK_k, VF.eBd_none, VF.eBd_some, VF.bdK_k, VF.eSl_k, VF.uNil_k, VF.uCons_k, VF.uIo_k, VF.uPerm_k, VF.permL, VF.eUser_k, VF.usrK_none, VF.usrK_some, VF.usrJ_k, eq_self, VF.sTest_k, VF.tBool_k, VF.sTru_k, VF.tTru_bool, VF.tTru_int, VF.tTru_list, VF.tTru_none, VF.sNot_k, VF.sAnd_k, VF.sOr_k, VF.sYes_k, VF.gIter_k, VF.gSeq_list, VF.gSeq_tuple, VF.gArgs_k, VF.gaK_k, VF.eLc_k, VF.lcK_k, VF.iiD_k, VF.icD_if, VF.ibD_k, VF.intD_int, VF.intD_bool, VF.addD_int, VF.negD_k, VF.cMod_k, VF.cDiv_k, VF.ixD_list, VF.ixD_tuple, VF.itD_k, VF.ixN_pos, VF.atI_pos, VF.lv0_int, VF.lv0_bool, VF.lv0_str, VF.lv0_none, VF.lv0_list, VF.lv0_tuple, VF.scal_int, VF.scal_bool, VF.scal_str, VF.scal_none, VF.scal_list, VF.scal_tuple, VF.neD_int, VF.eqD_int, VF.rng1_if, VF.rng2_if, VF.enumG_k, VF.zipG_k, Int.toNat_natCast, VF.notND_none, VF.notND_int, VF.notND_bool, VF.notND_str, VF.notND_list, VF.notND_tuple, VF.isND_none, VF.isND_int, VF.isND_list, VF.isND_tuple, VF.isND_exc, VF.eIsa_k, VF.lenD_list, VF.lenD_tuple, beq_self_eq_true, VF.slD_k, VF.cut_tail, VF.lzD_k, VF.wipeE, VF.lmin_nn, VF.up_n, VF.up_s, VF.lmin_ns, VF.lmin_sn, VF.lmin_ss, VF.owned_n, VF.owned_s, List.contains_cons, List.contains_nil, List.getElem?_cons_zero, List.getElem?_cons_succ, List.getElem?_nil, List.set_cons_zero, List.set_cons_succ, List.length_cons, List.length_nil, List.append_nil, List.cons_append, List.nil_append, List.replicate_succ, List.replicate_zero, Option.some.injEq, Bool.and_true, Bool.true_and, Bool.and_false, Bool.false_and, Bool.or_false, Bool.false_or, Bool.or_true, Bool.true_or, Bool.not_true, Bool.not_false, Nat.reduceBEq, Nat.reduceAdd, Nat.reduceSub, Nat.reduceLeDiff, Nat.reduceEqDiff, Nat.reduceLT, Int.reduceToNat, decide_true, decide_false, ↓reduceIte, reduceCtorEq, Bool.false_eq_true, Nat.zero_add, F__law_any_web, e0, sm, e]
end K04
end
section
set_option Elab.async false
set_option linter.all false
set_option maxRecDepth 100000
set_option maxHeartbeats 2000000
namespace K04
open PySem PySem.Spec L2 VF
open PyProof.Rows hiding St
theorem cellD_scal (c : Option Int) : scal (cellD c) = true := by cases c <;> rfl
theorem lv0_cell {c : Option Int} : lv0 (cellD c) = none := by unfold lv0; rw [if_pos (cellD_scal c)]
theorem lv0_row {n : Nat} {f : Nat → Option Int} : lv0 (rowD n f) = some 0 := rfl
theorem lv0_web {n : Nat} {c : Nat → Nat → Option Int} : lv0 (webD n c) = some 0 := rfl
theorem gSeq_row {n : Nat} {f : Nat → Option Int} {μ : Mu} : gSeq (rowD n f) μ = .ok false ((List.range n).map fun y => cellD (f y)) μ := rfl
theorem gSeq_web {n : Nat} {c : Nat → Nat → Option Int} {μ : Mu} : gSeq (webD n c) μ = .ok false ((List.range n).map fun x => rowD n (c x)) μ := rfl
theorem enum_web {n : Nat} {c : Nat → Nat → Option Int} : enumG [webD n c] = some (enD 0 ((List.range n).map fun x => rowD n (c x))) := rfl
theorem lenD_row {n : Nat} {f : Nat → Option Int} : lenD [rowD n f] = some (none, .int n) := by show some ((none : Lv), PyData.int _) = _; rw [List.length_map, List.length_range]
theorem lenD_web {n : Nat} {c : Nat → Nat → Option Int} : lenD [webD n c] = some (none, .int n) := by show some ((none : Lv), PyData.int _) = _; rw [List.length_map, List.length_range]
theorem ixD_row {n y : Nat} {f : Nat → Option Int} (h : y < n) : ixD (rowD n f) (.int y) = some (none, cellD (f y)) := by
  show itD (atI _ (y : Int)) = _
  rw [atI_nat (map_get h)]
  show some (lv0 (cellD (f y)), _) = _
  rw [lv0_cell]
theorem ixD_web {n x : Nat} {c : Nat → Nat → Option Int} (h : x < n) : ixD (webD n c) (.int x) = some (some 0, rowD n (c x)) := by
  show itD (atI _ (x : Int)) = _
  rw [atI_nat (map_get h)]
  rfl
theorem isa_int {b : String} {i : Int} : isaD b (.int i) = some (none, .bool (isaS "int" b)) := rfl
theorem isa_list {b : String} {ds : List D} : isaD b (.list ds) = some (none, .bool (isaS "list" b)) := rfl
theorem isa_row {b : String} {n : Nat} {f : Nat → Option Int} : isaD b (rowD n f) = some (none, .bool (isaS "list" b)) := rfl
theorem isa_web {b : String} {n : Nat} {f : Nat → Nat → Option Int} : isaD b (webD n f) = some (none, .bool (isaS "list" b)) := rfl
theorem isaS_ll : isaS "list" "list" = true := by decide
theorem v_whole_int (i : Int) : fnM none 1 F_is_whole [some (.int i)] none = .ok none (.bool true) none := by kernel_rfl
theorem v_is_row {n x : Nat} {f : Nat → Option Int} (hx : x < n) (h : f x = some 0) : fnM none 4 F__is_row [some (rowD n f), some (.int x), some (.int n)] none = .ok none (.bool true) none := by
  refine forR_to (b := tgN 3) (F := B__is_row_1) (ds := (List.range n).map fun y => cellD (f y)) (ρ := [.fz (rowD n f), .fz (.int x), .fz (.int n), .no]) (fun i ρ => ∃ s, ρ = [.fz (rowD n f), .fz (.int x), .fz (.int n), s]) ⟨_, rfl⟩ ?_ ?_
  · rintro i ρ d hd ⟨s, rfl⟩
    have : ∃ c, d = cellD c := by
      rw [List.getElem?_map] at hd
      cases q : (List.range n)[i]? with
      | none => rw [q] at hd; cases hd
      | some y => rw [q] at hd; exact ⟨f y, (Option.some.inj hd).symm⟩
    obtain ⟨c, rfl⟩ := this
    refine ⟨_, _, rfl, .inl ?_, .fz (cellD c), rfl⟩
    cases c with
    | none => simp (disch := (first | assumption | (simp only [VF.owned_n, VF.owned_s, VF.scal_int, VF.scal_bool, VF.scal_str, VF.scal_none, VF.scal_list, VF.scal_tuple, VF.SZ, List.length_cons, List.length_nil, List.length_set, List.length_append, List.length_map, List.length_range, Int.reduceToNat, Int.reduceLE, Int.reduceLT, Nat.reduceAdd, Nat.reduceLT, Nat.reduceLeDiff, Nat.reduceEqDiff, Nat.zero_add, Nat.zero_lt_succ, Int.toNat_natCast, ne_eq, reduceCtorEq, not_false_eq_true]; done) | (simp only [VF.owned_n, VF.owned_s, VF.scal_int, VF.scal_bool, VF.scal_str, VF.scal_none, VF.scal_list, VF.scal_tuple, VF.SZ, List.length_cons, List.length_nil, List.length_set, List.length_append, List.length_map, List.length_range, Int.reduceToNat, Int.reduceLE, Int.reduceLT, Nat.reduceAdd, Nat.reduceLT, Nat.reduceLeDiff, Nat.reduceEqDiff, Nat.zero_add, Nat.zero_lt_succ, Int.toNat_natCast, ne_eq, reduceCtorEq, not_false_eq_true]; first | assumption | omega) | decide | omega)) only [VF.sSq_k, VF.srB_nx, VF.srB_rt, VF.srB_rz, VF.srB_bk, VF.srB_ct, VF.sIf_k, VF.tsB_ok, VF.tsB_rz, VF.sFor_k, VF.gsB_ok, VF.gsB_rz, VF.sDrop_k, VF.sRet_k, VF.sAsg_k, VF.sAsgT_k, VF.sRz_k, VF.esB_ok, VF.esB_rz, VF.put_int, VF.put_bool, VF.put_str, VF.put_none, VF.put_0, VF.put_listn, VF.put_list1, VF.put_tupn, VF.put_tup1, VF.sRetV_k, VF.retVK_ow, VF.retVK_fz, VF.sApp_k, VF.sAppK_k, VF.appD_k, VF.appK_n, VF.appK_s, VF.sAppV_k, VF.sAppVK_ow, VF.sAppVK_fz, VF.sSet_k, VF.sSetK_k, VF.setK_k, VF.setD_k, VF.setDK_n, VF.setDK_s, VF.sNx, VF.sBk, VF.sCt, VF.sTry_k, VF.tryK_nx, VF.drp_fz, VF.drp_no, VF.drp_ow, VF.excD_s, VF.excD_n, VF.lv0_exc, VF.isXD_none, List.map_cons, List.map_nil, VF.retR_rt, VF.retR_nx, VF.retR_rz, VF.retOf_0, VF.retOf_1, VF.retK_k, VF.arg0, VF.evS_0, VF.evS_1, VF.evSJ_k, VF.esK0_n, VF.esK0_s, VF.esK0_rz, VF.esK1_n, VF.esK1_s, VF.evT_0, VF.evT_1, VF.evTJ_k, VF.tsK0_k, VF.tsK0_rz, VF.tsK1_k, VF.evG_0, VF.evG_1, VF.evGJ_k, VF.gsK0_t, VF.gsK0_f, VF.gsK1_t, VF.frzF_cons, VF.frzF_nil, VF.envF_cons, VF.envF_nil, VF.fr1_false, VF.fr1_fz, VF.fr1_no, VF.fr1_ow, VF.en1_fz, VF.en1_no, VF.en1_ow, VF.en1_own, VF.erB_ok, VF.erB_rz, VF.arB_ok, VF.arB_rz, VF.irB_ok, VF.irB_rz, VF.trB_ok, VF.trB_rz, VF.obB_ok, VF.gaB_ok, VF.gaB_rz, VF.c1_k, VF.c2_k, VF.c2'_k, VF.c3_k, VF.c4_k, VF.c4'_k, VF.c5_k, VF.c6_k, VF.c7_k, VF.c8_k, VF.c9_k, VF.c10_k, VF.c11_k, VF.c11'_k, VF.c12_k, VF.c13_k, VF.c13'_k, VF.c13''_k, VF.c14_k, VF.c15_k, VF.c16_k, VF.c17_k, VF.c18_k, VF.c19_k, VF.c20_k, VF.c21_k, VF.c22_k, VF.c23_k, VF.c24_k, VF.c25_k, VF.k1_k, VF.k1'_k, VF.k2_k, VF.k3_k, VF.k4_k, VF.eVar_k, VF.varK_k, VF.eC_k, VF.eOp1_k, VF.eOp2_k, VF.erO_k, VF.eCall_k, VF.aNil_k, VF.aCons_k, VF.eLst_k, VF.eTup_k, VF.eIf_k, VF.eAnd_k, VF.eOr_k, VF.eNot_k, VF.andK_k, VF.orK_k, VF.notK_k, VF.eCh_k, VF.chK_k, VF.eBd_none, VF.eBd_some, VF.bdK_k, VF.eSl_k, VF.uNil_k, VF.uCons_k, VF.uIo_k, VF.uPerm_k, VF.permL, VF.eUser_k, VF.usrK_none, VF.usrK_some, VF.usrJ_k, eq_self, VF.sTest_k, VF.tBool_k, VF.sTru_k, VF.tTru_bool, VF.tTru_int, VF.tTru_list, VF.tTru_none, VF.sNot_k, VF.sAnd_k, VF.sOr_k, VF.sYes_k, VF.gIter_k, VF.gSeq_list, VF.gSeq_tuple, VF.gArgs_k, VF.gaK_k, VF.eLc_k, VF.lcK_k, VF.iiD_k, VF.icD_if, VF.ibD_k, VF.intD_int, VF.intD_bool, VF.addD_int, VF.negD_k, VF.cMod_k, VF.cDiv_k, VF.ixD_list, VF.ixD_tuple, VF.itD_k, VF.ixN_pos, VF.atI_pos, VF.lv0_int, VF.lv0_bool, VF.lv0_str, VF.lv0_none, VF.lv0_list, VF.lv0_tuple, VF.scal_int, VF.scal_bool, VF.scal_str, VF.scal_none, VF.scal_list, VF.scal_tuple, VF.neD_int, VF.eqD_int, VF.rng1_if, VF.rng2_if, VF.enumG_k, VF.zipG_k, Int.toNat_natCast, VF.notND_none, VF.notND_int, VF.notND_bool, VF.notND_str, VF.notND_list, VF.notND_tuple, VF.isND_none, VF.isND_int, VF.isND_list, VF.isND_tuple, VF.isND_exc, VF.eIsa_k, VF.lenD_list, VF.lenD_tuple, beq_self_eq_true, VF.slD_k, VF.cut_tail, VF.lzD_k, VF.wipeE, VF.lmin_nn, VF.up_n, VF.up_s, VF.lmin_ns, VF.lmin_sn, VF.lmin_ss, VF.owned_n, VF.owned_s, List.contains_cons, List.contains_nil, List.getElem?_cons_zero, List.getElem?_cons_succ, List.getElem?_nil, List.set_cons_zero, List.set_cons_succ, List.length_cons, List.length_nil, List.append_nil, List.cons_append, List.nil_append, List.replicate_succ, List.replicate_zero, Option.some.injEq, Bool.and_true, Bool.true_and, Bool.and_false, Bool.false_and, Bool.or_false, Bool.false_or, Bool.or_true, Bool.true_or, Bool.not_true, Bool.not_false, Nat.reduceBEq, Nat.reduceAdd, Nat.reduceSub, Nat.reduceLeDiff, Nat.reduceEqDiff, Nat.reduceLT, Int.reduceToNat, decide_true, decide_false, ↓reduceIte, reduceCtorEq, Bool.false_eq_true, Nat.zero_add, B__is_row_1, cellD_n]
    | some j => simp (disch := (first | assumption | (simp only [VF.owned_n, VF.owned_s, VF.scal_int, VF.scal_bool, VF.scal_str, VF.scal_none, VF.scal_list, VF.scal_tuple, VF.SZ, List.length_cons, List.length_nil, List.length_set, List.length_append, List.length_map, List.length_range, Int.reduceToNat, Int.reduceLE, Int.reduceLT, Nat.reduceAdd, Nat.reduceLT, Nat.reduceLeDiff, Nat.reduceEqDiff, Nat.zero_add, Nat.zero_lt_succ, Int.toNat_natCast, ne_eq, reduceCtorEq, not_false_eq_true]; done) | (simp only [VF.owned_n, VF.owned_s, VF.scal_int, VF.scal_bool, VF.scal_str, VF.scal_none, VF.scal_list, VF.scal_tuple, VF.SZ, List.length_cons, List.length_nil, List.length_set, List.length_append, List.length_map, List.length_range, Int.reduceToNat, Int.reduceLE, Int.reduceLT, Nat.reduceAdd, Nat.reduceLT, Nat.reduceLeDiff, Nat.reduceEqDiff, Nat.zero_add, Nat.zero_lt_succ, Int.toNat_natCast, ne_eq, reduceCtorEq, not_false_eq_true]; first | assumption | omega) | decide | omega)) only [VF.sSq_k, VF.srB_nx, VF.srB_rt, VF.srB_rz, VF.srB_bk, VF.srB_ct, VF.sIf_k, VF.tsB_ok, VF.tsB_rz, VF.sFor_k, VF.gsB_ok, VF.gsB_rz, VF.sDrop_k, VF.sRet_k, VF.sAsg_k, VF.sAsgT_k, VF.sRz_k, VF.esB_ok, VF.esB_rz, VF.put_int, VF.put_bool, VF.put_str, VF.put_none, VF.put_0, VF.put_listn, VF.put_list1, VF.put_tupn, VF.put_tup1, VF.sRetV_k, VF.retVK_ow, VF.retVK_fz, VF.sApp_k, VF.sAppK_k, VF.appD_k, VF.appK_n, VF.appK_s, VF.sAppV_k, VF.sAppVK_ow, VF.sAppVK_fz, VF.sSet_k, VF.sSetK_k, VF.setK_k, VF.setD_k, VF.setDK_n, VF.setDK_s, VF.sNx, VF.sBk, VF.sCt, VF.sTry_k, VF.tryK_nx, VF.drp_fz, VF.drp_no, VF.drp_ow, VF.excD_s, VF.excD_n, VF.lv0_exc, VF.isXD_none, List.map_cons, List.map_nil, VF.retR_rt, VF.retR_nx, VF.retR_rz, VF.retOf_0, VF.retOf_1, VF.retK_k, VF.arg0, VF.evS_0, VF.evS_1, VF.evSJ_k, VF.esK0_n, VF.esK0_s, VF.esK0_rz, VF.esK1_n, VF.esK1_s, VF.evT_0, VF.evT_1, VF.evTJ_k, VF.tsK0_k, VF.tsK0_rz, VF.tsK1_k, VF.evG_0, VF.evG_1, VF.evGJ_k, VF.gsK0_t, VF.gsK0_f, VF.gsK1_t, VF.frzF_cons, VF.frzF_nil, VF.envF_cons, VF.envF_nil, VF.fr1_false, VF.fr1_fz, VF.fr1_no, VF.fr1_ow, VF.en1_fz, VF.en1_no, VF.en1_ow, VF.en1_own, VF.erB_ok, VF.erB_rz, VF.arB_ok, VF.arB_rz, VF.irB_ok, VF.irB_rz, VF.trB_ok, VF.trB_rz, VF.obB_ok, VF.gaB_ok, VF.gaB_rz, VF.c1_k, VF.c2_k, VF.c2'_k, VF.c3_k, VF.c4_k, VF.c4'_k, VF.c5_k, VF.c6_k, VF.c7_k, VF.c8_k, VF.c9_k, VF.c10_k, VF.c11_k, VF.c11'_k, VF.c12_k, VF.c13_k, VF.c13'_k, VF.c13''_k, VF.c14_k, VF.c15_k, VF.c16_k, VF.c17_k, VF.c18_k, VF.c19_k, VF.c20_k, VF.c21_k, VF.c22_k, VF.c23_k, VF.c24_k, VF.c25_k, VF.k1_k, VF.k1'_k, VF.k2_k, VF.k3_k, VF.k4_k, VF.eVar_k, VF.varK_k, VF.eC_k, VF.eOp1_k, VF.eOp2_k, VF.erO_k, VF.eCall_k, VF.aNil_k, VF.aCons_k, VF.eLst_k, VF.eTup_k, VF.eIf_k, VF.eAnd_k, VF.eOr_k, VF.eNot_k, VF.andK_k, VF.orK_k, VF.notK_k, VF.eCh_k, VF.chK_k, VF.eBd_none, VF.eBd_some, VF.bdK_k, VF.eSl_k, VF.uNil_k, VF.uCons_k, VF.uIo_k, VF.uPerm_k, VF.permL, VF.eUser_k, VF.usrK_none, VF.usrK_some, VF.usrJ_k, eq_self, VF.sTest_k, VF.tBool_k, VF.sTru_k, VF.tTru_bool, VF.tTru_int, VF.tTru_list, VF.tTru_none, VF.sNot_k, VF.sAnd_k, VF.sOr_k, VF.sYes_k, VF.gIter_k, VF.gSeq_list, VF.gSeq_tuple, VF.gArgs_k, VF.gaK_k, VF.eLc_k, VF.lcK_k, VF.iiD_k, VF.icD_if, VF.ibD_k, VF.intD_int, VF.intD_bool, VF.addD_int, VF.negD_k, VF.cMod_k, VF.cDiv_k, VF.ixD_list, VF.ixD_tuple, VF.itD_k, VF.ixN_pos, VF.atI_pos, VF.lv0_int, VF.lv0_bool, VF.lv0_str, VF.lv0_none, VF.lv0_list, VF.lv0_tuple, VF.scal_int, VF.scal_bool, VF.scal_str, VF.scal_none, VF.scal_list, VF.scal_tuple, VF.neD_int, VF.eqD_int, VF.rng1_if, VF.rng2_if, VF.enumG_k, VF.zipG_k, Int.toNat_natCast, VF.notND_none, VF.notND_int, VF.notND_bool, VF.notND_str, VF.notND_list, VF.notND_tuple, VF.isND_none, VF.isND_int, VF.isND_list, VF.isND_tuple, VF.isND_exc, VF.eIsa_k, VF.lenD_list, VF.lenD_tuple, beq_self_eq_true, VF.slD_k, VF.cut_tail, VF.lzD_k, VF.wipeE, VF.lmin_nn, VF.up_n, VF.up_s, VF.lmin_ns, VF.lmin_sn, VF.lmin_ss, VF.owned_n, VF.owned_s, List.contains_cons, List.contains_nil, List.getElem?_cons_zero, List.getElem?_cons_succ, List.getElem?_nil, List.set_cons_zero, List.set_cons_succ, List.length_cons, List.length_nil, List.append_nil, List.cons_append, List.nil_append, List.replicate_succ, List.replicate_zero, Option.some.injEq, Bool.and_true, Bool.true_and, Bool.and_false, Bool.false_and, Bool.or_false, Bool.false_or, Bool.or_true, Bool.true_or, Bool.not_true, Bool.not_false, Nat.reduceBEq, Nat.reduceAdd, Nat.reduceSub, Nat.reduceLeDiff, Nat.reduceEqDiff, Nat.reduceLT, Int.reduceToNat, decide_true, decide_false, ↓reduceIte, reduceCtorEq, Bool.false_eq_true, Nat.zero_add, B__is_row_1, cellD_s, v_whole_int]
  · rintro ρ' ⟨s, rfl⟩ e
    refine fn_eq ?_
    simp (disch := (first | assumption | (simp only [VF.owned_n, VF.owned_s, VF.scal_int, VF.scal_bool, VF.scal_str, VF.scal_none, VF.scal_list, VF.scal_tuple, VF.SZ, List.length_cons, List.length_nil, List.length_set, List.length_append, List.length_map, List.length_range, Int.reduceToNat, Int.reduceLE, Int.reduceLT, Nat.reduceAdd, Nat.reduceLT, Nat.reduceLeDiff, Nat.reduceEqDiff, Nat.zero_add, Nat.zero_lt_succ, Int.toNat_natCast, ne_eq, reduceCtorEq, not_false_eq_true]; done) | (simp only [VF.owned_n, VF.owned_s, VF.scal_int, VF.scal_bool, VF.scal_str, VF.scal_none, VF.scal_list, VF.scal_tuple, VF.SZ, List.length_cons, List.length_nil, List.length_set, List.length_append, List.length_map, List.length_range, Int.reduceToNat, Int.reduceLE, Int.reduceLT, Nat.reduceAdd, Nat.reduceLT, Nat.reduceLeDiff, Nat.reduceEqDiff, Nat.zero_add, Nat.zero_lt_succ, Int.toNat_natCast, ne_eq, reduceCtorEq, not_false_eq_true]; first | assumption | omega) | decide | omega)) only [VF.sSq_k, VF.srB_nx, VF.srB_rt, VF.srB_rz, VF.srB_bk, VF.srB_ct, VF.sIf_k, VF.tsB_ok, VF.tsB_rz, VF.sFor_k, VF.gsB_ok, VF.gsB_rz, VF.sDrop_k, VF.sRet_k, VF.sAsg_k, VF.sAsgT_k, VF.sRz_k, VF.esB_ok, VF.esB_rz, VF.put_int, VF.put_bool, VF.put_str, VF.put_none, VF.put_0, VF.put_listn, VF.put_list1, VF.put_tupn, VF.put_tup1, VF.sRetV_k, VF.retVK_ow, VF.retVK_fz, VF.sApp_k, VF.sAppK_k, VF.appD_k, VF.appK_n, VF.appK_s, VF.sAppV_k, VF.sAppVK_ow, VF.sAppVK_fz, VF.sSet_k, VF.sSetK_k, VF.setK_k, VF.setD_k, VF.setDK_n, VF.setDK_s, VF.sNx, VF.sBk, VF.sCt, VF.sTry_k, VF.tryK_nx, VF.drp_fz, VF.drp_no, VF.drp_ow, VF.excD_s, VF.excD_n, VF.lv0_exc, VF.isXD_none, List.map_cons, List.map_nil, VF.retR_rt, VF.retR_nx, VF.retR_rz, VF.retOf_0, VF.retOf_1, VF.retK_k, VF.arg0, VF.evS_0, VF.evS_1, VF.evSJ_k, VF.esK0_n, VF.esK0_s, VF.esK0_rz, VF.esK1_n, VF.esK1_s, VF.evT_0, VF.evT_1, VF.evTJ_k, VF.tsK0_k, VF.tsK0_rz, VF.tsK1_k, VF.evG_0, VF.evG_1, VF.evGJ_k, VF.gsK0_t, VF.gsK0_f, VF.gsK1_t, VF.frzF_cons, VF.frzF_nil, VF.envF_cons, VF.envF_nil, VF.fr1_false, VF.fr1_fz, VF.fr1_no, VF.fr1_ow, VF.en1_fz, VF.en1_no, VF.en1_ow, VF.en1_own, VF.erB_ok, VF.erB_rz, VF.arB_ok, VF.arB_rz, VF.irB_ok, VF.irB_rz, VF.trB_ok, VF.trB_rz, VF.obB_ok, VF.gaB_ok, VF.gaB_rz, VF.c1_k, VF.c2_k, VF.c2'_k, VF.c3_k, VF.c4_k, VF.c4'_k, VF.c5_k, VF.c6_k, VF.c7_k, VF.c8_k, VF.c9_k, VF.c10_k, VF.c11_k, VF.c11'_k, VF.c12_k, VF.c13_k, VF.c13'_k, VF.c13''_k, VF.c14_k, VF.c15_k, VF.c16_k, VF.c17_k, VF.c18_k, VF.c19_k, VF.c20_k, VF.c21_k, VF.c22_k, VF.c23_k, VF.c24_k, VF.c25_k, VF.k1_k, VF.k1'_k, VF.k2_k, VF.k3_k, VF.k4_k, VF.eVar_k, VF.varK_k, VF.eC_k, VF.eOp1_k, VF.eOp2_k, VF.erO_k, VF.eCall_k, VF.aNil_k, VF.aCons_k, VF.eLst_k, VF.eTup_k, VF.eIf_k, VF.eAnd_k, VF.eOr_k, VF.eNot_k, VF.andK_k, VF.orK_k, VF.notK_k, VF.eCh_k, VF.chK_k, VF.eBd_none, VF.eBd_some, VF.bdK_k, VF.eSl_k, VF.uNil_k, VF.uCons_k, VF.uIo_k, VF.uPerm_k, VF.permL, VF.eUser_k, VF.usrK_none, VF.usrK_some, VF.usrJ_k, eq_self, VF.sTest_k, VF.tBool_k, VF.sTru_k, VF.tTru_bool, VF.tTru_int, VF.tTru_list, VF.tTru_none, VF.sNot_k, VF.sAnd_k, VF.sOr_k, VF.sYes_k, VF.gIter_k, VF.gSeq_list, VF.gSeq_tuple, VF.gArgs_k, VF.gaK_k, VF.eLc_k, VF.lcK_k, VF.iiD_k, VF.icD_if, VF.ibD_k, VF.intD_int, VF.intD_bool, VF.addD_int, VF.negD_k, VF.cMod_k, VF.cDiv_k, VF.ixD_list, VF.ixD_tuple, VF.itD_k, VF.ixN_pos, VF.atI_pos, VF.lv0_int, VF.lv0_bool, VF.lv0_str, VF.lv0_none, VF.lv0_list, VF.lv0_tuple, VF.scal_int, VF.scal_bool, VF.scal_str, VF.scal_none, VF.scal_list, VF.scal_tuple, VF.neD_int, VF.eqD_int, VF.rng1_if, VF.rng2_if, VF.enumG_k, VF.zipG_k, Int.toNat_natCast, VF.notND_none, VF.notND_int, VF.notND_bool, VF.notND_str, VF.notND_list, VF.notND_tuple, VF.isND_none, VF.isND_int, VF.isND_list, VF.isND_tuple, VF.isND_exc, VF.eIsa_k, VF.lenD_list, VF.lenD_tuple, beq_self_eq_true, VF.slD_k, VF.cut_tail, VF.lzD_k, VF.wipeE, VF.lmin_nn, VF.up_n, VF.up_s, VF.lmin_ns, VF.lmin_sn, VF.lmin_ss, VF.owned_n, VF.owned_s, List.contains_cons, List.contains_nil, List.getElem?_cons_zero, List.getElem?_cons_succ, List.getElem?_nil, List.set_cons_zero, List.set_cons_succ, List.length_cons, List.length_nil, List.append_nil, List.cons_append, List.nil_append, List.replicate_succ, List.replicate_zero, Option.some.injEq, Bool.and_true, Bool.true_and, Bool.and_false, Bool.false_and, Bool.or_false, Bool.false_or, Bool.or_true, Bool.true_or, Bool.not_true, Bool.not_false, Nat.reduceBEq, Nat.reduceAdd, Nat.reduceSub, Nat.reduceLeDiff, Nat.reduceEqDiff, Nat.reduceLT, Int.reduceToNat, decide_true, decide_false, ↓reduceIte, reduceCtorEq, Bool.false_eq_true, Nat.zero_add, F__is_row, lv0_row, lenD_row, gSeq_row, e, ixD_row, h, cellD_s]
theorem v_check_web {n : Nat} {c : Nat → Nat → Option Int} (h : ∀ x, x < n → c x x = some 0) : fnM none 3 F_check_web [some (webD n c)] none = .ok none .none none := by
  have l1 : ∃ s, forR (tgN 1) B_check_web_1 ((List.range n).map fun x => rowD n (c x)) [.fz (webD n c), .no, .no] = .nx [.fz (webD n c), s, .no] := by
    refine forR_to (b := tgN 1) (F := B_check_web_1) (ds := (List.range n).map fun x => rowD n (c x)) (fun i ρ => ∃ s, ρ = [.fz (webD n c), s, .no]) ⟨.no, rfl⟩ ?_ ?_
    · rintro i ρ d hd ⟨s, rfl⟩
      have : ∃ x, d = rowD n (c x) := by
        rw [List.getElem?_map] at hd
        cases q : (List.range n)[i]? with
        | none => rw [q] at hd; cases hd
        | some y => rw [q] at hd; exact ⟨y, (Option.some.inj hd).symm⟩
      obtain ⟨x, rfl⟩ := this
      refine ⟨_, _, rfl, .inl ?_, .fz (rowD n (c x)), rfl⟩
      simp (disch := (first | assumption | (simp only [VF.owned_n, VF.owned_s, VF.scal_int, VF.scal_bool, VF.scal_str, VF.scal_none, VF.scal_list, VF.scal_tuple, VF.SZ, List.length_cons, List.length_nil, List.length_set, List.length_append, List.length_map, List.length_range, Int.reduceToNat, Int.reduceLE, Int.reduceLT, Nat.reduceAdd, Nat.reduceLT, Nat.reduceLeDiff, Nat.reduceEqDiff, Nat.zero_add, Nat.zero_lt_succ, Int.toNat_natCast, ne_eq, reduceCtorEq, not_false_eq_true]; done) | (simp only [VF.owned_n, VF.owned_s, VF.scal_int, VF.scal_bool, VF.scal_str, VF.scal_none, VF.scal_list, VF.scal_tuple, VF.SZ, List.length_cons, List.length_nil, List.length_set, List.length_append, List.length_map, List.length_range, Int.reduceToNat, Int.reduceLE, Int.reduceLT, Nat.reduceAdd, Nat.reduceLT, Nat.reduceLeDiff, Nat.reduceEqDiff, Nat.zero_add, Nat.zero_lt_succ, Int.toNat_natCast, ne_eq, reduceCtorEq, not_false_eq_true]; first | assumption | omega) | decide | omega)) only [VF.sSq_k, VF.srB_nx, VF.srB_rt, VF.srB_rz, VF.srB_bk, VF.srB_ct, VF.sIf_k, VF.tsB_ok, VF.tsB_rz, VF.sFor_k, VF.gsB_ok, VF.gsB_rz, VF.sDrop_k, VF.sRet_k, VF.sAsg_k, VF.sAsgT_k, VF.sRz_k, VF.esB_ok, VF.esB_rz, VF.put_int, VF.put_bool, VF.put_str, VF.put_none, VF.put_0, VF.put_listn, VF.put_list1, VF.put_tupn, VF.put_tup1, VF.sRetV_k, VF.retVK_ow, VF.retVK_fz, VF.sApp_k, VF.sAppK_k, VF.appD_k, VF.appK_n, VF.appK_s, VF.sAppV_k, VF.sAppVK_ow, VF.sAppVK_fz, VF.sSet_k, VF.sSetK_k, VF.setK_k, VF.setD_k, VF.setDK_n, VF.setDK_s, VF.sNx, VF.sBk, VF.sCt, VF.sTry_k, VF.tryK_nx, VF.drp_fz, VF.drp_no, VF.drp_ow, VF.excD_s, VF.excD_n, VF.lv0_exc, VF.isXD_none, List.map_cons, List.map_nil, VF.retR_rt, VF.retR_nx, VF.retR_rz, VF.retOf_0, VF.retOf_1, VF.retK_k, VF.arg0, VF.evS_0, VF.evS_1, VF.evSJ_k, VF.esK0_n, VF.esK0_s, VF.esK0_rz, VF.esK1_n, VF.esK1_s, VF.evT_0, VF.evT_1, VF.evTJ_k, VF.tsK0_k, VF.tsK0_rz, VF.tsK1_k, VF.evG_0, VF.evG_1, VF.evGJ_k, VF.gsK0_t, VF.gsK0_f, VF.gsK1_t, VF.frzF_cons, VF.frzF_nil, VF.envF_cons, VF.envF_nil, VF.fr1_false, VF.fr1_fz, VF.fr1_no, VF.fr1_ow, VF.en1_fz, VF.en1_no, VF.en1_ow, VF.en1_own, VF.erB_ok, VF.erB_rz, VF.arB_ok, VF.arB_rz, VF.irB_ok, VF.irB_rz, VF.trB_ok, VF.trB_rz, VF.obB_ok, VF.gaB_ok, VF.gaB_rz, VF.c1_k, VF.c2_k, VF.c2'_k, VF.c3_k, VF.c4_k, VF.c4'_k, VF.c5_k, VF.c6_k, VF.c7_k, VF.c8_k, VF.c9_k, VF.c10_k, VF.c11_k, VF.c11'_k, VF.c12_k, VF.c13_k, VF.c13'_k, VF.c13''_k, VF.c14_k, VF.c15_k, VF.c16_k, VF.c17_k, VF.c18_k, VF.c19_k, VF.c20_k, VF.c21_k, VF.c22_k, VF.c23_k, VF.c24_k, VF.c25_k, VF.k1_k, VF.k1'_k, VF.k2_k, VF.k3_k, VF.k4_k, VF.eVar_k, VF.varK_k, VF.eC_k, VF.eOp1_k, VF.eOp2_k, VF.erO_k, VF.eCall_k, VF.aNil_k, VF.aCons_k, VF.eLst_k, VF.eTup_k, VF.eIf_k, VF.eAnd_k, VF.eOr_k, VF.eNot_k, VF.andK_k, VF.orK_k, VF.notK_k, VF.eCh_k, VF.chK_k, VF.eBd_none, VF.eBd_some, VF.bdK_k, VF.eSl_k, VF.uNil_k, VF.uCons_k, VF.uIo_k, VF.uPerm_k, VF.permL, VF.eUser_k, VF.usrK_none, VF.usrK_some, VF.usrJ_k, eq_self, VF.sTest_k, VF.tBool_k, VF.sTru_k, VF.tTru_bool, VF.tTru_int, VF.tTru_list, VF.tTru_none, VF.sNot_k, VF.sAnd_k, VF.sOr_k, VF.sYes_k, VF.gIter_k, VF.gSeq_list, VF.gSeq_tuple, VF.gArgs_k, VF.gaK_k, VF.eLc_k, VF.lcK_k, VF.iiD_k, VF.icD_if, VF.ibD_k, VF.intD_int, VF.intD_bool, VF.addD_int, VF.negD_k, VF.cMod_k, VF.cDiv_k, VF.ixD_list, VF.ixD_tuple, VF.itD_k, VF.ixN_pos, VF.atI_pos, VF.lv0_int, VF.lv0_bool, VF.lv0_str, VF.lv0_none, VF.lv0_list, VF.lv0_tuple, VF.scal_int, VF.scal_bool, VF.scal_str, VF.scal_none, VF.scal_list, VF.scal_tuple, VF.neD_int, VF.eqD_int, VF.rng1_if, VF.rng2_if, VF.enumG_k, VF.zipG_k, Int.toNat_natCast, VF.notND_none, VF.notND_int, VF.notND_bool, VF.notND_str, VF.notND_list, VF.notND_tuple, VF.isND_none, VF.isND_int, VF.isND_list, VF.isND_tuple, VF.isND_exc, VF.eIsa_k, VF.lenD_list, VF.lenD_tuple, beq_self_eq_true, VF.slD_k, VF.cut_tail, VF.lzD_k, VF.wipeE, VF.lmin_nn, VF.up_n, VF.up_s, VF.lmin_ns, VF.lmin_sn, VF.lmin_ss, VF.owned_n, VF.owned_s, List.contains_cons, List.contains_nil, List.getElem?_cons_zero, List.getElem?_cons_succ, List.getElem?_nil, List.set_cons_zero, List.set_cons_succ, List.length_cons, List.length_nil, List.append_nil, List.cons_append, List.nil_append, List.replicate_succ, List.replicate_zero, Option.some.injEq, Bool.and_true, Bool.true_and, Bool.and_false, Bool.false_and, Bool.or_false, Bool.false_or, Bool.or_true, Bool.true_or, Bool.not_true, Bool.not_false, Nat.reduceBEq, Nat.reduceAdd, Nat.reduceSub, Nat.reduceLeDiff, Nat.reduceEqDiff, Nat.reduceLT, Int.reduceToNat, decide_true, decide_false, ↓reduceIte, reduceCtorEq, Bool.false_eq_true, Nat.zero_add, B_check_web_1, lv0_row, isa_row, isaS_ll]
    · rintro ρ' ⟨s, rfl⟩ e
      exact ⟨s, e⟩
  obtain ⟨s, e1⟩ := l1
  refine forR_to (b := tgT [2, 1]) (F := B_check_web_2) (ds := enD 0 ((List.range n).map fun x => rowD n (c x))) (ρ := [.fz (webD n c), s, .no]) (fun i ρ => ∃ s t, ρ = [.fz (webD n c), s, t]) ⟨s, .no, rfl⟩ ?_ ?_
  · rintro i ρ d hd ⟨s, t, rfl⟩
    obtain ⟨r, h1, rfl⟩ := enD_inv hd
    rw [Nat.zero_add]
    rw [List.getElem?_map] at h1
    by_cases hi : i < n
    · rw [List.getElem?_range hi] at h1
      obtain rfl := Option.some.inj h1
      refine ⟨_, _, tgT2, .inl ?_, .fz (rowD n (c i)), .fz (.int i), rfl⟩
      simp (disch := (first | assumption | (simp only [VF.owned_n, VF.owned_s, VF.scal_int, VF.scal_bool, VF.scal_str, VF.scal_none, VF.scal_list, VF.scal_tuple, VF.SZ, List.length_cons, List.length_nil, List.length_set, List.length_append, List.length_map, List.length_range, Int.reduceToNat, Int.reduceLE, Int.reduceLT, Nat.reduceAdd, Nat.reduceLT, Nat.reduceLeDiff, Nat.reduceEqDiff, Nat.zero_add, Nat.zero_lt_succ, Int.toNat_natCast, ne_eq, reduceCtorEq, not_false_eq_true]; done) | (simp only [VF.owned_n, VF.owned_s, VF.scal_int, VF.scal_bool, VF.scal_str, VF.scal_none, VF.scal_list, VF.scal_tuple, VF.SZ, List.length_cons, List.length_nil, List.length_set, List.length_append, List.length_map, List.length_range, Int.reduceToNat, Int.reduceLE, Int.reduceLT, Nat.reduceAdd, Nat.reduceLT, Nat.reduceLeDiff, Nat.reduceEqDiff, Nat.zero_add, Nat.zero_lt_succ, Int.toNat_natCast, ne_eq, reduceCtorEq, not_false_eq_true]; first | assumption | omega) | decide | omega)) only [VF.sSq_k, VF.srB_nx, VF.srB_rt, VF.srB_rz, VF.srB_bk, VF.srB_ct, VF.sIf_k, VF.tsB_ok, VF.tsB_rz, VF.sFor_k, VF.gsB_ok, VF.gsB_rz, VF.sDrop_k, VF.sRet_k, VF.sAsg_k, VF.sAsgT_k, VF.sRz_k, VF.esB_ok, VF.esB_rz, VF.put_int, VF.put_bool, VF.put_str, VF.put_none, VF.put_0, VF.put_listn, VF.put_list1, VF.put_tupn, VF.put_tup1, VF.sRetV_k, VF.retVK_ow, VF.retVK_fz, VF.sApp_k, VF.sAppK_k, VF.appD_k, VF.appK_n, VF.appK_s, VF.sAppV_k, VF.sAppVK_ow, VF.sAppVK_fz, VF.sSet_k, VF.sSetK_k, VF.setK_k, VF.setD_k, VF.setDK_n, VF.setDK_s, VF.sNx, VF.sBk, VF.sCt, VF.sTry_k, VF.tryK_nx, VF.drp_fz, VF.drp_no, VF.drp_ow, VF.excD_s, VF.excD_n, VF.lv0_exc, VF.isXD_none, List.map_cons, List.map_nil, VF.retR_rt, VF.retR_nx, VF.retR_rz, VF.retOf_0, VF.retOf_1, VF.retK_k, VF.arg0, VF.evS_0, VF.evS_1, VF.evSJ_k, VF.esK0_n, VF.esK0_s, VF.esK0_rz, VF.esK1_n, VF.esK1_s, VF.evT_0, VF.evT_1, VF.evTJ_k, VF.tsK0_k, VF.tsK0_rz, VF.tsK1_k, VF.evG_0, VF.evG_1, VF.evGJ_k, VF.gsK0_t, VF.gsK0_f, VF.gsK1_t, VF.frzF_cons, VF.frzF_nil, VF.envF_cons, VF.envF_nil, VF.fr1_false, VF.fr1_fz, VF.fr1_no, VF.fr1_ow, VF.en1_fz, VF.en1_no, VF.en1_ow, VF.en1_own, VF.erB_ok, VF.erB_rz, VF.arB_ok, VF.arB_rz, VF.irB_ok, VF.irB_rz, VF.trB_ok, VF.trB_rz, VF.obB_ok, VF.gaB_ok, VF.gaB_rz, VF.c1_k, VF.c2_k, VF.c2'_k, VF.c3_k, VF.c4_k, VF.c4'_k, VF.c5_k, VF.c6_k, VF.c7_k, VF.c8_k, VF.c9_k, VF.c10_k, VF.c11_k, VF.c11'_k, VF.c12_k, VF.c13_k, VF.c13'_k, VF.c13''_k, VF.c14_k, VF.c15_k, VF.c16_k, VF.c17_k, VF.c18_k, VF.c19_k, VF.c20_k, VF.c21_k, VF.c22_k, VF.c23_k, VF.c24_k, VF.c25_k, VF.k1_k, VF.k1'_k, VF.k2_k, VF.k3_k, VF.k4_k, VF.eVar_k, VF.varK_k, VF.eC_k, VF.eOp1_k, VF.eOp2_k, VF.erO_k, VF.eCall_k, VF.aNil_k, VF.aCons_k, VF.eLst_k, VF.eTup_k, VF.eIf_k, VF.eAnd_k, VF.eOr_k, VF.eNot_k, VF.andK_k, VF.orK_k, VF.notK_k, VF.eCh_k, VF.chK_k, VF.eBd_none, VF.eBd_some, VF.bdK_k, VF.eSl_k, VF.uNil_k, VF.uCons_k, VF.uIo_k, VF.uPerm_k, VF.permL, VF.eUser_k, VF.usrK_none, VF.usrK_some, VF.usrJ_k, eq_self, VF.sTest_k, VF.tBool_k, VF.sTru_k, VF.tTru_bool, VF.tTru_int, VF.tTru_list, VF.tTru_none, VF.sNot_k, VF.sAnd_k, VF.sOr_k, VF.sYes_k, VF.gIter_k, VF.gSeq_list, VF.gSeq_tuple, VF.gArgs_k, VF.gaK_k, VF.eLc_k, VF.lcK_k, VF.iiD_k, VF.icD_if, VF.ibD_k, VF.intD_int, VF.intD_bool, VF.addD_int, VF.negD_k, VF.cMod_k, VF.cDiv_k, VF.ixD_list, VF.ixD_tuple, VF.itD_k, VF.ixN_pos, VF.atI_pos, VF.lv0_int, VF.lv0_bool, VF.lv0_str, VF.lv0_none, VF.lv0_list, VF.lv0_tuple, VF.scal_int, VF.scal_bool, VF.scal_str, VF.scal_none, VF.scal_list, VF.scal_tuple, VF.neD_int, VF.eqD_int, VF.rng1_if, VF.rng2_if, VF.enumG_k, VF.zipG_k, Int.toNat_natCast, VF.notND_none, VF.notND_int, VF.notND_bool, VF.notND_str, VF.notND_list, VF.notND_tuple, VF.isND_none, VF.isND_int, VF.isND_list, VF.isND_tuple, VF.isND_exc, VF.eIsa_k, VF.lenD_list, VF.lenD_tuple, beq_self_eq_true, VF.slD_k, VF.cut_tail, VF.lzD_k, VF.wipeE, VF.lmin_nn, VF.up_n, VF.up_s, VF.lmin_ns, VF.lmin_sn, VF.lmin_ss, VF.owned_n, VF.owned_s, List.contains_cons, List.contains_nil, List.getElem?_cons_zero, List.getElem?_cons_succ, List.getElem?_nil, List.set_cons_zero, List.set_cons_succ, List.length_cons, List.length_nil, List.append_nil, List.cons_append, List.nil_append, List.replicate_succ, List.replicate_zero, Option.some.injEq, Bool.and_true, Bool.true_and, Bool.and_false, Bool.false_and, Bool.or_false, Bool.false_or, Bool.or_true, Bool.true_or, Bool.not_true, Bool.not_false, Nat.reduceBEq, Nat.reduceAdd, Nat.reduceSub, Nat.reduceLeDiff, Nat.reduceEqDiff, Nat.reduceLT, Int.reduceToNat, decide_true, decide_false, ↓reduceIte, reduceCtorEq, Bool.false_eq_true, Nat.zero_add, B_check_web_2, lv0_row, lv0_web, lenD_web, v_is_row hi (h i hi)]
    · rw [List.getElem?_eq_none (by simpa using hi)] at h1; cases h1
  · rintro ρ' ⟨s', t, rfl⟩ e
    refine fn_eq ?_
    simp (disch := (first | assumption | (simp only [VF.owned_n, VF.owned_s, VF.scal_int, VF.scal_bool, VF.scal_str, VF.scal_none, VF.scal_list, VF.scal_tuple, VF.SZ, List.length_cons, List.length_nil, List.length_set, List.length_append, List.length_map, List.length_range, Int.reduceToNat, Int.reduceLE, Int.reduceLT, Nat.reduceAdd, Nat.reduceLT, Nat.reduceLeDiff, Nat.reduceEqDiff, Nat.zero_add, Nat.zero_lt_succ, Int.toNat_natCast, ne_eq, reduceCtorEq, not_false_eq_true]; done) | (simp only [VF.owned_n, VF.owned_s, VF.scal_int, VF.scal_bool, VF.scal_str, VF.scal_none, VF.scal_list, VF.scal_tuple, VF.SZ, List.length_cons, List.length_nil, List.length_set, List.length_append, List.length_map, List.length_range, Int.reduceToNat, Int.reduceLE, Int.reduceLT, Nat.reduceAdd, Nat.reduceLT, Nat.reduceLeDiff, Nat.reduceEqDiff, Nat.zero_add, Nat.zero_lt_succ, Int.toNat_natCast, ne_eq, reduceCtorEq, not_false_eq_true]; first | assumption | omega) | decide | omega)) only [VF.sSq_k, VF.srB_nx, VF.srB_rt, VF.srB_rz, VF.srB_bk, VF.srB_ct, VF.sIf_k, VF.tsB_ok, VF.tsB_rz, VF.sFor_k, VF.gsB_ok, VF.gsB_rz, VF.sDrop_k, VF.sRet_k, VF.sAsg_k, VF.sAsgT_k, VF.sRz_k, VF.esB_ok, VF.esB_rz, VF.put_int, VF.put_bool, VF.put_str, VF.put_none, VF.put_0, VF.put_listn, VF.put_list1, VF.put_tupn, VF.put_tup1, VF.sRetV_k, VF.retVK_ow, VF.retVK_fz, VF.sApp_k, VF.sAppK_k, VF.appD_k, VF.appK_n, VF.appK_s, VF.sAppV_k, VF.sAppVK_ow, VF.sAppVK_fz, VF.sSet_k, VF.sSetK_k, VF.setK_k, VF.setD_k, VF.setDK_n, VF.setDK_s, VF.sNx, VF.sBk, VF.sCt, VF.sTry_k, VF.tryK_nx, VF.drp_fz, VF.drp_no, VF.drp_ow, VF.excD_s, VF.excD_n, VF.lv0_exc, VF.isXD_none, List.map_cons, List.map_nil, VF.retR_rt, VF.retR_nx, VF.retR_rz, VF.retOf_0, VF.retOf_1, VF.retK_k, VF.arg0, VF.evS_0, VF.evS_1, VF.evSJ_k, VF.esK0_n, VF.esK0_s, VF.esK0_rz, VF.esK1_n, VF.esK1_s, VF.evT_0, VF.evT_1, VF.evTJ_k, VF.tsK0_k, VF.tsK0_rz, VF.tsK1_k, VF.evG_0, VF.evG_1, VF.evGJ_k, VF.gsK0_t, VF.gsK0_f, VF.gsK1_t, VF.frzF_cons, VF.frzF_nil, VF.envF_cons, VF.envF_nil, VF.fr1_false, VF.fr1_fz, VF.fr1_no, VF.fr1_ow, VF.en1_fz, VF.en1_no, VF.en1_ow, VF.en1_own, VF.erB_ok, VF.erB_rz, VF.arB_ok, VF.arB_rz, VF.irB_ok, VF.irB_rz, VF.trB_ok, VF.trB_rz, VF.obB_ok, VF.gaB_ok, VF.gaB_rz, VF.c1_k, VF.c2_k, VF.c2'_k, VF.c3_k, VF.c4_k, VF.c4'_k, VF.c5_k, VF.c6_k, VF.c7_k, VF.c8_k, VF.c9_k, VF.c10_k, VF.c11_k, VF.c11'_k, VF.c12_k, VF.c13_k, VF.c13'_k, VF.c13''_k, VF.c14_k, VF.c15_k, VF.c16_k, VF.c17_k, VF.c18_k, VF.c19_k, VF.c20_k, VF.c21_k, VF.c22_k, VF.c23_k, VF.c24_k, VF.c25_k, VF.k1_k, VF.k1'_k, VF.k2_k, VF.k3_k, VF.k4_k, VF.eVar_k, VF.varK_k, VF.eC_k, VF.eOp1_k, VF.eOp2_k, VF.erO_k, VF.eCall_k, VF.aNil_k, VF.aCons_k, VF.eLst_k, VF.eTup_k, VF.eIf_k, VF.eAnd_k, VF.eOr_k, VF.eNot_k, VF.andK_k, VF.orK_k, VF.notK_k, VF.eCh_k, VF.chK_k, VF.eBd_none, VF.eBd_some, VF.bdK_k, VF.eSl_k, VF.uNil_k, VF.uCons_k, VF.uIo_k, VF.uPerm_k, VF.permL, VF.eUser_k, VF.usrK_none, VF.usrK_some, VF.usrJ_k, eq_self, VF.sTest_k, VF.tBool_k, VF.sTru_k, VF.tTru_bool, VF.tTru_int, VF.tTru_list, VF.tTru_none, VF.sNot_k, VF.sAnd_k, VF.sOr_k, VF.sYes_k, VF.gIter_k, VF.gSeq_list, VF.gSeq_tuple, VF.gArgs_k, VF.gaK_k, VF.eLc_k, VF.lcK_k, VF.iiD_k, VF.icD_if, VF.ibD_k, VF.intD_int, VF.intD_bool, VF.addD_int, VF.negD_k, VF.cMod_k, VF.cDiv_k, VF.ixD_list, VF.ixD_tuple, VF.itD_k, VF.ixN_pos, VF.atI_pos, VF.lv0_int, VF.lv0_bool, VF.lv0_str, VF.lv0_none, VF.lv0_list, VF.lv0_tuple, VF.scal_int, VF.scal_bool, VF.scal_str, VF.scal_none, VF.scal_list, VF.scal_tuple, VF.neD_int, VF.eqD_int, VF.rng1_if, VF.rng2_if, VF.enumG_k, VF.zipG_k, Int.toNat_natCast, VF.notND_none, VF.notND_int, VF.notND_bool, VF.notND_str, VF.notND_list, VF.notND_tuple, VF.isND_none, VF.isND_int, VF.isND_list, VF.isND_tuple, VF.isND_exc, VF.eIsa_k, VF.lenD_list, VF.lenD_tuple, beq_self_eq_true, VF.slD_k, VF.cut_tail, VF.lzD_k, VF.wipeE, VF.lmin_nn, VF.up_n, VF.up_s, VF.lmin_ns, VF.lmin_sn, VF.lmin_ss, VF.owned_n, VF.owned_s, List.contains_cons, List.contains_nil, List.getElem?_cons_zero, List.getElem?_cons_succ, List.getElem?_nil, List.set_cons_zero, List.set_cons_succ, List.length_cons, List.length_nil, List.append_nil, List.cons_append, List.nil_append, List.replicate_succ, List.replicate_zero, Option.some.injEq, Bool.and_true, Bool.true_and, Bool.and_false, Bool.false_and, Bool.or_false, Bool.false_or, Bool.or_true, Bool.true_or, Bool.not_true, Bool.not_false, Nat.reduceBEq, Nat.reduceAdd, Nat.reduceSub, Nat.reduceLeDiff, Nat.reduceEqDiff, Nat.reduceLT, Int.reduceToNat, decide_true, decide_false, ↓reduceIte, reduceCtorEq, Bool.false_eq_true, Nat.zero_add, F_check_web, lv0_web, isa_web, isaS_ll, gSeq_web, e1, enum_web, e]
/-! places, edges, walks -/
def isPl (d : D) (n : Int) : Bool := match d with
  | .int i => decide (0 ≤ i) && decide (i < n)
  | _ => false
def isWh : D → Bool
  | .int _ => true
  | _ => false
theorem v_is_whole : ∀ (d : D), kindD d ≠ none → fnM none 1 F_is_whole [some d] none = .ok none (.bool (isWh d)) none
  | .none, _ => by kernel_rfl
  | .bool _, _ => by kernel_rfl
  | .int _, _ => by kernel_rfl
  | .str _, _ => by kernel_rfl
  | .list _, _ => by kernel_rfl
  | .tuple _, _ => by kernel_rfl
  | .dict [], _ => by kernel_rfl
  | .dict (_ :: _), h => absurd rfl h
theorem v_is_place (d : D) (n : Int) (h : kindD d ≠ none) : fnM none 2 F_is_place [some d, some (.int n)] none = .ok none (.bool (isPl d n)) none := by
  have w := v_is_whole d h
  refine fn_eq ?_
  cases hd : isWh d with
  | true =>
    rw [hd] at w
    cases d with
    | int i =>
      simp (disch := (first | assumption | (simp only [VF.owned_n, VF.owned_s, VF.scal_int, VF.scal_bool, VF.scal_str, VF.scal_none, VF.scal_list, VF.scal_tuple, VF.SZ, List.length_cons, List.length_nil, List.length_set, List.length_append, List.length_map, List.length_range, Int.reduceToNat, Int.reduceLE, Int.reduceLT, Nat.reduceAdd, Nat.reduceLT, Nat.reduceLeDiff, Nat.reduceEqDiff, Nat.zero_add, Nat.zero_lt_succ, Int.toNat_natCast, ne_eq, reduceCtorEq, not_false_eq_true]; done) | (simp only [VF.owned_n, VF.owned_s, VF.scal_int, VF.scal_bool, VF.scal_str, VF.scal_none, VF.scal_list, VF.scal_tuple, VF.SZ, List.length_cons, List.length_nil, List.length_set, List.length_append, List.length_map, List.length_range, Int.reduceToNat, Int.reduceLE, Int.reduceLT, Nat.reduceAdd, Nat.reduceLT, Nat.reduceLeDiff, Nat.reduceEqDiff, Nat.zero_add, Nat.zero_lt_succ, Int.toNat_natCast, ne_eq, reduceCtorEq, not_false_eq_true]; first | assumption | omega) | decide | omega)) only [VF.sSq_k, VF.srB_nx, VF.srB_rt, VF.srB_rz, VF.srB_bk, VF.srB_ct, VF.sIf_k, VF.tsB_ok, VF.tsB_rz, VF.sFor_k, VF.gsB_ok, VF.gsB_rz, VF.sDrop_k, VF.sRet_k, VF.sAsg_k, VF.sAsgT_k, VF.sRz_k, VF.esB_ok, VF.esB_rz, VF.put_int, VF.put_bool, VF.put_str, VF.put_none, VF.put_0, VF.put_listn, VF.put_list1, VF.put_tupn, VF.put_tup1, VF.sRetV_k, VF.retVK_ow, VF.retVK_fz, VF.sApp_k, VF.sAppK_k, VF.appD_k, VF.appK_n, VF.appK_s, VF.sAppV_k, VF.sAppVK_ow, VF.sAppVK_fz, VF.sSet_k, VF.sSetK_k, VF.setK_k, VF.setD_k, VF.setDK_n, VF.setDK_s, VF.sNx, VF.sBk, VF.sCt, VF.sTry_k, VF.tryK_nx, VF.drp_fz, VF.drp_no, VF.drp_ow, VF.excD_s, VF.excD_n, VF.lv0_exc, VF.isXD_none, List.map_cons, List.map_nil, VF.retR_rt, VF.retR_nx, VF.retR_rz, VF.retOf_0, VF.retOf_1, VF.retK_k, VF.arg0, VF.evS_0, VF.evS_1, VF.evSJ_k, VF.esK0_n, VF.esK0_s, VF.esK0_rz, VF.esK1_n, VF.esK1_s, VF.evT_0, VF.evT_1, VF.evTJ_k, VF.tsK0_k, VF.tsK0_rz, VF.tsK1_k, VF.evG_0, VF.evG_1, VF.evGJ_k, VF.gsK0_t, VF.gsK0_f, VF.gsK1_t, VF.frzF_cons, VF.frzF_nil, VF.envF_cons, VF.envF_nil, VF.fr1_false, VF.fr1_fz, VF.fr1_no, VF.fr1_ow, VF.en1_fz, VF.en1_no, VF.en1_ow, VF.en1_own, VF.erB_ok, VF.erB_rz, VF.arB_ok, VF.arB_rz, VF.irB_ok, VF.irB_rz, VF.trB_ok, VF.trB_rz, VF.obB_ok, VF.gaB_ok, VF.gaB_rz, VF.c1_k, VF.c2_k, VF.c2'_k, VF.c3_k, VF.c4_k, VF.c4'_k, VF.c5_k, VF.c6_k, VF.c7_k, VF.c8_k, VF.c9_k, VF.c10_k, VF.c11_k, VF.c11'_k, VF.c12_k, VF.c13_k, VF.c13'_k, VF.c13''_k, VF.c14_k, VF.c15_k, VF.c16_k, VF.c17_k, VF.c18_k, VF.c19_k, VF.c20_k, VF.c21_k, VF.c22_k, VF.c23_k, VF.c24_k, VF.c25_k, VF.k1_k, VF.k1'_k, VF.k2_k, VF.k3_k, VF.k4_k, VF.eVar_k, VF.varK_k, VF.eC_k, VF.eOp1_k, VF.eOp2_k, VF.erO_k, VF.eCall_k, VF.aNil_k, VF.aCons_k, VF.eLst_k, VF.eTup_k, VF.eIf_k, VF.eAnd_k, VF.eOr_k, VF.eNot_k, VF.andK_k, VF.orK_k, VF.notK_k, VF.eCh_k, VF.chK_k, VF.eBd_none, VF.eBd_some, VF.bdK_k, VF.eSl_k, VF.uNil_k, VF.uCons_k, VF.uIo_k, VF.uPerm_k, VF.permL, VF.eUser_k, VF.usrK_none, VF.usrK_some, VF.usrJ_k, eq_self, VF.sTest_k, VF.tBool_k, VF.sTru_k, VF.tTru_bool, VF.tTru_int, VF.tTru_list, VF.tTru_none, VF.sNot_k, VF.sAnd_k, VF.sOr_k, VF.sYes_k, VF.gIter_k, VF.gSeq_list, VF.gSeq_tuple, VF.gArgs_k, VF.gaK_k, VF.eLc_k, VF.lcK_k, VF.iiD_k, VF.icD_if, VF.ibD_k, VF.intD_int, VF.intD_bool, VF.addD_int, VF.negD_k, VF.cMod_k, VF.cDiv_k, VF.ixD_list, VF.ixD_tuple, VF.itD_k, VF.ixN_pos, VF.atI_pos, VF.lv0_int, VF.lv0_bool, VF.lv0_str, VF.lv0_none, VF.lv0_list, VF.lv0_tuple, VF.scal_int, VF.scal_bool, VF.scal_str, VF.scal_none, VF.scal_list, VF.scal_tuple, VF.neD_int, VF.eqD_int, VF.rng1_if, VF.rng2_if, VF.enumG_k, VF.zipG_k, Int.toNat_natCast, VF.notND_none, VF.notND_int, VF.notND_bool, VF.notND_str, VF.notND_list, VF.notND_tuple, VF.isND_none, VF.isND_int, VF.isND_list, VF.isND_tuple, VF.isND_exc, VF.eIsa_k, VF.lenD_list, VF.lenD_tuple, beq_self_eq_true, VF.slD_k, VF.cut_tail, VF.lzD_k, VF.wipeE, VF.lmin_nn, VF.up_n, VF.up_s, VF.lmin_ns, VF.lmin_sn, VF.lmin_ss, VF.owned_n, VF.owned_s, List.contains_cons, List.contains_nil, List.getElem?_cons_zero, List.getElem?_cons_succ, List.getElem?_nil, List.set_cons_zero, List.set_cons_succ, List.length_cons, List.length_nil, List.append_nil, List.cons_append, List.nil_append, List.replicate_succ, List.replicate_zero, Option.some.injEq, Bool.and_true, Bool.true_and, Bool.and_false, Bool.false_and, Bool.or_false, Bool.false_or, Bool.or_true, Bool.true_or, Bool.not_true, Bool.not_false, Nat.reduceBEq, Nat.reduceAdd, Nat.reduceSub, Nat.reduceLeDiff, Nat.reduceEqDiff, Nat.reduceLT, Int.reduceToNat, decide_true, decide_false, ↓reduceIte, reduceCtorEq, Bool.false_eq_true, Nat.zero_add, F_is_place, w, isPl]
      cases decide (0 ≤ i) <;> rfl
    | _ => cases hd
  | false =>
    rw [hd] at w
    have e : isPl d n = false := by
      cases d with
      | int i => cases hd
      | _ => rfl
    simp (disch := (first | assumption | (simp only [VF.owned_n, VF.owned_s, VF.scal_int, VF.scal_bool, VF.scal_str, VF.scal_none, VF.scal_list, VF.scal_tuple, VF.SZ, List.length_cons, List.length_nil, List.length_set, List.length_append, List.length_map, List.length_range, Int.reduceToNat, Int.reduceLE, Int.reduceLT, Nat.reduceAdd, Nat.reduceLT, Nat.reduceLeDiff, Nat.reduceEqDiff, Nat.zero_add, Nat.zero_lt_succ, Int.toNat_natCast, ne_eq, reduceCtorEq, not_false_eq_true]; done) | (simp only [VF.owned_n, VF.owned_s, VF.scal_int, VF.scal_bool, VF.scal_str, VF.scal_none, VF.scal_list, VF.scal_tuple, VF.SZ, List.length_cons, List.length_nil, List.length_set, List.length_append, List.length_map, List.length_range, Int.reduceToNat, Int.reduceLE, Int.reduceLT, Nat.reduceAdd, Nat.reduceLT, Nat.reduceLeDiff, Nat.reduceEqDiff, Nat.zero_add, Nat.zero_lt_succ, Int.toNat_natCast, ne_eq, reduceCtorEq, not_false_eq_true]; first | assumption | omega) | decide | omega)) only [VF.sSq_k, VF.srB_nx, VF.srB_rt, VF.srB_rz, VF.srB_bk, VF.srB_ct, VF.sIf_k, VF.tsB_ok, VF.tsB_rz, VF.sFor_k, VF.gsB_ok, VF.gsB_rz, VF.sDrop_k, VF.sRet_k, VF.sAsg_k, VF.sAsgT_k, VF.sRz_k, VF.esB_ok, VF.esB_rz, VF.put_int, VF.put_bool, VF.put_str, VF.put_none, VF.put_0, VF.put_listn, VF.put_list1, VF.put_tupn, VF.put_tup1, VF.sRetV_k, VF.retVK_ow, VF.retVK_fz, VF.sApp_k, VF.sAppK_k, VF.appD_k, VF.appK_n, VF.appK_s, VF.sAppV_k, VF.sAppVK_ow, VF.sAppVK_fz, VF.sSet_k, VF.sSetK_k, VF.setK_k, VF.setD_k, VF.setDK_n, VF.setDK_s, VF.sNx, VF.sBk, VF.sCt, VF.sTry_k, VF.tryK_nx, VF.drp_fz, VF.drp_no, VF.drp_ow, VF.excD_s, VF.excD_n, VF.lv0_exc, VF.isXD_none, List.map_cons, List.map_nil, VF.retR_rt, VF.retR_nx, VF.retR_rz, VF.retOf_0, VF.retOf_1, VF.retK_k, VF.arg0, VF.evS_0, VF.evS_1, VF.evSJ_k, VF.esK0_n, VF.esK0_s, VF.esK0_rz, VF.esK1_n, VF.esK1_s, VF.evT_0, VF.evT_1, VF.evTJ_k, VF.tsK0_k, VF.tsK0_rz, VF.tsK1_k, VF.evG_0, VF.evG_1, VF.evGJ_k, VF.gsK0_t, VF.gsK0_f, VF.gsK1_t, VF.frzF_cons, VF.frzF_nil, VF.envF_cons, VF.envF_nil, VF.fr1_false, VF.fr1_fz, VF.fr1_no, VF.fr1_ow, VF.en1_fz, VF.en1_no, VF.en1_ow, VF.en1_own, VF.erB_ok, VF.erB_rz, VF.arB_ok, VF.arB_rz, VF.irB_ok, VF.irB_rz, VF.trB_ok, VF.trB_rz, VF.obB_ok, VF.gaB_ok, VF.gaB_rz, VF.c1_k, VF.c2_k, VF.c2'_k, VF.c3_k, VF.c4_k, VF.c4'_k, VF.c5_k, VF.c6_k, VF.c7_k, VF.c8_k, VF.c9_k, VF.c10_k, VF.c11_k, VF.c11'_k, VF.c12_k, VF.c13_k, VF.c13'_k, VF.c13''_k, VF.c14_k, VF.c15_k, VF.c16_k, VF.c17_k, VF.c18_k, VF.c19_k, VF.c20_k, VF.c21_k, VF.c22_k, VF.c23_k, VF.c24_k, VF.c25_k, VF.k1_k, VF.k1'_k, VF.k2_k, VF.k3_k, VF.k4_k, VF.eVar_k, VF.varK_k, VF.eC_k, VF.eOp1_k, VF.eOp2_k, VF.erO_k, VF.eCall_k, VF.aNil_k, VF.aCons_k, VF.eLst_k, VF.eTup_k, VF.eIf_k, VF.eAnd_k, VF.eOr_k, VF.eNot_k, VF.andK_k, VF.orK_k, VF.notK_k, VF.eCh_k, VF.chK_k, VF.eBd_none, VF.eBd_some, VF.bdK_k, VF.eSl_k, VF.uNil_k, VF.uCons_k, VF.uIo_k, VF.uPerm_k, VF.permL, VF.eUser_k, VF.usrK_none, VF.usrK_some, VF.usrJ_k, eq_self, VF.sTest_k, VF.tBool_k, VF.sTru_k, VF.tTru_bool, VF.tTru_int, VF.tTru_list, VF.tTru_none, VF.sNot_k, VF.sAnd_k, VF.sOr_k, VF.sYes_k, VF.gIter_k, VF.gSeq_list, VF.gSeq_tuple, VF.gArgs_k, VF.gaK_k, VF.eLc_k, VF.lcK_k, VF.iiD_k, VF.icD_if, VF.ibD_k, VF.intD_int, VF.intD_bool, VF.addD_int, VF.negD_k, VF.cMod_k, VF.cDiv_k, VF.ixD_list, VF.ixD_tuple, VF.itD_k, VF.ixN_pos, VF.atI_pos, VF.lv0_int, VF.lv0_bool, VF.lv0_str, VF.lv0_none, VF.lv0_list, VF.lv0_tuple, VF.scal_int, VF.scal_bool, VF.scal_str, VF.scal_none, VF.scal_list, VF.scal_tuple, VF.neD_int, VF.eqD_int, VF.rng1_if, VF.rng2_if, VF.enumG_k, VF.zipG_k, Int.toNat_natCast, VF.notND_none, VF.notND_int, VF.notND_bool, VF.notND_str, VF.notND_list, VF.notND_tuple, VF.isND_none, VF.isND_int, VF.isND_list, VF.isND_tuple, VF.isND_exc, VF.eIsa_k, VF.lenD_list, VF.lenD_tuple, beq_self_eq_true, VF.slD_k, VF.cut_tail, VF.lzD_k, VF.wipeE, VF.lmin_nn, VF.up_n, VF.up_s, VF.lmin_ns, VF.lmin_sn, VF.lmin_ss, VF.owned_n, VF.owned_s, List.contains_cons, List.contains_nil, List.getElem?_cons_zero, List.getElem?_cons_succ, List.getElem?_nil, List.set_cons_zero, List.set_cons_succ, List.length_cons, List.length_nil, List.append_nil, List.cons_append, List.nil_append, List.replicate_succ, List.replicate_zero, Option.some.injEq, Bool.and_true, Bool.true_and, Bool.and_false, Bool.false_and, Bool.or_false, Bool.false_or, Bool.or_true, Bool.true_or, Bool.not_true, Bool.not_false, Nat.reduceBEq, Nat.reduceAdd, Nat.reduceSub, Nat.reduceLeDiff, Nat.reduceEqDiff, Nat.reduceLT, Int.reduceToNat, decide_true, decide_false, ↓reduceIte, reduceCtorEq, Bool.false_eq_true, Nat.zero_add, F_is_place, w, e]
theorem v_has_edge {n x y : Nat} {c : Nat → Nat → Option Int} (hx : x < n) (hy : y < n) : fnM none 3 F_has_edge [some (webD n c), some (.int x), some (.int y)] none = .ok none (.bool (!(x == y) && (c x y).isSome)) none := by
  have q : ((x : Int) == (y : Int)) = (x == y) := by rw [Bool.eq_iff_iff]; simp only [beq_iff_eq]; omega
  refine fn_eq ?_
  cases h : (x == y) with
  | true => simp (disch := (first | assumption | (simp only [VF.owned_n, VF.owned_s, VF.scal_int, VF.scal_bool, VF.scal_str, VF.scal_none, VF.scal_list, VF.scal_tuple, VF.SZ, List.length_cons, List.length_nil, List.length_set, List.length_append, List.length_map, List.length_range, Int.reduceToNat, Int.reduceLE, Int.reduceLT, Nat.reduceAdd, Nat.reduceLT, Nat.reduceLeDiff, Nat.reduceEqDiff, Nat.zero_add, Nat.zero_lt_succ, Int.toNat_natCast, ne_eq, reduceCtorEq, not_false_eq_true]; done) | (simp only [VF.owned_n, VF.owned_s, VF.scal_int, VF.scal_bool, VF.scal_str, VF.scal_none, VF.scal_list, VF.scal_tuple, VF.SZ, List.length_cons, List.length_nil, List.length_set, List.length_append, List.length_map, List.length_range, Int.reduceToNat, Int.reduceLE, Int.reduceLT, Nat.reduceAdd, Nat.reduceLT, Nat.reduceLeDiff, Nat.reduceEqDiff, Nat.zero_add, Nat.zero_lt_succ, Int.toNat_natCast, ne_eq, reduceCtorEq, not_false_eq_true]; first | assumption | omega) | decide | omega)) only [VF.sSq_k, VF.srB_nx, VF.srB_rt, VF.srB_rz, VF.srB_bk, VF.srB_ct, VF.sIf_k, VF.tsB_ok, VF.tsB_rz, VF.sFor_k, VF.gsB_ok, VF.gsB_rz, VF.sDrop_k, VF.sRet_k, VF.sAsg_k, VF.sAsgT_k, VF.sRz_k, VF.esB_ok, VF.esB_rz, VF.put_int, VF.put_bool, VF.put_str, VF.put_none, VF.put_0, VF.put_listn, VF.put_list1, VF.put_tupn, VF.put_tup1, VF.sRetV_k, VF.retVK_ow, VF.retVK_fz, VF.sApp_k, VF.sAppK_k, VF.appD_k, VF.appK_n, VF.appK_s, VF.sAppV_k, VF.sAppVK_ow, VF.sAppVK_fz, VF.sSet_k, VF.sSetK_k, VF.setK_k, VF.setD_k, VF.setDK_n, VF.setDK_s, VF.sNx, VF.sBk, VF.sCt, VF.sTry_k, VF.tryK_nx, VF.drp_fz, VF.drp_no, VF.drp_ow, VF.excD_s, VF.excD_n, VF.lv0_exc, VF.isXD_none, List.map_cons, List.map_nil, VF.retR_rt, VF.retR_nx, VF.retR_rz, VF.retOf_0, VF.retOf_1, VF.retK_k, VF.arg0, VF.evS_0, VF.evS_1, VF.evSJ_k, VF.esK0_n, VF.esK0_s, VF.esK0_rz, VF.esK1_n, VF.esK1_s, VF.evT_0, VF.evT_1, VF.evTJ_k, VF.tsK0_k, VF.tsK0_rz, VF.tsK1_k, VF.evG_0, VF.evG_1, VF.evGJ_k, VF.gsK0_t, VF.gsK0_f, VF.gsK1_t, VF.frzF_cons, VF.frzF_nil, VF.envF_cons, VF.envF_nil, VF.fr1_false, VF.fr1_fz, VF.fr1_no, VF.fr1_ow, VF.en1_fz, VF.en1_no, VF.en1_ow, VF.en1_own, VF.erB_ok, VF.erB_rz, VF.arB_ok, VF.arB_rz, VF.irB_ok, VF.irB_rz, VF.trB_ok, VF.trB_rz, VF.obB_ok, VF.gaB_ok, VF.gaB_rz, VF.c1_k, VF.c2_k, VF.c2'_k, VF.c3_k, VF.c4_k, VF.c4'_k, VF.c5_k, VF.c6_k, VF.c7_k, VF.c8_k, VF.c9_k, VF.c10_k, VF.c11_k, VF.c11'_k, VF.c12_k, VF.c13_k, VF.c13'_k, VF.c13''_k, VF.c14_k, VF.c15_k, VF.c16_k, VF.c17_k, VF.c18_k, VF.c19_k, VF.c20_k, VF.c21_k, VF.c22_k, VF.c23_k, VF.c24_k, VF.c25_k, VF.k1_k, VF.k1'_k, VF.k2_k, VF.k3_k, VF.k4_k, VF.eVar_k, VF.varK_k, VF.eC_k, VF.eOp1_k, VF.eOp2_k, VF.erO_k, VF.eCall_k, VF.aNil_k, VF.aCons_k, VF.eLst_k, VF.eTup_k, VF.eIf_k, VF.eAnd_k, VF.eOr_k, VF.eNot_k, VF.andK_k, VF.orK_k, VF.notK_k, VF.eCh_k, VF.chK_k, VF.eBd_none, VF.eBd_some, VF.bdK_k, VF.eSl_k, VF.uNil_k, VF.uCons_k, VF.uIo_k, VF.uPerm_k, VF.permL, VF.eUser_k, VF.usrK_none, VF.usrK_some, VF.usrJ_k, eq_self, VF.sTest_k, VF.tBool_k, VF.sTru_k, VF.tTru_bool, VF.tTru_int, VF.tTru_list, VF.tTru_none, VF.sNot_k, VF.sAnd_k, VF.sOr_k, VF.sYes_k, VF.gIter_k, VF.gSeq_list, VF.gSeq_tuple, VF.gArgs_k, VF.gaK_k, VF.eLc_k, VF.lcK_k, VF.iiD_k, VF.icD_if, VF.ibD_k, VF.intD_int, VF.intD_bool, VF.addD_int, VF.negD_k, VF.cMod_k, VF.cDiv_k, VF.ixD_list, VF.ixD_tuple, VF.itD_k, VF.ixN_pos, VF.atI_pos, VF.lv0_int, VF.lv0_bool, VF.lv0_str, VF.lv0_none, VF.lv0_list, VF.lv0_tuple, VF.scal_int, VF.scal_bool, VF.scal_str, VF.scal_none, VF.scal_list, VF.scal_tuple, VF.neD_int, VF.eqD_int, VF.rng1_if, VF.rng2_if, VF.enumG_k, VF.zipG_k, Int.toNat_natCast, VF.notND_none, VF.notND_int, VF.notND_bool, VF.notND_str, VF.notND_list, VF.notND_tuple, VF.isND_none, VF.isND_int, VF.isND_list, VF.isND_tuple, VF.isND_exc, VF.eIsa_k, VF.lenD_list, VF.lenD_tuple, beq_self_eq_true, VF.slD_k, VF.cut_tail, VF.lzD_k, VF.wipeE, VF.lmin_nn, VF.up_n, VF.up_s, VF.lmin_ns, VF.lmin_sn, VF.lmin_ss, VF.owned_n, VF.owned_s, List.contains_cons, List.contains_nil, List.getElem?_cons_zero, List.getElem?_cons_succ, List.getElem?_nil, List.set_cons_zero, List.set_cons_succ, List.length_cons, List.length_nil, List.append_nil, List.cons_append, List.nil_append, List.replicate_succ, List.replicate_zero, Option.some.injEq, Bool.and_true, Bool.true_and, Bool.and_false, Bool.false_and, Bool.or_false, Bool.false_or, Bool.or_true, Bool.true_or, Bool.not_true, Bool.not_false, Nat.reduceBEq, Nat.reduceAdd, Nat.reduceSub, Nat.reduceLeDiff, Nat.reduceEqDiff, Nat.reduceLT, Int.reduceToNat, decide_true, decide_false, ↓reduceIte, reduceCtorEq, Bool.false_eq_true, Nat.zero_add, F_has_edge, q, h]
  | false =>
    cases hc : c x y with
    | none => simp (disch := (first | assumption | (simp only [VF.owned_n, VF.owned_s, VF.scal_int, VF.scal_bool, VF.scal_str, VF.scal_none, VF.scal_list, VF.scal_tuple, VF.SZ, List.length_cons, List.length_nil, List.length_set, List.length_append, List.length_map, List.length_range, Int.reduceToNat, Int.reduceLE, Int.reduceLT, Nat.reduceAdd, Nat.reduceLT, Nat.reduceLeDiff, Nat.reduceEqDiff, Nat.zero_add, Nat.zero_lt_succ, Int.toNat_natCast, ne_eq, reduceCtorEq, not_false_eq_true]; done) | (simp only [VF.owned_n, VF.owned_s, VF.scal_int, VF.scal_bool, VF.scal_str, VF.scal_none, VF.scal_list, VF.scal_tuple, VF.SZ, List.length_cons, List.length_nil, List.length_set, List.length_append, List.length_map, List.length_range, Int.reduceToNat, Int.reduceLE, Int.reduceLT, Nat.reduceAdd, Nat.reduceLT, Nat.reduceLeDiff, Nat.reduceEqDiff, Nat.zero_add, Nat.zero_lt_succ, Int.toNat_natCast, ne_eq, reduceCtorEq, not_false_eq_true]; first | assumption | omega) | decide | omega)) only [VF.sSq_k, VF.srB_nx, VF.srB_rt, VF.srB_rz, VF.srB_bk, VF.srB_ct, VF.sIf_k, VF.tsB_ok, VF.tsB_rz, VF.sFor_k, VF.gsB_ok, VF.gsB_rz, VF.sDrop_k, VF.sRet_k, VF.sAsg_k, VF.sAsgT_k, VF.sRz_k, VF.esB_ok, VF.esB_rz, VF.put_int, VF.put_bool, VF.put_str, VF.put_none, VF.put_0, VF.put_listn, VF.put_list1, VF.put_tupn, VF.put_tup1, VF.sRetV_k, VF.retVK_ow, VF.retVK_fz, VF.sApp_k, VF.sAppK_k, VF.appD_k, VF.appK_n, VF.appK_s, VF.sAppV_k, VF.sAppVK_ow, VF.sAppVK_fz, VF.sSet_k, VF.sSetK_k, VF.setK_k, VF.setD_k, VF.setDK_n, VF.setDK_s, VF.sNx, VF.sBk, VF.sCt, VF.sTry_k, VF.tryK_nx, VF.drp_fz, VF.drp_no, VF.drp_ow, VF.excD_s, VF.excD_n, VF.lv0_exc, VF.isXD_none, List.map_cons, List.map_nil, VF.retR_rt, VF.retR_nx, VF.retR_rz, VF.retOf_0, VF.retOf_1, VF.retK_k, VF.arg0, VF.evS_0, VF.evS_1, VF.evSJ_k, VF.esK0_n, VF.esK0_s, VF.esK0_rz, VF.esK1_n, VF.esK1_s, VF.evT_0, VF.evT_1, VF.evTJ_k, VF.tsK0_k, VF.tsK0_rz, VF.tsK1_k, VF.evG_0, VF.evG_1, VF.evGJ_k, VF.gsK0_t, VF.gsK0_f, VF.gsK1_t, VF.frzF_cons, VF.frzF_nil, VF.envF_cons, VF.envF_nil, VF.fr1_false, VF.fr1_fz, VF.fr1_no, VF.fr1_ow, VF.en1_fz, VF.en1_no, VF.en1_ow, VF.en1_own, VF.erB_ok, VF.erB_rz, VF.arB_ok, VF.arB_rz, VF.irB_ok, VF.irB_rz, VF.trB_ok, VF.trB_rz, VF.obB_ok, VF.gaB_ok, VF.gaB_rz, VF.c1_k, VF.c2_k, VF.c2'_k, VF.c3_k, VF.c4_k, VF.c4'_k, VF.c5_k, VF.c6_k, VF.c7_k, VF.c8_k, VF.c9_k, VF.c10_k, VF.c11_k, VF.c11'_k, VF.c12_k, VF.c13_k, VF.c13'_k, VF.c13''_k, VF.c14_k, VF.c15_k, VF.c16_k, VF.c17_k, VF.c18_k, VF.c19_k, VF.c20_k, VF.c21_k, VF.c22_k, VF.c23_k, VF.c24_k, VF.c25_k, VF.k1_k, VF.k1'_k, VF.k2_k, VF.k3_k, VF.k4_k, VF.eVar_k, VF.varK_k, VF.eC_k, VF.eOp1_k, VF.eOp2_k, VF.erO_k, VF.eCall_k, VF.aNil_k, VF.aCons_k, VF.eLst_k, VF.eTup_k, VF.eIf_k, VF.eAnd_k, VF.eOr_k, VF.eNot_k, VF.andK_k, VF.orK_k, VF.notK_k, VF.eCh_k, VF.chK_k, VF.eBd_none, VF.eBd_some, VF.bdK_k, VF.eSl_k, VF.uNil_k, VF.uCons_k, VF.uIo_k, VF.uPerm_k, VF.permL, VF.eUser_k, VF.usrK_none, VF.usrK_some, VF.usrJ_k, eq_self, VF.sTest_k, VF.tBool_k, VF.sTru_k, VF.tTru_bool, VF.tTru_int, VF.tTru_list, VF.tTru_none, VF.sNot_k, VF.sAnd_k, VF.sOr_k, VF.sYes_k, VF.gIter_k, VF.gSeq_list, VF.gSeq_tuple, VF.gArgs_k, VF.gaK_k, VF.eLc_k, VF.lcK_k, VF.iiD_k, VF.icD_if, VF.ibD_k, VF.intD_int, VF.intD_bool, VF.addD_int, VF.negD_k, VF.cMod_k, VF.cDiv_k, VF.ixD_list, VF.ixD_tuple, VF.itD_k, VF.ixN_pos, VF.atI_pos, VF.lv0_int, VF.lv0_bool, VF.lv0_str, VF.lv0_none, VF.lv0_list, VF.lv0_tuple, VF.scal_int, VF.scal_bool, VF.scal_str, VF.scal_none, VF.scal_list, VF.scal_tuple, VF.neD_int, VF.eqD_int, VF.rng1_if, VF.rng2_if, VF.enumG_k, VF.zipG_k, Int.toNat_natCast, VF.notND_none, VF.notND_int, VF.notND_bool, VF.notND_str, VF.notND_list, VF.notND_tuple, VF.isND_none, VF.isND_int, VF.isND_list, VF.isND_tuple, VF.isND_exc, VF.eIsa_k, VF.lenD_list, VF.lenD_tuple, beq_self_eq_true, VF.slD_k, VF.cut_tail, VF.lzD_k, VF.wipeE, VF.lmin_nn, VF.up_n, VF.up_s, VF.lmin_ns, VF.lmin_sn, VF.lmin_ss, VF.owned_n, VF.owned_s, List.contains_cons, List.contains_nil, List.getElem?_cons_zero, List.getElem?_cons_succ, List.getElem?_nil, List.set_cons_zero, List.set_cons_succ, List.length_cons, List.length_nil, List.append_nil, List.cons_append, List.nil_append, List.replicate_succ, List.replicate_zero, Option.some.injEq, Bool.and_true, Bool.true_and, Bool.and_false, Bool.false_and, Bool.or_false, Bool.false_or, Bool.or_true, Bool.true_or, Bool.not_true, Bool.not_false, Nat.reduceBEq, Nat.reduceAdd, Nat.reduceSub, Nat.reduceLeDiff, Nat.reduceEqDiff, Nat.reduceLT, Int.reduceToNat, decide_true, decide_false, ↓reduceIte, reduceCtorEq, Bool.false_eq_true, Nat.zero_add, F_has_edge, q, h, lv0_web, ixD_web, ixD_row, hc, cellD_n, Option.isSome_none]
    | some i => simp (disch := (first | assumption | (simp only [VF.owned_n, VF.owned_s, VF.scal_int, VF.scal_bool, VF.scal_str, VF.scal_none, VF.scal_list, VF.scal_tuple, VF.SZ, List.length_cons, List.length_nil, List.length_set, List.length_append, List.length_map, List.length_range, Int.reduceToNat, Int.reduceLE, Int.reduceLT, Nat.reduceAdd, Nat.reduceLT, Nat.reduceLeDiff, Nat.reduceEqDiff, Nat.zero_add, Nat.zero_lt_succ, Int.toNat_natCast, ne_eq, reduceCtorEq, not_false_eq_true]; done) | (simp only [VF.owned_n, VF.owned_s, VF.scal_int, VF.scal_bool, VF.scal_str, VF.scal_none, VF.scal_list, VF.scal_tuple, VF.SZ, List.length_cons, List.length_nil, List.length_set, List.length_append, List.length_map, List.length_range, Int.reduceToNat, Int.reduceLE, Int.reduceLT, Nat.reduceAdd, Nat.reduceLT, Nat.reduceLeDiff, Nat.reduceEqDiff, Nat.zero_add, Nat.zero_lt_succ, Int.toNat_natCast, ne_eq, reduceCtorEq, not_false_eq_true]; first | assumption | omega) | decide | omega)) only [VF.sSq_k, VF.srB_nx, VF.srB_rt, VF.srB_rz, VF.srB_bk, VF.srB_ct, VF.sIf_k, VF.tsB_ok, VF.tsB_rz, VF.sFor_k, VF.gsB_ok, VF.gsB_rz, VF.sDrop_k, VF.sRet_k, VF.sAsg_k, VF.sAsgT_k, VF.sRz_k, VF.esB_ok, VF.esB_rz, VF.put_int, VF.put_bool, VF.put_str, VF.put_none, VF.put_0, VF.put_listn, VF.put_list1, VF.put_tupn, VF.put_tup1, VF.sRetV_k, VF.retVK_ow, VF.retVK_fz, VF.sApp_k, VF.sAppK_k, VF.appD_k, VF.appK_n, VF.appK_s, VF.sAppV_k, VF.sAppVK_ow, VF.sAppVK_fz, VF.sSet_k, VF.sSetK_k, VF.setK_k, VF.setD_k, VF.setDK_n, VF.setDK_s, VF.sNx, VF.sBk, VF.sCt, VF.sTry_k, VF.tryK_nx, VF.drp_fz, VF.drp_no, VF.drp_ow, VF.excD_s, VF.excD_n, VF.lv0_exc, VF.isXD_none, List.map_cons, List.map_nil, VF.retR_rt, VF.retR_nx, VF.retR_rz, VF.retOf_0, VF.retOf_1, VF.retK_k, VF.arg0, VF.evS_0, VF.evS_1, VF.evSJ_k, VF.esK0_n, VF.esK0_s, VF.esK0_rz, VF.esK1_n, VF.esK1_s, VF.evT_0, VF.evT_1, VF.evTJ_k, VF.tsK0_k, VF.tsK0_rz, VF.tsK1_k, VF.evG_0, VF.evG_1, VF.evGJ_k, VF.gsK0_t, VF.gsK0_f, VF.gsK1_t, VF.frzF_cons, VF.frzF_nil, VF.envF_cons, VF.envF_nil, VF.fr1_false, VF.fr1_fz, VF.fr1_no, VF.fr1_ow, VF.en1_fz, VF.en1_no, VF.en1_ow, VF.en1_own, VF.erB_ok, VF.erB_rz, VF.arB_ok, VF.arB_rz, VF.irB_ok, VF.irB_rz, VF.trB_ok, VF.trB_rz, VF.obB_ok, VF.gaB_ok, VF.gaB_rz, VF.c1_k, VF.c2_k, VF.c2'_k, VF.c3_k, VF.c4_k, VF.c4'_k, VF.c5_k, VF.c6_k, VF.c7_k, VF.c8_k, VF.c9_k, VF.c10_k, VF.c11_k, VF.c11'_k, VF.c12_k, VF.c13_k, VF.c13'_k, VF.c13''_k, VF.c14_k, VF.c15_k, VF.c16_k, VF.c17_k, VF.c18_k, VF.c19_k, VF.c20_k, VF.c21_k, VF.c22_k, VF.c23_k, VF.c24_k, VF.c25_k, VF.k1_k, VF.k1'_k, VF.k2_k, VF.k3_k, VF.k4_k, VF.eVar_k, VF.varK_k, VF.eC_k, VF.eOp1_k, VF.eOp2_k, VF.erO_k, VF.eCall_k, VF.aNil_k, VF.aCons_k, VF.eLst_k, VF.eTup_k, VF.eIf_k, VF.eAnd_k, VF.eOr_k, VF.eNot_k, VF.andK_k, VF.orK_k, VF.notK_k, VF.eCh_k, VF.chK_k, VF.eBd_none, VF.eBd_some, VF.bdK_k, VF.eSl_k, VF.uNil_k, VF.uCons_k, VF.uIo_k, VF.uPerm_k, VF.permL, VF.eUser_k, VF.usrK_none, VF.usrK_some, VF.usrJ_k, eq_self, VF.sTest_k, VF.tBool_k, VF.sTru_k, VF.tTru_bool, VF.tTru_int, VF.tTru_list, VF.tTru_none, VF.sNot_k, VF.sAnd_k, VF.sOr_k, VF.sYes_k, VF.gIter_k, VF.gSeq_list, VF.gSeq_tuple, VF.gArgs_k, VF.gaK_k, VF.eLc_k, VF.lcK_k, VF.iiD_k, VF.icD_if, VF.ibD_k, VF.intD_int, VF.intD_bool, VF.addD_int, VF.negD_k, VF.cMod_k, VF.cDiv_k, VF.ixD_list, VF.ixD_tuple, VF.itD_k, VF.ixN_pos, VF.atI_pos, VF.lv0_int, VF.lv0_bool, VF.lv0_str, VF.lv0_none, VF.lv0_list, VF.lv0_tuple, VF.scal_int, VF.scal_bool, VF.scal_str, VF.scal_none, VF.scal_list, VF.scal_tuple, VF.neD_int, VF.eqD_int, VF.rng1_if, VF.rng2_if, VF.enumG_k, VF.zipG_k, Int.toNat_natCast, VF.notND_none, VF.notND_int, VF.notND_bool, VF.notND_str, VF.notND_list, VF.notND_tuple, VF.isND_none, VF.isND_int, VF.isND_list, VF.isND_tuple, VF.isND_exc, VF.eIsa_k, VF.lenD_list, VF.lenD_tuple, beq_self_eq_true, VF.slD_k, VF.cut_tail, VF.lzD_k, VF.wipeE, VF.lmin_nn, VF.up_n, VF.up_s, VF.lmin_ns, VF.lmin_sn, VF.lmin_ss, VF.owned_n, VF.owned_s, List.contains_cons, List.contains_nil, List.getElem?_cons_zero, List.getElem?_cons_succ, List.getElem?_nil, List.set_cons_zero, List.set_cons_succ, List.length_cons, List.length_nil, List.append_nil, List.cons_append, List.nil_append, List.replicate_succ, List.replicate_zero, Option.some.injEq, Bool.and_true, Bool.true_and, Bool.and_false, Bool.false_and, Bool.or_false, Bool.false_or, Bool.or_true, Bool.true_or, Bool.not_true, Bool.not_false, Nat.reduceBEq, Nat.reduceAdd, Nat.reduceSub, Nat.reduceLeDiff, Nat.reduceEqDiff, Nat.reduceLT, Int.reduceToNat, decide_true, decide_false, ↓reduceIte, reduceCtorEq, Bool.false_eq_true, Nat.zero_add, F_has_edge, q, h, lv0_web, ixD_web, ixD_row, hc, cellD_s, Option.isSome_some]
/-- a list of places -/
def plD (ps : List Nat) : List D := ps.map fun p => .int (p : Nat)
structure IsWalk (n : Nat) (c : Nat → Nat → Option Int) (ps : List Nat) : Prop where
  lt : ∀ p ∈ ps, p < n
  edge : ∀ (i x y : Nat), ps[i]? = some x → ps[i + 1]? = some y → x ≠ y ∧ (c x y).isSome = true
theorem plD_get {ps : List Nat} {i : Nat} {d : D} (h : (plD ps)[i]? = some d) : ∃ p, ps[i]? = some p ∧ d = .int (p : Nat) := by
  unfold plD at h
  rw [List.getElem?_map] at h
  cases q : ps[i]? with
  | none => rw [q] at h; cases h
  | some p => rw [q] at h; exact ⟨p, rfl, (Option.some.inj h).symm⟩
/-- the first m steps of a list are good -/
theorem walk_step {n : Nat} {c : Nat → Nat → Option Int} {ps : List Nat} {rest : List D} (hw : IsWalk n c ps) (hz : ps.length ≤ 1000) (i : Nat) (s t : Slot) (hi : i < ps.length) (d : D) (hd : (enD 0 (plD ps ++ rest))[i]? = some d) :
    ∃ ρ1 ρ2, tgT [2, 3] d [.fz (webD n c), .fz (.list (plD ps ++ rest)), s, t] = some ρ1 ∧ (B_check_walk_1 ρ1 = .nx ρ2 ∨ B_check_walk_1 ρ1 = .ct ρ2) ∧ ∃ s t, ρ2 = [.fz (webD n c), .fz (.list (plD ps ++ rest)), s, t] := by
  obtain ⟨q, h1, rfl⟩ := enD_inv hd
  have hl : (plD ps).length = ps.length := by simp [plD]
  rw [List.getElem?_append_left (by rw [hl]; exact hi)] at h1
  obtain ⟨y, hy, rfl⟩ := plD_get h1
  have hyn : y < n := hw.lt y (List.mem_of_getElem? hy)
  refine ⟨_, _, tgT2, .inl ?_, .fz (.int (i : Nat)), .fz (.int (y : Nat)), rfl⟩
  rw [Nat.zero_add]
  have pl : isPl (.int (y : Nat)) n = true := by simp [isPl]; omega
  have w := v_is_place (.int (y : Nat)) n (fun z => by cases z)
  rw [pl] at w
  have z0 : decide ((0 : Int) < ((0 : Nat) : Int)) = false := rfl
  cases i with
  | zero => simp (disch := (first | assumption | (simp only [VF.owned_n, VF.owned_s, VF.scal_int, VF.scal_bool, VF.scal_str, VF.scal_none, VF.scal_list, VF.scal_tuple, VF.SZ, List.length_cons, List.length_nil, List.length_set, List.length_append, List.length_map, List.length_range, Int.reduceToNat, Int.reduceLE, Int.reduceLT, Nat.reduceAdd, Nat.reduceLT, Nat.reduceLeDiff, Nat.reduceEqDiff, Nat.zero_add, Nat.zero_lt_succ, Int.toNat_natCast, ne_eq, reduceCtorEq, not_false_eq_true]; done) | (simp only [VF.owned_n, VF.owned_s, VF.scal_int, VF.scal_bool, VF.scal_str, VF.scal_none, VF.scal_list, VF.scal_tuple, VF.SZ, List.length_cons, List.length_nil, List.length_set, List.length_append, List.length_map, List.length_range, Int.reduceToNat, Int.reduceLE, Int.reduceLT, Nat.reduceAdd, Nat.reduceLT, Nat.reduceLeDiff, Nat.reduceEqDiff, Nat.zero_add, Nat.zero_lt_succ, Int.toNat_natCast, ne_eq, reduceCtorEq, not_false_eq_true]; first | assumption | omega) | decide | omega)) only [VF.sSq_k, VF.srB_nx, VF.srB_rt, VF.srB_rz, VF.srB_bk, VF.srB_ct, VF.sIf_k, VF.tsB_ok, VF.tsB_rz, VF.sFor_k, VF.gsB_ok, VF.gsB_rz, VF.sDrop_k, VF.sRet_k, VF.sAsg_k, VF.sAsgT_k, VF.sRz_k, VF.esB_ok, VF.esB_rz, VF.put_int, VF.put_bool, VF.put_str, VF.put_none, VF.put_0, VF.put_listn, VF.put_list1, VF.put_tupn, VF.put_tup1, VF.sRetV_k, VF.retVK_ow, VF.retVK_fz, VF.sApp_k, VF.sAppK_k, VF.appD_k, VF.appK_n, VF.appK_s, VF.sAppV_k, VF.sAppVK_ow, VF.sAppVK_fz, VF.sSet_k, VF.sSetK_k, VF.setK_k, VF.setD_k, VF.setDK_n, VF.setDK_s, VF.sNx, VF.sBk, VF.sCt, VF.sTry_k, VF.tryK_nx, VF.drp_fz, VF.drp_no, VF.drp_ow, VF.excD_s, VF.excD_n, VF.lv0_exc, VF.isXD_none, List.map_cons, List.map_nil, VF.retR_rt, VF.retR_nx, VF.retR_rz, VF.retOf_0, VF.retOf_1, VF.retK_k, VF.arg0, VF.evS_0, VF.evS_1, VF.evSJ_k, VF.esK0_n, VF.esK0_s, VF.esK0_rz, VF.esK1_n, VF.esK1_s, VF.evT_0, VF.evT_1, VF.evTJ_k, VF.tsK0_k, VF.tsK0_rz, VF.tsK1_k, VF.evG_0, VF.evG_1, VF.evGJ_k, VF.gsK0_t, VF.gsK0_f, VF.gsK1_t, VF.frzF_cons, VF.frzF_nil, VF.envF_cons, VF.envF_nil, VF.fr1_false, VF.fr1_fz, VF.fr1_no, VF.fr1_ow, VF.en1_fz, VF.en1_no, VF.en1_ow, VF.en1_own, VF.erB_ok, VF.erB_rz, VF.arB_ok, VF.arB_rz, VF.irB_ok, VF.irB_rz, VF.trB_ok, VF.trB_rz, VF.obB_ok, VF.gaB_ok, VF.gaB_rz, VF.c1_k, VF.c2_k, VF.c2'_k, VF.c3_k, VF.c4_k, VF.c4'_k, VF.c5_k, VF.c6_k, VF.c7_k, VF.c8_k, VF.c9_k, VF.c10_k, VF.c11_k, VF.c11'_k, VF.c12_k, VF.c13_k, VF.c13'_k, VF.c13''_k, VF.c14_k, VF.c15_k, VF.c16_k, VF.c17_k, VF.c18_k, VF.c19_k, VF.c20_k, VF.c21_k, VF.c22_k, VF.c23_k, VF.c24_k, VF.c25_k, VF.k1_k, VF.k1'_k, VF.k2_k, VF.k3_k, VF.k4_k, VF.eVar_k, VF.varK_k, VF.eC_k, VF.eOp1_k, VF.eOp2_k, VF.erO_k, VF.eCall_k, VF.aNil_k, VF.aCons_k, VF.eLst_k, VF.eTup_k, VF.eIf_k, VF.eAnd_k, VF.eOr_k, VF.eNot_k, VF.andK_k, VF.orK_k, VF.notK_k, VF.eCh_k, VF.chK_k, VF.eBd_none, VF.eBd_some, VF.bdK_k, VF.eSl_k, VF.uNil_k, VF.uCons_k, VF.uIo_k, VF.uPerm_k, VF.permL, VF.eUser_k, VF.usrK_none, VF.usrK_some, VF.usrJ_k, eq_self, VF.sTest_k, VF.tBool_k, VF.sTru_k, VF.tTru_bool, VF.tTru_int, VF.tTru_list, VF.tTru_none, VF.sNot_k, VF.sAnd_k, VF.sOr_k, VF.sYes_k, VF.gIter_k, VF.gSeq_list, VF.gSeq_tuple, VF.gArgs_k, VF.gaK_k, VF.eLc_k, VF.lcK_k, VF.iiD_k, VF.icD_if, VF.ibD_k, VF.intD_int, VF.intD_bool, VF.addD_int, VF.negD_k, VF.cMod_k, VF.cDiv_k, VF.ixD_list, VF.ixD_tuple, VF.itD_k, VF.ixN_pos, VF.atI_pos, VF.lv0_int, VF.lv0_bool, VF.lv0_str, VF.lv0_none, VF.lv0_list, VF.lv0_tuple, VF.scal_int, VF.scal_bool, VF.scal_str, VF.scal_none, VF.scal_list, VF.scal_tuple, VF.neD_int, VF.eqD_int, VF.rng1_if, VF.rng2_if, VF.enumG_k, VF.zipG_k, Int.toNat_natCast, VF.notND_none, VF.notND_int, VF.notND_bool, VF.notND_str, VF.notND_list, VF.notND_tuple, VF.isND_none, VF.isND_int, VF.isND_list, VF.isND_tuple, VF.isND_exc, VF.eIsa_k, VF.lenD_list, VF.lenD_tuple, beq_self_eq_true, VF.slD_k, VF.cut_tail, VF.lzD_k, VF.wipeE, VF.lmin_nn, VF.up_n, VF.up_s, VF.lmin_ns, VF.lmin_sn, VF.lmin_ss, VF.owned_n, VF.owned_s, List.contains_cons, List.contains_nil, List.getElem?_cons_zero, List.getElem?_cons_succ, List.getElem?_nil, List.set_cons_zero, List.set_cons_succ, List.length_cons, List.length_nil, List.append_nil, List.cons_append, List.nil_append, List.replicate_succ, List.replicate_zero, Option.some.injEq, Bool.and_true, Bool.true_and, Bool.and_false, Bool.false_and, Bool.or_false, Bool.false_or, Bool.or_true, Bool.true_or, Bool.not_true, Bool.not_false, Nat.reduceBEq, Nat.reduceAdd, Nat.reduceSub, Nat.reduceLeDiff, Nat.reduceEqDiff, Nat.reduceLT, Int.reduceToNat, decide_true, decide_false, ↓reduceIte, reduceCtorEq, Bool.false_eq_true, Nat.zero_add, B_check_walk_1, lv0_web, lenD_web, w, z0]
  | succ i =>
    obtain ⟨x, hx⟩ : ∃ x, ps[i]? = some x := ⟨_, List.getElem?_eq_getElem (by omega)⟩
    have hxn : x < n := hw.lt x (List.mem_of_getElem? hx)
    obtain ⟨ne, ed⟩ := hw.edge i x y hx hy
    have nb : (x == y) = false := by simpa using ne
    have at1 : ixD (.list (plD ps ++ rest)) (.int (((i + 1 : Nat) : Int) - 1)) = some (none, .int (x : Nat)) := by
      have e : (((i + 1 : Nat) : Int) - 1) = (i : Nat) := by omega
      rw [e]
      show itD (atI _ _) = _
      rw [atI_nat (v := .int (x : Nat)) (by rw [List.getElem?_append_left (by omega)]; unfold plD; rw [List.getElem?_map, hx]; rfl)]
      rfl
    have pos : decide ((0 : Int) < ((i + 1 : Nat) : Int)) = true := decide_eq_true (by omega)
    simp (disch := (first | assumption | (simp only [VF.owned_n, VF.owned_s, VF.scal_int, VF.scal_bool, VF.scal_str, VF.scal_none, VF.scal_list, VF.scal_tuple, VF.SZ, List.length_cons, List.length_nil, List.length_set, List.length_append, List.length_map, List.length_range, Int.reduceToNat, Int.reduceLE, Int.reduceLT, Nat.reduceAdd, Nat.reduceLT, Nat.reduceLeDiff, Nat.reduceEqDiff, Nat.zero_add, Nat.zero_lt_succ, Int.toNat_natCast, ne_eq, reduceCtorEq, not_false_eq_true]; done) | (simp only [VF.owned_n, VF.owned_s, VF.scal_int, VF.scal_bool, VF.scal_str, VF.scal_none, VF.scal_list, VF.scal_tuple, VF.SZ, List.length_cons, List.length_nil, List.length_set, List.length_append, List.length_map, List.length_range, Int.reduceToNat, Int.reduceLE, Int.reduceLT, Nat.reduceAdd, Nat.reduceLT, Nat.reduceLeDiff, Nat.reduceEqDiff, Nat.zero_add, Nat.zero_lt_succ, Int.toNat_natCast, ne_eq, reduceCtorEq, not_false_eq_true]; first | assumption | omega) | decide | omega)) only [VF.sSq_k, VF.srB_nx, VF.srB_rt, VF.srB_rz, VF.srB_bk, VF.srB_ct, VF.sIf_k, VF.tsB_ok, VF.tsB_rz, VF.sFor_k, VF.gsB_ok, VF.gsB_rz, VF.sDrop_k, VF.sRet_k, VF.sAsg_k, VF.sAsgT_k, VF.sRz_k, VF.esB_ok, VF.esB_rz, VF.put_int, VF.put_bool, VF.put_str, VF.put_none, VF.put_0, VF.put_listn, VF.put_list1, VF.put_tupn, VF.put_tup1, VF.sRetV_k, VF.retVK_ow, VF.retVK_fz, VF.sApp_k, VF.sAppK_k, VF.appD_k, VF.appK_n, VF.appK_s, VF.sAppV_k, VF.sAppVK_ow, VF.sAppVK_fz, VF.sSet_k, VF.sSetK_k, VF.setK_k, VF.setD_k, VF.setDK_n, VF.setDK_s, VF.sNx, VF.sBk, VF.sCt, VF.sTry_k, VF.tryK_nx, VF.drp_fz, VF.drp_no, VF.drp_ow, VF.excD_s, VF.excD_n, VF.lv0_exc, VF.isXD_none, List.map_cons, List.map_nil, VF.retR_rt, VF.retR_nx, VF.retR_rz, VF.retOf_0, VF.retOf_1, VF.retK_k, VF.arg0, VF.evS_0, VF.evS_1, VF.evSJ_k, VF.esK0_n, VF.esK0_s, VF.esK0_rz, VF.esK1_n, VF.esK1_s, VF.evT_0, VF.evT_1, VF.evTJ_k, VF.tsK0_k, VF.tsK0_rz, VF.tsK1_k, VF.evG_0, VF.evG_1, VF.evGJ_k, VF.gsK0_t, VF.gsK0_f, VF.gsK1_t, VF.frzF_cons, VF.frzF_nil, VF.envF_cons, VF.envF_nil, VF.fr1_false, VF.fr1_fz, VF.fr1_no, VF.fr1_ow, VF.en1_fz, VF.en1_no, VF.en1_ow, VF.en1_own, VF.erB_ok, VF.erB_rz, VF.arB_ok, VF.arB_rz, VF.irB_ok, VF.irB_rz, VF.trB_ok, VF.trB_rz, VF.obB_ok, VF.gaB_ok, VF.gaB_rz, VF.c1_k, VF.c2_k, VF.c2'_k, VF.c3_k, VF.c4_k, VF.c4'_k, VF.c5_k, VF.c6_k, VF.c7_k, VF.c8_k, VF.c9_k, VF.c10_k, VF.c11_k, VF.c11'_k, VF.c12_k, VF.c13_k, VF.c13'_k, VF.c13''_k, VF.c14_k, VF.c15_k, VF.c16_k, VF.c17_k, VF.c18_k, VF.c19_k, VF.c20_k, VF.c21_k, VF.c22_k, VF.c23_k, VF.c24_k, VF.c25_k, VF.k1_k, VF.k1'_k, VF.k2_k, VF.k3_k, VF.k4_k, VF.eVar_k, VF.varK_k, VF.eC_k, VF.eOp1_k, VF.eOp2_k, VF.erO_k, VF.eCall_k, VF.aNil_k, VF.aCons_k, VF.eLst_k, VF.eTup_k, VF.eIf_k, VF.eAnd_k, VF.eOr_k, VF.eNot_k, VF.andK_k, VF.orK_k, VF.notK_k, VF.eCh_k, VF.chK_k, VF.eBd_none, VF.eBd_some, VF.bdK_k, VF.eSl_k, VF.uNil_k, VF.uCons_k, VF.uIo_k, VF.uPerm_k, VF.permL, VF.eUser_k, VF.usrK_none, VF.usrK_some, VF.usrJ_k, eq_self, VF.sTest_k, VF.tBool_k, VF.sTru_k, VF.tTru_bool, VF.tTru_int, VF.tTru_list, VF.tTru_none, VF.sNot_k, VF.sAnd_k, VF.sOr_k, VF.sYes_k, VF.gIter_k, VF.gSeq_list, VF.gSeq_tuple, VF.gArgs_k, VF.gaK_k, VF.eLc_k, VF.lcK_k, VF.iiD_k, VF.icD_if, VF.ibD_k, VF.intD_int, VF.intD_bool, VF.addD_int, VF.negD_k, VF.cMod_k, VF.cDiv_k, VF.ixD_list, VF.ixD_tuple, VF.itD_k, VF.ixN_pos, VF.atI_pos, VF.lv0_int, VF.lv0_bool, VF.lv0_str, VF.lv0_none, VF.lv0_list, VF.lv0_tuple, VF.scal_int, VF.scal_bool, VF.scal_str, VF.scal_none, VF.scal_list, VF.scal_tuple, VF.neD_int, VF.eqD_int, VF.rng1_if, VF.rng2_if, VF.enumG_k, VF.zipG_k, Int.toNat_natCast, VF.notND_none, VF.notND_int, VF.notND_bool, VF.notND_str, VF.notND_list, VF.notND_tuple, VF.isND_none, VF.isND_int, VF.isND_list, VF.isND_tuple, VF.isND_exc, VF.eIsa_k, VF.lenD_list, VF.lenD_tuple, beq_self_eq_true, VF.slD_k, VF.cut_tail, VF.lzD_k, VF.wipeE, VF.lmin_nn, VF.up_n, VF.up_s, VF.lmin_ns, VF.lmin_sn, VF.lmin_ss, VF.owned_n, VF.owned_s, List.contains_cons, List.contains_nil, List.getElem?_cons_zero, List.getElem?_cons_succ, List.getElem?_nil, List.set_cons_zero, List.set_cons_succ, List.length_cons, List.length_nil, List.append_nil, List.cons_append, List.nil_append, List.replicate_succ, List.replicate_zero, Option.some.injEq, Bool.and_true, Bool.true_and, Bool.and_false, Bool.false_and, Bool.or_false, Bool.false_or, Bool.or_true, Bool.true_or, Bool.not_true, Bool.not_false, Nat.reduceBEq, Nat.reduceAdd, Nat.reduceSub, Nat.reduceLeDiff, Nat.reduceEqDiff, Nat.reduceLT, Int.reduceToNat, decide_true, decide_false, ↓reduceIte, reduceCtorEq, Bool.false_eq_true, Nat.zero_add, B_check_walk_1, lv0_web, lenD_web, w, pos, at1, v_has_edge hxn hyn, nb, ed]
theorem pl_len {ps : List Nat} : (plD ps).length = ps.length := by simp [plD]
theorem v_check_walk {n : Nat} {c : Nat → Nat → Option Int} {ps : List Nat} (hw : IsWalk n c ps) (hz : ps.length ≤ 1000) (h0 : ps ≠ []) : fnM none 4 F_check_walk [some (webD n c), some (.list (plD ps))] none = .ok none .none none := by
  have ne : (plD ps).isEmpty = false := by
    cases ps with
    | nil => exact absurd rfl h0
    | cons _ _ => rfl
  refine forR_to (b := tgT [2, 3]) (F := B_check_walk_1) (ds := enD 0 (plD ps)) (ρ := [.fz (webD n c), .fz (.list (plD ps)), .no, .no]) (fun i ρ => ∃ s t, ρ = [.fz (webD n c), .fz (.list (plD ps)), s, t]) ⟨.no, .no, rfl⟩ ?_ ?_
  · rintro i ρ d hd ⟨s, t, rfl⟩
    have := walk_step (rest := []) hw hz i s t (by
      have q := (List.getElem?_eq_some_iff.mp hd).1
      rw [enD_length, pl_len] at q; exact q) d (by rw [List.append_nil]; exact hd)
    rwa [List.append_nil] at this
  · rintro ρ' ⟨s, t, rfl⟩ e
    refine fn_eq ?_
    simp (disch := (first | assumption | (simp only [VF.owned_n, VF.owned_s, VF.scal_int, VF.scal_bool, VF.scal_str, VF.scal_none, VF.scal_list, VF.scal_tuple, VF.SZ, List.length_cons, List.length_nil, List.length_set, List.length_append, List.length_map, List.length_range, Int.reduceToNat, Int.reduceLE, Int.reduceLT, Nat.reduceAdd, Nat.reduceLT, Nat.reduceLeDiff, Nat.reduceEqDiff, Nat.zero_add, Nat.zero_lt_succ, Int.toNat_natCast, ne_eq, reduceCtorEq, not_false_eq_true]; done) | (simp only [VF.owned_n, VF.owned_s, VF.scal_int, VF.scal_bool, VF.scal_str, VF.scal_none, VF.scal_list, VF.scal_tuple, VF.SZ, List.length_cons, List.length_nil, List.length_set, List.length_append, List.length_map, List.length_range, Int.reduceToNat, Int.reduceLE, Int.reduceLT, Nat.reduceAdd, Nat.reduceLT, Nat.reduceLeDiff, Nat.reduceEqDiff, Nat.zero_add, Nat.zero_lt_succ, Int.toNat_natCast, ne_eq, reduceCtorEq, not_false_eq_true]; first | assumption | omega) | decide | omega)) only [VF.sSq_k, VF.srB_nx, VF.srB_rt, VF.srB_rz, VF.srB_bk, VF.srB_ct, VF.sIf_k, VF.tsB_ok, VF.tsB_rz, VF.sFor_k, VF.gsB_ok, VF.gsB_rz, VF.sDrop_k, VF.sRet_k, VF.sAsg_k, VF.sAsgT_k, VF.sRz_k, VF.esB_ok, VF.esB_rz, VF.put_int, VF.put_bool, VF.put_str, VF.put_none, VF.put_0, VF.put_listn, VF.put_list1, VF.put_tupn, VF.put_tup1, VF.sRetV_k, VF.retVK_ow, VF.retVK_fz, VF.sApp_k, VF.sAppK_k, VF.appD_k, VF.appK_n, VF.appK_s, VF.sAppV_k, VF.sAppVK_ow, VF.sAppVK_fz, VF.sSet_k, VF.sSetK_k, VF.setK_k, VF.setD_k, VF.setDK_n, VF.setDK_s, VF.sNx, VF.sBk, VF.sCt, VF.sTry_k, VF.tryK_nx, VF.drp_fz, VF.drp_no, VF.drp_ow, VF.excD_s, VF.excD_n, VF.lv0_exc, VF.isXD_none, List.map_cons, List.map_nil, VF.retR_rt, VF.retR_nx, VF.retR_rz, VF.retOf_0, VF.retOf_1, VF.retK_k, VF.arg0, VF.evS_0, VF.evS_1, VF.evSJ_k, VF.esK0_n, VF.esK0_s, VF.esK0_rz, VF.esK1_n, VF.esK1_s, VF.evT_0, VF.evT_1, VF.evTJ_k, VF.tsK0_k, VF.tsK0_rz, VF.tsK1_k, VF.evG_0, VF.evG_1, VF.evGJ_k, VF.gsK0_t, VF.gsK0_f, VF.gsK1_t, VF.frzF_cons, VF.frzF_nil, VF.envF_cons, VF.envF_nil, VF.fr1_false, VF.fr1_fz, VF.fr1_no, VF.fr1_ow, VF.en1_fz, VF.en1_no, VF.en1_ow, VF.en1_own, VF.erB_ok, VF.erB_rz, VF.arB_ok, VF.arB_rz, VF.irB_ok, VF.irB_rz, VF.trB_ok, VF.trB_rz, VF.obB_ok, VF.gaB_ok, VF.gaB_rz, VF.c1_k, VF.c2_k, VF.c2'_k, VF.c3_k, VF.c4_k, VF.c4'_k, VF.c5_k, VF.c6_k, VF.c7_k, VF.c8_k, VF.c9_k, VF.c10_k, VF.c11_k, VF.c11'_k, VF.c12_k, VF.c13_k, VF.c13'_k, VF.c13''_k, VF.c14_k, VF.c15_k, VF.c16_k, VF.c17_k, VF.c18_k, VF.c19_k, VF.c20_k, VF.c21_k, VF.c22_k, VF.c23_k, VF.c24_k, VF.c25_k, VF.k1_k, VF.k1'_k, VF.k2_k, VF.k3_k, VF.k4_k, VF.eVar_k, VF.varK_k, VF.eC_k, VF.eOp1_k, VF.eOp2_k, VF.erO_k, VF.eCall_k, VF.aNil_k, VF.aCons_k, VF.eLst_k, VF.eTup_k, VF.eIf_k, VF.eAnd_k, VF.eOr_k, VF.eNot_k, VF.andK_k, VF.orK_k, VF.notK_k, VF.eCh_k, VF.chK_k, VF.eBd_none, VF.eBd_some, VF.bdK_k, VF.eSl_k, VF.uNil_k, VF.uCons_k, VF.uIo_k, VF.uPerm_k, VF.permL, VF.eUser_k, VF.usrK_none, VF.usrK_some, VF.usrJ_k, eq_self, VF.sTest_k, VF.tBool_k, VF.sTru_k, VF.tTru_bool, VF.tTru_int, VF.tTru_list, VF.tTru_none, VF.sNot_k, VF.sAnd_k, VF.sOr_k, VF.sYes_k, VF.gIter_k, VF.gSeq_list, VF.gSeq_tuple, VF.gArgs_k, VF.gaK_k, VF.eLc_k, VF.lcK_k, VF.iiD_k, VF.icD_if, VF.ibD_k, VF.intD_int, VF.intD_bool, VF.addD_int, VF.negD_k, VF.cMod_k, VF.cDiv_k, VF.ixD_list, VF.ixD_tuple, VF.itD_k, VF.ixN_pos, VF.atI_pos, VF.lv0_int, VF.lv0_bool, VF.lv0_str, VF.lv0_none, VF.lv0_list, VF.lv0_tuple, VF.scal_int, VF.scal_bool, VF.scal_str, VF.scal_none, VF.scal_list, VF.scal_tuple, VF.neD_int, VF.eqD_int, VF.rng1_if, VF.rng2_if, VF.enumG_k, VF.zipG_k, Int.toNat_natCast, VF.notND_none, VF.notND_int, VF.notND_bool, VF.notND_str, VF.notND_list, VF.notND_tuple, VF.isND_none, VF.isND_int, VF.isND_list, VF.isND_tuple, VF.isND_exc, VF.eIsa_k, VF.lenD_list, VF.lenD_tuple, beq_self_eq_true, VF.slD_k, VF.cut_tail, VF.lzD_k, VF.wipeE, VF.lmin_nn, VF.up_n, VF.up_s, VF.lmin_ns, VF.lmin_sn, VF.lmin_ss, VF.owned_n, VF.owned_s, List.contains_cons, List.contains_nil, List.getElem?_cons_zero, List.getElem?_cons_succ, List.getElem?_nil, List.set_cons_zero, List.set_cons_succ, List.length_cons, List.length_nil, List.append_nil, List.cons_append, List.nil_append, List.replicate_succ, List.replicate_zero, Option.some.injEq, Bool.and_true, Bool.true_and, Bool.and_false, Bool.false_and, Bool.or_false, Bool.false_or, Bool.or_true, Bool.true_or, Bool.not_true, Bool.not_false, Nat.reduceBEq, Nat.reduceAdd, Nat.reduceSub, Nat.reduceLeDiff, Nat.reduceEqDiff, Nat.reduceLT, Int.reduceToNat, decide_true, decide_false, ↓reduceIte, reduceCtorEq, Bool.false_eq_true, Nat.zero_add, F_check_walk, lv0_web, isa_list, isaS_ll, ne, e]
/-- what can be no next place -/
def BadAt (n : Nat) (c : Nat → Nat → Option Int) (ps : List Nat) (d : D) : Prop :=
  (kindD d ≠ none ∧ isPl d n = false) ∨ ∃ y x : Nat, d = .int (y : Nat) ∧ y < n ∧ ps ≠ [] ∧ ps.getLast? = some x ∧ (!(x == y) && (c x y).isSome) = false
theorem v_check_walk_bad {n : Nat} {c : Nat → Nat → Option Int} {ps : List Nat} {d : D} {rest : List D} (hw : IsWalk n c ps) (hz : ps.length ≤ 1000) (hb : BadAt n c ps d) :
    fnM none 4 F_check_walk [some (webD n c), some (.list (plD ps ++ d :: rest))] none = .rz "InvalidWalk" (some ("index", .int (ps.length : Nat))) := by
  have ne : (plD ps ++ d :: rest).isEmpty = false := by cases ps <;> rfl
  have main : (fun r => ∃ ρ2, r = SR.rz "InvalidWalk" (some ("index", .int (ps.length : Nat))) ρ2) (forR (tgT [2, 3]) B_check_walk_1 (enD 0 (plD ps ++ d :: rest)) [.fz (webD n c), .fz (.list (plD ps ++ d :: rest)), .no, .no]) := by
    refine forR_at (ds := enD 0 (plD ps ++ d :: rest)) (b := tgT [2, 3]) (F := B_check_walk_1) (m := ps.length) (P := fun r => ∃ ρ2, r = SR.rz "InvalidWalk" (some ("index", .int (ps.length : Nat))) ρ2) (by rw [enD_length, List.length_append, pl_len, List.length_cons]; exact Nat.lt_add_of_pos_right (Nat.succ_pos _)) (fun i ρ => ∃ s t, ρ = [.fz (webD n c), .fz (.list (plD ps ++ d :: rest)), s, t]) ⟨.no, .no, rfl⟩ ?_ ?_
    · rintro i ρ e hi hd ⟨s, t, rfl⟩
      exact walk_step hw hz i s t hi e hd
    · rintro ρ e hd ⟨s, t, rfl⟩
      obtain ⟨q, h1, rfl⟩ := enD_inv hd
      rw [List.getElem?_append_right (by rw [pl_len]; exact Nat.le_refl _), pl_len, Nat.sub_self] at h1
      obtain rfl : d = q := Option.some.inj h1
      refine ⟨_, tgT2, .inl ⟨_, _, [.fz (webD n c), .fz (.list (plD ps ++ d :: rest)), .fz (.int (ps.length : Nat)), .fz d], ?_, _, rfl⟩⟩
      · rw [Nat.zero_add]
        rcases hb with ⟨k1, k2⟩ | ⟨y, x, rfl, hy, h0, hl, nb⟩
        · have w := v_is_place d n k1
          rw [k2] at w
          simp (disch := (first | assumption | (simp only [VF.owned_n, VF.owned_s, VF.scal_int, VF.scal_bool, VF.scal_str, VF.scal_none, VF.scal_list, VF.scal_tuple, VF.SZ, List.length_cons, List.length_nil, List.length_set, List.length_append, List.length_map, List.length_range, Int.reduceToNat, Int.reduceLE, Int.reduceLT, Nat.reduceAdd, Nat.reduceLT, Nat.reduceLeDiff, Nat.reduceEqDiff, Nat.zero_add, Nat.zero_lt_succ, Int.toNat_natCast, ne_eq, reduceCtorEq, not_false_eq_true]; done) | (simp only [VF.owned_n, VF.owned_s, VF.scal_int, VF.scal_bool, VF.scal_str, VF.scal_none, VF.scal_list, VF.scal_tuple, VF.SZ, List.length_cons, List.length_nil, List.length_set, List.length_append, List.length_map, List.length_range, Int.reduceToNat, Int.reduceLE, Int.reduceLT, Nat.reduceAdd, Nat.reduceLT, Nat.reduceLeDiff, Nat.reduceEqDiff, Nat.zero_add, Nat.zero_lt_succ, Int.toNat_natCast, ne_eq, reduceCtorEq, not_false_eq_true]; first | assumption | omega) | decide | omega)) only [VF.sSq_k, VF.srB_nx, VF.srB_rt, VF.srB_rz, VF.srB_bk, VF.srB_ct, VF.sIf_k, VF.tsB_ok, VF.tsB_rz, VF.sFor_k, VF.gsB_ok, VF.gsB_rz, VF.sDrop_k, VF.sRet_k, VF.sAsg_k, VF.sAsgT_k, VF.sRz_k, VF.esB_ok, VF.esB_rz, VF.put_int, VF.put_bool, VF.put_str, VF.put_none, VF.put_0, VF.put_listn, VF.put_list1, VF.put_tupn, VF.put_tup1, VF.sRetV_k, VF.retVK_ow, VF.retVK_fz, VF.sApp_k, VF.sAppK_k, VF.appD_k, VF.appK_n, VF.appK_s, VF.sAppV_k, VF.sAppVK_ow, VF.sAppVK_fz, VF.sSet_k, VF.sSetK_k, VF.setK_k, VF.setD_k, VF.setDK_n, VF.setDK_s, VF.sNx, VF.sBk, VF.sCt, VF.sTry_k, VF.tryK_nx, VF.drp_fz, VF.drp_no, VF.drp_ow, VF.excD_s, VF.excD_n, VF.lv0_exc, VF.isXD_none, List.map_cons, List.map_nil, VF.retR_rt, VF.retR_nx, VF.retR_rz, VF.retOf_0, VF.retOf_1, VF.retK_k, VF.arg0, VF.evS_0, VF.evS_1, VF.evSJ_k, VF.esK0_n, VF.esK0_s, VF.esK0_rz, VF.esK1_n, VF.esK1_s, VF.evT_0, VF.evT_1, VF.evTJ_k, VF.tsK0_k, VF.tsK0_rz, VF.tsK1_k, VF.evG_0, VF.evG_1, VF.evGJ_k, VF.gsK0_t, VF.gsK0_f, VF.gsK1_t, VF.frzF_cons, VF.frzF_nil, VF.envF_cons, VF.envF_nil, VF.fr1_false, VF.fr1_fz, VF.fr1_no, VF.fr1_ow, VF.en1_fz, VF.en1_no, VF.en1_ow, VF.en1_own, VF.erB_ok, VF.erB_rz, VF.arB_ok, VF.arB_rz, VF.irB_ok, VF.irB_rz, VF.trB_ok, VF.trB_rz, VF.obB_ok, VF.gaB_ok, VF.gaB_rz, VF.c1_k, VF.c2_k, VF.c2'_k, VF.c3_k, VF.c4_k, VF.c4'_k, VF.c5_k, VF.c6_k, VF.c7_k, VF.c8_k, VF.c9_k, VF.c10_k, VF.c11_k, VF.c11'_k, VF.c12_k, VF.c13_k, VF.c13'_k, VF.c13''_k, VF.c14_k, VF.c15_k, VF.c16_k, VF.c17_k, VF.c18_k, VF.c19_k, VF.c20_k, VF.c21_k, VF.c22_k, VF.c23_k, VF.c24_k, VF.c25_k, VF.k1_k, VF.k1'_k, VF.k2_k, VF.k3_k, VF.k4_k, VF.eVar_k, VF.varK_k, VF.eC_k, VF.eOp1_k, VF.eOp2_k, VF.erO_k, VF.eCall_k, VF.aNil_k, VF.aCons_k, VF.eLst_k, VF.eTup_k, VF.eIf_k, VF.eAnd_k, VF.eOr_k, VF.eNot_k, VF.andK_k, VF.orK_k, VF.notK_k, VF.eCh_k, VF.chK_k, VF.eBd_none, VF.eBd_some, VF.bdK_k, VF.eSl_k, VF.uNil_k, VF.uCons_k, VF.uIo_k, VF.uPerm_k, VF.permL, VF.eUser_k, VF.usrK_none, VF.usrK_some, VF.usrJ_k, eq_self, VF.sTest_k, VF.tBool_k, VF.sTru_k, VF.tTru_bool, VF.tTru_int, VF.tTru_list, VF.tTru_none, VF.sNot_k, VF.sAnd_k, VF.sOr_k, VF.sYes_k, VF.gIter_k, VF.gSeq_list, VF.gSeq_tuple, VF.gArgs_k, VF.gaK_k, VF.eLc_k, VF.lcK_k, VF.iiD_k, VF.icD_if, VF.ibD_k, VF.intD_int, VF.intD_bool, VF.addD_int, VF.negD_k, VF.cMod_k, VF.cDiv_k, VF.ixD_list, VF.ixD_tuple, VF.itD_k, VF.ixN_pos, VF.atI_pos, VF.lv0_int, VF.lv0_bool, VF.lv0_str, VF.lv0_none, VF.lv0_list, VF.lv0_tuple, VF.scal_int, VF.scal_bool, VF.scal_str, VF.scal_none, VF.scal_list, VF.scal_tuple, VF.neD_int, VF.eqD_int, VF.rng1_if, VF.rng2_if, VF.enumG_k, VF.zipG_k, Int.toNat_natCast, VF.notND_none, VF.notND_int, VF.notND_bool, VF.notND_str, VF.notND_list, VF.notND_tuple, VF.isND_none, VF.isND_int, VF.isND_list, VF.isND_tuple, VF.isND_exc, VF.eIsa_k, VF.lenD_list, VF.lenD_tuple, beq_self_eq_true, VF.slD_k, VF.cut_tail, VF.lzD_k, VF.wipeE, VF.lmin_nn, VF.up_n, VF.up_s, VF.lmin_ns, VF.lmin_sn, VF.lmin_ss, VF.owned_n, VF.owned_s, List.contains_cons, List.contains_nil, List.getElem?_cons_zero, List.getElem?_cons_succ, List.getElem?_nil, List.set_cons_zero, List.set_cons_succ, List.length_cons, List.length_nil, List.append_nil, List.cons_append, List.nil_append, List.replicate_succ, List.replicate_zero, Option.some.injEq, Bool.and_true, Bool.true_and, Bool.and_false, Bool.false_and, Bool.or_false, Bool.false_or, Bool.or_true, Bool.true_or, Bool.not_true, Bool.not_false, Nat.reduceBEq, Nat.reduceAdd, Nat.reduceSub, Nat.reduceLeDiff, Nat.reduceEqDiff, Nat.reduceLT, Int.reduceToNat, decide_true, decide_false, ↓reduceIte, reduceCtorEq, Bool.false_eq_true, Nat.zero_add, B_check_walk_1, lv0_web, lenD_web, w]
        · have w := v_is_place (.int (y : Nat)) n (fun z => by cases z)
          have pl : isPl (.int (y : Nat)) n = true := by simp [isPl]; omega
          rw [pl] at w
          have hx : ps[ps.length - 1]? = some x := by rw [← List.getLast?_eq_getElem?]; exact hl
          have hxn : x < n := hw.lt x (List.mem_of_getElem? hx)
          have hp : 0 < ps.length := List.length_pos_iff.mpr h0
          have pos : decide ((0 : Int) < (ps.length : Int)) = true := decide_eq_true (by omega)
          have at1 : ixD (.list (plD ps ++ .int (y : Nat) :: rest)) (.int ((ps.length : Int) - 1)) = some (none, .int (x : Nat)) := by
            have e : ((ps.length : Int) - 1) = ((ps.length - 1 : Nat) : Int) := by omega
            rw [e]
            show itD (atI _ _) = _
            rw [atI_nat (v := .int (x : Nat)) (by rw [List.getElem?_append_left (by rw [pl_len]; omega)]; unfold plD; rw [List.getElem?_map, hx]; rfl)]
            rfl
          simp (disch := (first | assumption | (simp only [VF.owned_n, VF.owned_s, VF.scal_int, VF.scal_bool, VF.scal_str, VF.scal_none, VF.scal_list, VF.scal_tuple, VF.SZ, List.length_cons, List.length_nil, List.length_set, List.length_append, List.length_map, List.length_range, Int.reduceToNat, Int.reduceLE, Int.reduceLT, Nat.reduceAdd, Nat.reduceLT, Nat.reduceLeDiff, Nat.reduceEqDiff, Nat.zero_add, Nat.zero_lt_succ, Int.toNat_natCast, ne_eq, reduceCtorEq, not_false_eq_true]; done) | (simp only [VF.owned_n, VF.owned_s, VF.scal_int, VF.scal_bool, VF.scal_str, VF.scal_none, VF.scal_list, VF.scal_tuple, VF.SZ, List.length_cons, List.length_nil, List.length_set, List.length_append, List.length_map, List.length_range, Int.reduceToNat, Int.reduceLE, Int.reduceLT, Nat.reduceAdd, Nat.reduceLT, Nat.reduceLeDiff, Nat.reduceEqDiff, Nat.zero_add, Nat.zero_lt_succ, Int.toNat_natCast, ne_eq, reduceCtorEq, not_false_eq_true]; first | assumption | omega) | decide | omega)) only [VF.sSq_k, VF.srB_nx, VF.srB_rt, VF.srB_rz, VF.srB_bk, VF.srB_ct, VF.sIf_k, VF.tsB_ok, VF.tsB_rz, VF.sFor_k, VF.gsB_ok, VF.gsB_rz, VF.sDrop_k, VF.sRet_k, VF.sAsg_k, VF.sAsgT_k, VF.sRz_k, VF.esB_ok, VF.esB_rz, VF.put_int, VF.put_bool, VF.put_str, VF.put_none, VF.put_0, VF.put_listn, VF.put_list1, VF.put_tupn, VF.put_tup1, VF.sRetV_k, VF.retVK_ow, VF.retVK_fz, VF.sApp_k, VF.sAppK_k, VF.appD_k, VF.appK_n, VF.appK_s, VF.sAppV_k, VF.sAppVK_ow, VF.sAppVK_fz, VF.sSet_k, VF.sSetK_k, VF.setK_k, VF.setD_k, VF.setDK_n, VF.setDK_s, VF.sNx, VF.sBk, VF.sCt, VF.sTry_k, VF.tryK_nx, VF.drp_fz, VF.drp_no, VF.drp_ow, VF.excD_s, VF.excD_n, VF.lv0_exc, VF.isXD_none, List.map_cons, List.map_nil, VF.retR_rt, VF.retR_nx, VF.retR_rz, VF.retOf_0, VF.retOf_1, VF.retK_k, VF.arg0, VF.evS_0, VF.evS_1, VF.evSJ_k, VF.esK0_n, VF.esK0_s, VF.esK0_rz, VF.esK1_n, VF.esK1_s, VF.evT_0, VF.evT_1, VF.evTJ_k, VF.tsK0_k, VF.tsK0_rz, VF.tsK1_k, VF.evG_0, VF.evG_1, VF.evGJ_k, VF.gsK0_t, VF.gsK0_f, VF.gsK1_t, VF.frzF_cons, VF.frzF_nil, VF.envF_cons, VF.envF_nil, VF.fr1_false, VF.fr1_fz, VF.fr1_no, VF.fr1_ow, VF.en1_fz, VF.en1_no, VF.en1_ow, VF.en1_own, VF.erB_ok, VF.erB_rz, VF.arB_ok, VF.arB_rz, VF.irB_ok, VF.irB_rz, VF.trB_ok, VF.trB_rz, VF.obB_ok, VF.gaB_ok, VF.gaB_rz, VF.c1_k, VF.c2_k, VF.c2'_k, VF.c3_k, VF.c4_k, VF.c4'_k, VF.c5_k, VF.c6_k, VF.c7_k, VF.c8_k, VF.c9_k, VF.c10_k, VF.c11_k, VF.c11'_k, VF.c12_k, VF.c13_k, VF.c13'_k, VF.c13''_k, VF.c14_k, VF.c15_k, VF.c16_k, VF.c17_k, VF.c18_k, VF.c19_k, VF.c20_k, VF.c21_k, VF.c22_k, VF.c23_k, VF.c24_k, VF.c25_k, VF.k1_k, VF.k1'_k, VF.k2_k, VF.k3_k, VF.k4_k, VF.eVar_k, VF.varK_k, VF.eC_k, VF.eOp1_k, VF.eOp2_k, VF.erO_k, VF.eCall_k, VF.aNil_k, VF.aCons_k, VF.eLst_k, VF.eTup_k, VF.eIf_k, VF.eAnd_k, VF.eOr_k, VF.eNot_k, VF.andK_k, VF.orK_k, VF.notK_k, VF.eCh_k, VF.chK_k, VF.eBd_none, VF.eBd_some, VF.bdK_k, VF.eSl_k, VF.uNil_k, VF.uCons_k, VF.uIo_k, VF.uPerm_k, VF.permL, VF.eUser_k, VF.usrK_none, VF.usrK_some, VF.usrJ_k, eq_self, VF.sTest_k, VF.tBool_k, VF.sTru_k, VF.tTru_bool, VF.tTru_int, VF.tTru_list, VF.tTru_none, VF.sNot_k, VF.sAnd_k, VF.sOr_k, VF.sYes_k, VF.gIter_k, VF.gSeq_list, VF.gSeq_tuple, VF.gArgs_k, VF.gaK_k, VF.eLc_k, VF.lcK_k, VF.iiD_k, VF.icD_if, VF.ibD_k, VF.intD_int, VF.intD_bool, VF.addD_int, VF.negD_k, VF.cMod_k, VF.cDiv_k, VF.ixD_list, VF.ixD_tuple, VF.itD_k, VF.ixN_pos, VF.atI_pos, VF.lv0_int, VF.lv0_bool, VF.lv0_str, VF.lv0_none, VF.lv0_list, VF.lv0_tuple, VF.scal_int, VF.scal_bool, VF.scal_str, VF.scal_none, VF.scal_list, VF.scal_tuple, VF.neD_int, VF.eqD_int, VF.rng1_if, VF.rng2_if, VF.enumG_k, VF.zipG_k, Int.toNat_natCast, VF.notND_none, VF.notND_int, VF.notND_bool, VF.notND_str, VF.notND_list, VF.notND_tuple, VF.isND_none, VF.isND_int, VF.isND_list, VF.isND_tuple, VF.isND_exc, VF.eIsa_k, VF.lenD_list, VF.lenD_tuple, beq_self_eq_true, VF.slD_k, VF.cut_tail, VF.lzD_k, VF.wipeE, VF.lmin_nn, VF.up_n, VF.up_s, VF.lmin_ns, VF.lmin_sn, VF.lmin_ss, VF.owned_n, VF.owned_s, List.contains_cons, List.contains_nil, List.getElem?_cons_zero, List.getElem?_cons_succ, List.getElem?_nil, List.set_cons_zero, List.set_cons_succ, List.length_cons, List.length_nil, List.append_nil, List.cons_append, List.nil_append, List.replicate_succ, List.replicate_zero, Option.some.injEq, Bool.and_true, Bool.true_and, Bool.and_false, Bool.false_and, Bool.or_false, Bool.false_or, Bool.or_true, Bool.true_or, Bool.not_true, Bool.not_false, Nat.reduceBEq, Nat.reduceAdd, Nat.reduceSub, Nat.reduceLeDiff, Nat.reduceEqDiff, Nat.reduceLT, Int.reduceToNat, decide_true, decide_false, ↓reduceIte, reduceCtorEq, Bool.false_eq_true, Nat.zero_add, B_check_walk_1, lv0_web, lenD_web, w, pos, at1, v_has_edge hxn hy, nb]
  obtain ⟨ρ2, e⟩ := main
  refine fn_eq ?_
  simp (disch := (first | assumption | (simp only [VF.owned_n, VF.owned_s, VF.scal_int, VF.scal_bool, VF.scal_str, VF.scal_none, VF.scal_list, VF.scal_tuple, VF.SZ, List.length_cons, List.length_nil, List.length_set, List.length_append, List.length_map, List.length_range, Int.reduceToNat, Int.reduceLE, Int.reduceLT, Nat.reduceAdd, Nat.reduceLT, Nat.reduceLeDiff, Nat.reduceEqDiff, Nat.zero_add, Nat.zero_lt_succ, Int.toNat_natCast, ne_eq, reduceCtorEq, not_false_eq_true]; done) | (simp only [VF.owned_n, VF.owned_s, VF.scal_int, VF.scal_bool, VF.scal_str, VF.scal_none, VF.scal_list, VF.scal_tuple, VF.SZ, List.length_cons, List.length_nil, List.length_set, List.length_append, List.length_map, List.length_range, Int.reduceToNat, Int.reduceLE, Int.reduceLT, Nat.reduceAdd, Nat.reduceLT, Nat.reduceLeDiff, Nat.reduceEqDiff, Nat.zero_add, Nat.zero_lt_succ, Int.toNat_natCast, ne_eq, reduceCtorEq, not_false_eq_true]; first | assumption | omega) | decide | omega)) only [VF.sSq_k, VF.srB_nx, VF.srB_rt, VF.srB_rz, VF.srB_bk, VF.srB_ct, VF.sIf_k, VF.tsB_ok, VF.tsB_rz, VF.sFor_k, VF.gsB_ok, VF.gsB_rz, VF.sDrop_k, VF.sRet_k, VF.sAsg_k, VF.sAsgT_k, VF.sRz_k, VF.esB_ok, VF.esB_rz, VF.put_int, VF.put_bool, VF.put_str, VF.put_none, VF.put_0, VF.put_listn, VF.put_list1, VF.put_tupn, VF.put_tup1, VF.sRetV_k, VF.retVK_ow, VF.retVK_fz, VF.sApp_k, VF.sAppK_k, VF.appD_k, VF.appK_n, VF.appK_s, VF.sAppV_k, VF.sAppVK_ow, VF.sAppVK_fz, VF.sSet_k, VF.sSetK_k, VF.setK_k, VF.setD_k, VF.setDK_n, VF.setDK_s, VF.sNx, VF.sBk, VF.sCt, VF.sTry_k, VF.tryK_nx, VF.drp_fz, VF.drp_no, VF.drp_ow, VF.excD_s, VF.excD_n, VF.lv0_exc, VF.isXD_none, List.map_cons, List.map_nil, VF.retR_rt, VF.retR_nx, VF.retR_rz, VF.retOf_0, VF.retOf_1, VF.retK_k, VF.arg0, VF.evS_0, VF.evS_1, VF.evSJ_k, VF.esK0_n, VF.esK0_s, VF.esK0_rz, VF.esK1_n, VF.esK1_s, VF.evT_0, VF.evT_1, VF.evTJ_k, VF.tsK0_k, VF.tsK0_rz, VF.tsK1_k, VF.evG_0, VF.evG_1, VF.evGJ_k, VF.gsK0_t, VF.gsK0_f, VF.gsK1_t, VF.frzF_cons, VF.frzF_nil, VF.envF_cons, VF.envF_nil, VF.fr1_false, VF.fr1_fz, VF.fr1_no, VF.fr1_ow, VF.en1_fz, VF.en1_no, VF.en1_ow, VF.en1_own, VF.erB_ok, VF.erB_rz, VF.arB_ok, VF.arB_rz, VF.irB_ok, VF.irB_rz, VF.trB_ok, VF.trB_rz, VF.obB_ok, VF.gaB_ok, VF.gaB_rz, VF.c1_k, VF.c2_k, VF.c2'_k, VF.c3_k, VF.c4_k, VF.c4'_k, VF.c5_k, VF.c6_k, VF.c7_k, VF.c8_k, VF.c9_k, VF.c10_k, VF.c11_k, VF.c11'_k, VF.c12_k, VF.c13_k, VF.c13'_k, VF.c13''_k, VF.c14_k, VF.c15_k, VF.c16_k, VF.c17_k, VF.c18_k, VF.c19_k, VF.c20_k, VF.c21_k, VF.c22_k, VF.c23_k, VF.c24_k, VF.c25_k, VF.k1_k, VF.k1'_k, VF.k2_k, VF.k3_k, VF.k4_k, VF.eVar_k, VF.varK_k, VF.eC_k, VF.eOp1_k, VF.eOp2_k, VF.erO_k, VF.eCall_k, VF.aNil_k, VF.aCons_k, VF.eLst_k, VF.eTup_k, VF.eIf_k, VF.eAnd_k, VF.eOr_k, VF.eNot_k, VF.andK_k, VF.orK_k, VF.notK_k, VF.eCh_k, VF.chK_k, VF.eBd_none, VF.eBd_some, VF.bdK_k, VF.eSl_k, VF.uNil_k, VF.uCons_k, VF.uIo_k, VF.uPerm_k, VF.permL, VF.eUser_k, VF.usrK_none, VF.usrK_some, VF.usrJ_k, eq_self, VF.sTest_k, VF.tBool_k, VF.sTru_k, VF.tTru_bool, VF.tTru_int, VF.tTru_list, VF.tTru_none, VF.sNot_k, VF.sAnd_k, VF.sOr_k, VF.sYes_k, VF.gIter_k, VF.gSeq_list, VF.gSeq_tuple, VF.gArgs_k, VF.gaK_k, VF.eLc_k, VF.lcK_k, VF.iiD_k, VF.icD_if, VF.ibD_k, VF.intD_int, VF.intD_bool, VF.addD_int, VF.negD_k, VF.cMod_k, VF.cDiv_k, VF.ixD_list, VF.ixD_tuple, VF.itD_k, VF.ixN_pos, VF.atI_pos, VF.lv0_int, VF.lv0_bool, VF.lv0_str, VF.lv0_none, VF.lv0_list, VF.lv0_tuple, VF.scal_int, VF.scal_bool, VF.scal_str, VF.scal_none, VF.scal_list, VF.scal_tuple, VF.neD_int, VF.eqD_int, VF.rng1_if, VF.rng2_if, VF.enumG_k, VF.zipG_k, Int.toNat_natCast, VF.notND_none, VF.notND_int, VF.notND_bool, VF.notND_str, VF.notND_list, VF.notND_tuple, VF.isND_none, VF.isND_int, VF.isND_list, VF.isND_tuple, VF.isND_exc, VF.eIsa_k, VF.lenD_list, VF.lenD_tuple, beq_self_eq_true, VF.slD_k, VF.cut_tail, VF.lzD_k, VF.wipeE, VF.lmin_nn, VF.up_n, VF.up_s, VF.lmin_ns, VF.lmin_sn, VF.lmin_ss, VF.owned_n, VF.owned_s, List.contains_cons, List.contains_nil, List.getElem?_cons_zero, List.getElem?_cons_succ, List.getElem?_nil, List.set_cons_zero, List.set_cons_succ, List.length_cons, List.length_nil, List.append_nil, List.cons_append, List.nil_append, List.replicate_succ, List.replicate_zero, Option.some.injEq, Bool.and_true, Bool.true_and, Bool.and_false, Bool.false_and, Bool.or_false, Bool.false_or, Bool.or_true, Bool.true_or, Bool.not_true, Bool.not_false, Nat.reduceBEq, Nat.reduceAdd, Nat.reduceSub, Nat.reduceLeDiff, Nat.reduceEqDiff, Nat.reduceLT, Int.reduceToNat, decide_true, decide_false, ↓reduceIte, reduceCtorEq, Bool.false_eq_true, Nat.zero_add, F_check_walk, lv0_web, isa_list, isaS_ll, ne, e]
/-! lengths -/
def stepsOf (ps : List Nat) : List (Nat × Nat) := ps.zip ps.tail
def pairD (p : Nat × Nat) : D := .tuple [.int (p.1 : Nat), .int (p.2 : Nat)]
def lenW (c : Nat → Nat → Option Int) (ps : List Nat) : Int := ((stepsOf ps).map fun p => (c p.1 p.2).getD 0).sum
theorem zi_pl : ∀ ps qs : List Nat, ziD (plD ps) (plD qs) = (ps.zip qs).map pairD
  | [], _ => by simp [plD, ziD]
  | _ :: _, [] => by simp [plD, ziD]
  | p :: ps, q :: qs => by
    have := zi_pl ps qs
    simp only [plD, List.map_cons, ziD, List.zip_cons_cons] at this ⊢
    rw [this]; rfl
theorem pl_tail {ps : List Nat} : (plD ps).tail = plD ps.tail := by cases ps <;> rfl
theorem zi_steps {ps : List Nat} : ziD (plD ps) (plD ps).tail = (stepsOf ps).map pairD := by rw [pl_tail, zi_pl]; rfl
theorem steps_at : ∀ {ps : List Nat} {p : Nat × Nat}, p ∈ stepsOf ps → ∃ i, ps[i]? = some p.1 ∧ ps[i + 1]? = some p.2
  | [], p, h => by simp [stepsOf] at h
  | [_], p, h => by simp [stepsOf] at h
  | x :: y :: r, p, h => by
    have e : stepsOf (x :: y :: r) = (x, y) :: stepsOf (y :: r) := rfl
    rw [e] at h
    rcases List.mem_cons.mp h with rfl | h
    · exact ⟨0, rfl, rfl⟩
    · obtain ⟨i, h1, h2⟩ := steps_at h
      exact ⟨i + 1, by simpa using h1, by simpa using h2⟩
theorem IsWalk.step {n : Nat} {c : Nat → Nat → Option Int} {ps : List Nat} (hw : IsWalk n c ps) {p : Nat × Nat} (h : p ∈ stepsOf ps) : p.1 < n ∧ p.2 < n ∧ ∃ l, c p.1 p.2 = some l := by
  obtain ⟨i, h1, h2⟩ := steps_at h
  obtain ⟨_, e⟩ := hw.edge i _ _ h1 h2
  exact ⟨hw.lt _ (List.mem_of_getElem? h1), hw.lt _ (List.mem_of_getElem? h2), Option.isSome_iff_exists.mp e⟩
theorem sum_costs {c : Nat → Nat → Option Int} {ps : List Nat} : sumD [.list ((stepsOf ps).map fun p => .int ((c p.1 p.2).getD 0))] = some (none, .int (lenW c ps)) := by
  have e : (stepsOf ps).map (fun p => PyData.int ((c p.1 p.2).getD 0)) = ((stepsOf ps).map fun p => (c p.1 p.2).getD 0).map PyData.int := by rw [List.map_map]; rfl
  unfold sumD
  dsimp only
  rw [e, intsOf_map]; rfl
/-- the comprehension over the steps -/
theorem costs_run {n : Nat} {c : Nat → Nat → Option Int} {ps : List Nat} {d : D} (hw : IsWalk n c ps) : cRun (some 0) (bT [2, 3]) sYes (eOp2 ixD (eOp2 ixD (eVar 0) (eVar 2)) (eVar 3)) [some (webD n c), some d, none, none] ((stepsOf ps).map pairD) none =
    .ok ((stepsOf ps).map fun p => .int ((c p.1 p.2).getD 0)) none := by
  refine cRun_map pairD (fun p => .int ((c p.1 p.2).getD 0)) fun p hp => ?_
  obtain ⟨h1, h2, l, e⟩ := hw.step hp
  refine ⟨_, none, rfl, ?_, rfl⟩
  simp (disch := (first | assumption | (simp only [VF.owned_n, VF.owned_s, VF.scal_int, VF.scal_bool, VF.scal_str, VF.scal_none, VF.scal_list, VF.scal_tuple, VF.SZ, List.length_cons, List.length_nil, List.length_set, List.length_append, List.length_map, List.length_range, Int.reduceToNat, Int.reduceLE, Int.reduceLT, Nat.reduceAdd, Nat.reduceLT, Nat.reduceLeDiff, Nat.reduceEqDiff, Nat.zero_add, Nat.zero_lt_succ, Int.toNat_natCast, ne_eq, reduceCtorEq, not_false_eq_true]; done) | (simp only [VF.owned_n, VF.owned_s, VF.scal_int, VF.scal_bool, VF.scal_str, VF.scal_none, VF.scal_list, VF.scal_tuple, VF.SZ, List.length_cons, List.length_nil, List.length_set, List.length_append, List.length_map, List.length_range, Int.reduceToNat, Int.reduceLE, Int.reduceLT, Nat.reduceAdd, Nat.reduceLT, Nat.reduceLeDiff, Nat.reduceEqDiff, Nat.zero_add, Nat.zero_lt_succ, Int.toNat_natCast, ne_eq, reduceCtorEq, not_false_eq_true]; first | assumption | omega) | decide | omega)) only [VF.sSq_k, VF.srB_nx, VF.srB_rt, VF.srB_rz, VF.srB_bk, VF.srB_ct, VF.sIf_k, VF.tsB_ok, VF.tsB_rz, VF.sFor_k, VF.gsB_ok, VF.gsB_rz, VF.sDrop_k, VF.sRet_k, VF.sAsg_k, VF.sAsgT_k, VF.sRz_k, VF.esB_ok, VF.esB_rz, VF.put_int, VF.put_bool, VF.put_str, VF.put_none, VF.put_0, VF.put_listn, VF.put_list1, VF.put_tupn, VF.put_tup1, VF.sRetV_k, VF.retVK_ow, VF.retVK_fz, VF.sApp_k, VF.sAppK_k, VF.appD_k, VF.appK_n, VF.appK_s, VF.sAppV_k, VF.sAppVK_ow, VF.sAppVK_fz, VF.sSet_k, VF.sSetK_k, VF.setK_k, VF.setD_k, VF.setDK_n, VF.setDK_s, VF.sNx, VF.sBk, VF.sCt, VF.sTry_k, VF.tryK_nx, VF.drp_fz, VF.drp_no, VF.drp_ow, VF.excD_s, VF.excD_n, VF.lv0_exc, VF.isXD_none, List.map_cons, List.map_nil, VF.retR_rt, VF.retR_nx, VF.retR_rz, VF.retOf_0, VF.retOf_1, VF.retK_k, VF.arg0, VF.evS_0, VF.evS_1, VF.evSJ_k, VF.esK0_n, VF.esK0_s, VF.esK0_rz, VF.esK1_n, VF.esK1_s, VF.evT_0, VF.evT_1, VF.evTJ_k, VF.tsK0_k, VF.tsK0_rz, VF.tsK1_k, VF.evG_0, VF.evG_1, VF.evGJ_k, VF.gsK0_t, VF.gsK0_f, VF.gsK1_t, VF.frzF_cons, VF.frzF_nil, VF.envF_cons, VF.envF_nil, VF.fr1_false, VF.fr1_fz, VF.fr1_no, VF.fr1_ow, VF.en1_fz, VF.en1_no, VF.en1_ow, VF.en1_own, VF.erB_ok, VF.erB_rz, VF.arB_ok, VF.arB_rz, VF.irB_ok, VF.irB_rz, VF.trB_ok, VF.trB_rz, VF.obB_ok, VF.gaB_ok, VF.gaB_rz, VF.c1_k, VF.c2_k, VF.c2'_k, VF.c3_k, VF.c4_k, VF.c4'_k, VF.c5_k, VF.c6_k, VF.c7_k, VF.c8_k, VF.c9_k, VF.c10_k, VF.c11_k, VF.c11'_k, VF.c12_k, VF.c13_k, VF.c13'_k, VF.c13''_k, VF.c14_k, VF.c15_k, VF.c16_k, VF.c17_k, VF.c18_k, VF.c19_k, VF.c20_k, VF.c21_k, VF.c22_k, VF.c23_k, VF.c24_k, VF.c25_k, VF.k1_k, VF.k1'_k, VF.k2_k, VF.k3_k, VF.k4_k, VF.eVar_k, VF.varK_k, VF.eC_k, VF.eOp1_k, VF.eOp2_k, VF.erO_k, VF.eCall_k, VF.aNil_k, VF.aCons_k, VF.eLst_k, VF.eTup_k, VF.eIf_k, VF.eAnd_k, VF.eOr_k, VF.eNot_k, VF.andK_k, VF.orK_k, VF.notK_k, VF.eCh_k, VF.chK_k, VF.eBd_none, VF.eBd_some, VF.bdK_k, VF.eSl_k, VF.uNil_k, VF.uCons_k, VF.uIo_k, VF.uPerm_k, VF.permL, VF.eUser_k, VF.usrK_none, VF.usrK_some, VF.usrJ_k, eq_self, VF.sTest_k, VF.tBool_k, VF.sTru_k, VF.tTru_bool, VF.tTru_int, VF.tTru_list, VF.tTru_none, VF.sNot_k, VF.sAnd_k, VF.sOr_k, VF.sYes_k, VF.gIter_k, VF.gSeq_list, VF.gSeq_tuple, VF.gArgs_k, VF.gaK_k, VF.eLc_k, VF.lcK_k, VF.iiD_k, VF.icD_if, VF.ibD_k, VF.intD_int, VF.intD_bool, VF.addD_int, VF.negD_k, VF.cMod_k, VF.cDiv_k, VF.ixD_list, VF.ixD_tuple, VF.itD_k, VF.ixN_pos, VF.atI_pos, VF.lv0_int, VF.lv0_bool, VF.lv0_str, VF.lv0_none, VF.lv0_list, VF.lv0_tuple, VF.scal_int, VF.scal_bool, VF.scal_str, VF.scal_none, VF.scal_list, VF.scal_tuple, VF.neD_int, VF.eqD_int, VF.rng1_if, VF.rng2_if, VF.enumG_k, VF.zipG_k, Int.toNat_natCast, VF.notND_none, VF.notND_int, VF.notND_bool, VF.notND_str, VF.notND_list, VF.notND_tuple, VF.isND_none, VF.isND_int, VF.isND_list, VF.isND_tuple, VF.isND_exc, VF.eIsa_k, VF.lenD_list, VF.lenD_tuple, beq_self_eq_true, VF.slD_k, VF.cut_tail, VF.lzD_k, VF.wipeE, VF.lmin_nn, VF.up_n, VF.up_s, VF.lmin_ns, VF.lmin_sn, VF.lmin_ss, VF.owned_n, VF.owned_s, List.contains_cons, List.contains_nil, List.getElem?_cons_zero, List.getElem?_cons_succ, List.getElem?_nil, List.set_cons_zero, List.set_cons_succ, List.length_cons, List.length_nil, List.append_nil, List.cons_append, List.nil_append, List.replicate_succ, List.replicate_zero, Option.some.injEq, Bool.and_true, Bool.true_and, Bool.and_false, Bool.false_and, Bool.or_false, Bool.false_or, Bool.or_true, Bool.true_or, Bool.not_true, Bool.not_false, Nat.reduceBEq, Nat.reduceAdd, Nat.reduceSub, Nat.reduceLeDiff, Nat.reduceEqDiff, Nat.reduceLT, Int.reduceToNat, decide_true, decide_false, ↓reduceIte, reduceCtorEq, Bool.false_eq_true, Nat.zero_add, lv0_web, ixD_web, ixD_row, e, cellD_s, Option.getD_some]
theorem v_length_of {n : Nat} {c : Nat → Nat → Option Int} {ps : List Nat} (hd : ∀ x, x < n → c x x = some 0) (hw : IsWalk n c ps) (hz : ps.length ≤ 1000) (h0 : ps ≠ []) :
    fnM none 4 F_length_of [some (webD n c), some (.list (plD ps))] none = .ok none (.int (lenW c ps)) none := by
  refine fn_eq ?_
  simp (disch := (first | assumption | (simp only [VF.owned_n, VF.owned_s, VF.scal_int, VF.scal_bool, VF.scal_str, VF.scal_none, VF.scal_list, VF.scal_tuple, VF.SZ, List.length_cons, List.length_nil, List.length_set, List.length_append, List.length_map, List.length_range, Int.reduceToNat, Int.reduceLE, Int.reduceLT, Nat.reduceAdd, Nat.reduceLT, Nat.reduceLeDiff, Nat.reduceEqDiff, Nat.zero_add, Nat.zero_lt_succ, Int.toNat_natCast, ne_eq, reduceCtorEq, not_false_eq_true]; done) | (simp only [VF.owned_n, VF.owned_s, VF.scal_int, VF.scal_bool, VF.scal_str, VF.scal_none, VF.scal_list, VF.scal_tuple, VF.SZ, List.length_cons, List.length_nil, List.length_set, List.length_append, List.length_map, List.length_range, Int.reduceToNat, Int.reduceLE, Int.reduceLT, Nat.reduceAdd, Nat.reduceLT, Nat.reduceLeDiff, Nat.reduceEqDiff, Nat.zero_add, Nat.zero_lt_succ, Int.toNat_natCast, ne_eq, reduceCtorEq, not_false_eq_true]; first | assumption | omega) | decide | omega)) only [VF.sSq_k, VF.srB_nx, VF.srB_rt, VF.srB_rz, VF.srB_bk, VF.srB_ct, VF.sIf_k, VF.tsB_ok, VF.tsB_rz, VF.sFor_k, VF.gsB_ok, VF.gsB_rz, VF.sDrop_k, VF.sRet_k, VF.sAsg_k, VF.sAsgT_k, VF.sRz_k, VF.esB_ok, VF.esB_rz, VF.put_int, VF.put_bool, VF.put_str, VF.put_none, VF.put_0, VF.put_listn, VF.put_list1, VF.put_tupn, VF.put_tup1, VF.sRetV_k, VF.retVK_ow, VF.retVK_fz, VF.sApp_k, VF.sAppK_k, VF.appD_k, VF.appK_n, VF.appK_s, VF.sAppV_k, VF.sAppVK_ow, VF.sAppVK_fz, VF.sSet_k, VF.sSetK_k, VF.setK_k, VF.setD_k, VF.setDK_n, VF.setDK_s, VF.sNx, VF.sBk, VF.sCt, VF.sTry_k, VF.tryK_nx, VF.drp_fz, VF.drp_no, VF.drp_ow, VF.excD_s, VF.excD_n, VF.lv0_exc, VF.isXD_none, List.map_cons, List.map_nil, VF.retR_rt, VF.retR_nx, VF.retR_rz, VF.retOf_0, VF.retOf_1, VF.retK_k, VF.arg0, VF.evS_0, VF.evS_1, VF.evSJ_k, VF.esK0_n, VF.esK0_s, VF.esK0_rz, VF.esK1_n, VF.esK1_s, VF.evT_0, VF.evT_1, VF.evTJ_k, VF.tsK0_k, VF.tsK0_rz, VF.tsK1_k, VF.evG_0, VF.evG_1, VF.evGJ_k, VF.gsK0_t, VF.gsK0_f, VF.gsK1_t, VF.frzF_cons, VF.frzF_nil, VF.envF_cons, VF.envF_nil, VF.fr1_false, VF.fr1_fz, VF.fr1_no, VF.fr1_ow, VF.en1_fz, VF.en1_no, VF.en1_ow, VF.en1_own, VF.erB_ok, VF.erB_rz, VF.arB_ok, VF.arB_rz, VF.irB_ok, VF.irB_rz, VF.trB_ok, VF.trB_rz, VF.obB_ok, VF.gaB_ok, VF.gaB_rz, VF.c1_k, VF.c2_k, VF.c2'_k, VF.c3_k, VF.c4_k, VF.c4'_k, VF.c5_k, VF.c6_k, VF.c7_k, VF.c8_k, VF.c9_k, VF.c10_k, VF.c11_k, VF.c11'_k, VF.c12_k, VF.c13_k, VF.c13'_k, VF.c13''_k, VF.c14_k, VF.c15_k, VF.c16_k, VF.c17_k, VF.c18_k, VF.c19_k, VF.c20_k, VF.c21_k, VF.c22_k, VF.c23_k, VF.c24_k, VF.c25_k, VF.k1_k, VF.k1'_k, VF.k2_k, VF.k3_k, VF.k4_k, VF.eVar_k, VF.varK_k, VF.eC_k, VF.eOp1_k, VF.eOp2_k, VF.erO_k, VF.eCall_k, VF.aNil_k, VF.aCons_k, VF.eLst_k, VF.eTup_k, VF.eIf_k, VF.eAnd_k, VF.eOr_k, VF.eNot_k, VF.andK_k, VF.orK_k, VF.notK_k, VF.eCh_k, VF.chK_k, VF.eBd_none, VF.eBd_some, VF.bdK_k, VF.eSl_k, VF.uNil_k, VF.uCons_k, VF.uIo_k, VF.uPerm_k, VF.permL, VF.eUser_k, VF.usrK_none, VF.usrK_some, VF.usrJ_k, eq_self, VF.sTest_k, VF.tBool_k, VF.sTru_k, VF.tTru_bool, VF.tTru_int, VF.tTru_list, VF.tTru_none, VF.sNot_k, VF.sAnd_k, VF.sOr_k, VF.sYes_k, VF.gIter_k, VF.gSeq_list, VF.gSeq_tuple, VF.gArgs_k, VF.gaK_k, VF.eLc_k, VF.lcK_k, VF.iiD_k, VF.icD_if, VF.ibD_k, VF.intD_int, VF.intD_bool, VF.addD_int, VF.negD_k, VF.cMod_k, VF.cDiv_k, VF.ixD_list, VF.ixD_tuple, VF.itD_k, VF.ixN_pos, VF.atI_pos, VF.lv0_int, VF.lv0_bool, VF.lv0_str, VF.lv0_none, VF.lv0_list, VF.lv0_tuple, VF.scal_int, VF.scal_bool, VF.scal_str, VF.scal_none, VF.scal_list, VF.scal_tuple, VF.neD_int, VF.eqD_int, VF.rng1_if, VF.rng2_if, VF.enumG_k, VF.zipG_k, Int.toNat_natCast, VF.notND_none, VF.notND_int, VF.notND_bool, VF.notND_str, VF.notND_list, VF.notND_tuple, VF.isND_none, VF.isND_int, VF.isND_list, VF.isND_tuple, VF.isND_exc, VF.eIsa_k, VF.lenD_list, VF.lenD_tuple, beq_self_eq_true, VF.slD_k, VF.cut_tail, VF.lzD_k, VF.wipeE, VF.lmin_nn, VF.up_n, VF.up_s, VF.lmin_ns, VF.lmin_sn, VF.lmin_ss, VF.owned_n, VF.owned_s, List.contains_cons, List.contains_nil, List.getElem?_cons_zero, List.getElem?_cons_succ, List.getElem?_nil, List.set_cons_zero, List.set_cons_succ, List.length_cons, List.length_nil, List.append_nil, List.cons_append, List.nil_append, List.replicate_succ, List.replicate_zero, Option.some.injEq, Bool.and_true, Bool.true_and, Bool.and_false, Bool.false_and, Bool.or_false, Bool.false_or, Bool.or_true, Bool.true_or, Bool.not_true, Bool.not_false, Nat.reduceBEq, Nat.reduceAdd, Nat.reduceSub, Nat.reduceLeDiff, Nat.reduceEqDiff, Nat.reduceLT, Int.reduceToNat, decide_true, decide_false, ↓reduceIte, reduceCtorEq, Bool.false_eq_true, Nat.zero_add, F_length_of, lv0_web, v_check_web hd, v_check_walk hw hz h0, zi_steps, List.set_cons_succ, List.set_cons_zero, costs_run hw, sum_costs]
end K04
end
section
set_option Elab.async false
set_option linter.all false
set_option maxRecDepth 100000
set_option maxHeartbeats 2000000
namespace K04
open PySem PySem.Spec L2 VF
open PyProof.Rows hiding St
theorem v_steps {ps : List Nat} : fnM none 1 F__law_steps [some (.list (plD ps))] none = .ok (some 1) (.list ((stepsOf ps).map pairD)) none := by
  refine fn_eq ?_
  simp (disch := (first | assumption | (simp only [VF.owned_n, VF.owned_s, VF.scal_int, VF.scal_bool, VF.scal_str, VF.scal_none, VF.scal_list, VF.scal_tuple, VF.SZ, List.length_cons, List.length_nil, List.length_set, List.length_append, List.length_map, List.length_range, Int.reduceToNat, Int.reduceLE, Int.reduceLT, Nat.reduceAdd, Nat.reduceLT, Nat.reduceLeDiff, Nat.reduceEqDiff, Nat.zero_add, Nat.zero_lt_succ, Int.toNat_natCast, ne_eq, reduceCtorEq, not_false_eq_true]; done) | (simp only [VF.owned_n, VF.owned_s, VF.scal_int, VF.scal_bool, VF.scal_str, VF.scal_none, VF.scal_list, VF.scal_tuple, VF.SZ, List.length_cons, List.length_nil, List.length_set, List.length_append, List.length_map, List.length_range, Int.reduceToNat, Int.reduceLE, Int.reduceLT, Nat.reduceAdd, Nat.reduceLT, Nat.reduceLeDiff, Nat.reduceEqDiff, Nat.zero_add, Nat.zero_lt_succ, Int.toNat_natCast, ne_eq, reduceCtorEq, not_false_eq_true]; first | assumption | omega) | decide | omega)) only [VF.sSq_k, VF.srB_nx, VF.srB_rt, VF.srB_rz, VF.srB_bk, VF.srB_ct, VF.sIf_k, VF.tsB_ok, VF.tsB_rz, VF.sFor_k, VF.gsB_ok, VF.gsB_rz, VF.sDrop_k, VF.sRet_k, VF.sAsg_k, VF.sAsgT_k, VF.sRz_k, VF.esB_ok, VF.esB_rz, VF.put_int, VF.put_bool, VF.put_str, VF.put_none, VF.put_0, VF.put_listn, VF.put_list1, VF.put_tupn, VF.put_tup1, VF.sRetV_k, VF.retVK_ow, VF.retVK_fz, VF.sApp_k, VF.sAppK_k, VF.appD_k, VF.appK_n, VF.appK_s, VF.sAppV_k, VF.sAppVK_ow, VF.sAppVK_fz, VF.sSet_k, VF.sSetK_k, VF.setK_k, VF.setD_k, VF.setDK_n, VF.setDK_s, VF.sNx, VF.sBk, VF.sCt, VF.sTry_k, VF.tryK_nx, VF.drp_fz, VF.drp_no, VF.drp_ow, VF.excD_s, VF.excD_n, VF.lv0_exc, VF.isXD_none, List.map_cons, List.map_nil, VF.retR_rt, VF.retR_nx, VF.retR_rz, VF.retOf_0, VF.retOf_1, VF.retK_k, VF.arg0, VF.evS_0, VF.evS_1, VF.evSJ_k, VF.esK0_n, VF.esK0_s, VF.esK0_rz, VF.esK1_n, VF.esK1_s, VF.evT_0, VF.evT_1, VF.evTJ_k, VF.tsK0_k, VF.tsK0_rz, VF.tsK1_k, VF.evG_0, VF.evG_1, VF.evGJ_k, VF.gsK0_t, VF.gsK0_f, VF.gsK1_t, VF.frzF_cons, VF.frzF_nil, VF.envF_cons, VF.envF_nil, VF.fr1_false, VF.fr1_fz, VF.fr1_no, VF.fr1_ow, VF.en1_fz, VF.en1_no, VF.en1_ow, VF.en1_own, VF.erB_ok, VF.erB_rz, VF.arB_ok, VF.arB_rz, VF.irB_ok, VF.irB_rz, VF.trB_ok, VF.trB_rz, VF.obB_ok, VF.gaB_ok, VF.gaB_rz, VF.c1_k, VF.c2_k, VF.c2'_k, VF.c3_k, VF.c4_k, VF.c4'_k, VF.c5_k, VF.c6_k, VF.c7_k, VF.c8_k, VF.c9_k, VF.c10_k, VF.c11_k, VF.c11'_k, VF.c12_k, VF.c13_k, VF.c13'_k, VF.c13''_k, VF.c14_k, VF.c15_k, VF.c16_k, VF.c17_k, VF.c18_k, VF.c19_k, VF.c20_k, VF.c21_k, VF.c22_k, VF.c23_k, VF.c24_k, VF.c25_k, VF.k1_k, VF.k1'_k, VF.k2_k, VF.k3_k, VF.k4_k, VF.eVar_k, VF.varK_k, VF.eC_k, VF.eOp1_k, VF.eOp2_k, VF.erO_k, VF.eCall_k, VF.aNil_k, VF.aCons_k, VF.eLst_k, VF.eTup_k, VF.eIf_k, VF.eAnd_k, VF.eOr_k, VF.eNot_k, VF.andK_k, VF.orK_k, VF.notK_k, VF.eCh_k, VF.chK_k, VF.eBd_none, VF.eBd_some, VF.bdK_k, VF.eSl_k, VF.uNil_k, VF.uCons_k, VF.uIo_k, VF.uPerm_k, VF.permL, VF.eUser_k, VF.usrK_none, VF.usrK_some, VF.usrJ_k, eq_self, VF.sTest_k, VF.tBool_k, VF.sTru_k, VF.tTru_bool, VF.tTru_int, VF.tTru_list, VF.tTru_none, VF.sNot_k, VF.sAnd_k, VF.sOr_k, VF.sYes_k, VF.gIter_k, VF.gSeq_list, VF.gSeq_tuple, VF.gArgs_k, VF.gaK_k, VF.eLc_k, VF.lcK_k, VF.iiD_k, VF.icD_if, VF.ibD_k, VF.intD_int, VF.intD_bool, VF.addD_int, VF.negD_k, VF.cMod_k, VF.cDiv_k, VF.ixD_list, VF.ixD_tuple, VF.itD_k, VF.ixN_pos, VF.atI_pos, VF.lv0_int, VF.lv0_bool, VF.lv0_str, VF.lv0_none, VF.lv0_list, VF.lv0_tuple, VF.scal_int, VF.scal_bool, VF.scal_str, VF.scal_none, VF.scal_list, VF.scal_tuple, VF.neD_int, VF.eqD_int, VF.rng1_if, VF.rng2_if, VF.enumG_k, VF.zipG_k, Int.toNat_natCast, VF.notND_none, VF.notND_int, VF.notND_bool, VF.notND_str, VF.notND_list, VF.notND_tuple, VF.isND_none, VF.isND_int, VF.isND_list, VF.isND_tuple, VF.isND_exc, VF.eIsa_k, VF.lenD_list, VF.lenD_tuple, beq_self_eq_true, VF.slD_k, VF.cut_tail, VF.lzD_k, VF.wipeE, VF.lmin_nn, VF.up_n, VF.up_s, VF.lmin_ns, VF.lmin_sn, VF.lmin_ss, VF.owned_n, VF.owned_s, List.contains_cons, List.contains_nil, List.getElem?_cons_zero, List.getElem?_cons_succ, List.getElem?_nil, List.set_cons_zero, List.set_cons_succ, List.length_cons, List.length_nil, List.append_nil, List.cons_append, List.nil_append, List.replicate_succ, List.replicate_zero, Option.some.injEq, Bool.and_true, Bool.true_and, Bool.and_false, Bool.false_and, Bool.or_false, Bool.false_or, Bool.or_true, Bool.true_or, Bool.not_true, Bool.not_false, Nat.reduceBEq, Nat.reduceAdd, Nat.reduceSub, Nat.reduceLeDiff, Nat.reduceEqDiff, Nat.reduceLT, Int.reduceToNat, decide_true, decide_false, ↓reduceIte, reduceCtorEq, Bool.false_eq_true, Nat.zero_add, F__law_steps, zi_steps]
theorem v_long {n : Nat} {c : Nat → Nat → Option Int} {ps : List Nat} (hw : IsWalk n c ps) : fnM none 4 F__law_long [some (webD n c), some (.list (plD ps))] none = .ok none (.int (lenW c ps)) none := by
  refine fn_eq ?_
  simp (disch := (first | assumption | (simp only [VF.owned_n, VF.owned_s, VF.scal_int, VF.scal_bool, VF.scal_str, VF.scal_none, VF.scal_list, VF.scal_tuple, VF.SZ, List.length_cons, List.length_nil, List.length_set, List.length_append, List.length_map, List.length_range, Int.reduceToNat, Int.reduceLE, Int.reduceLT, Nat.reduceAdd, Nat.reduceLT, Nat.reduceLeDiff, Nat.reduceEqDiff, Nat.zero_add, Nat.zero_lt_succ, Int.toNat_natCast, ne_eq, reduceCtorEq, not_false_eq_true]; done) | (simp only [VF.owned_n, VF.owned_s, VF.scal_int, VF.scal_bool, VF.scal_str, VF.scal_none, VF.scal_list, VF.scal_tuple, VF.SZ, List.length_cons, List.length_nil, List.length_set, List.length_append, List.length_map, List.length_range, Int.reduceToNat, Int.reduceLE, Int.reduceLT, Nat.reduceAdd, Nat.reduceLT, Nat.reduceLeDiff, Nat.reduceEqDiff, Nat.zero_add, Nat.zero_lt_succ, Int.toNat_natCast, ne_eq, reduceCtorEq, not_false_eq_true]; first | assumption | omega) | decide | omega)) only [VF.sSq_k, VF.srB_nx, VF.srB_rt, VF.srB_rz, VF.srB_bk, VF.srB_ct, VF.sIf_k, VF.tsB_ok, VF.tsB_rz, VF.sFor_k, VF.gsB_ok, VF.gsB_rz, VF.sDrop_k, VF.sRet_k, VF.sAsg_k, VF.sAsgT_k, VF.sRz_k, VF.esB_ok, VF.esB_rz, VF.put_int, VF.put_bool, VF.put_str, VF.put_none, VF.put_0, VF.put_listn, VF.put_list1, VF.put_tupn, VF.put_tup1, VF.sRetV_k, VF.retVK_ow, VF.retVK_fz, VF.sApp_k, VF.sAppK_k, VF.appD_k, VF.appK_n, VF.appK_s, VF.sAppV_k, VF.sAppVK_ow, VF.sAppVK_fz, VF.sSet_k, VF.sSetK_k, VF.setK_k, VF.setD_k, VF.setDK_n, VF.setDK_s, VF.sNx, VF.sBk, VF.sCt, VF.sTry_k, VF.tryK_nx, VF.drp_fz, VF.drp_no, VF.drp_ow, VF.excD_s, VF.excD_n, VF.lv0_exc, VF.isXD_none, List.map_cons, List.map_nil, VF.retR_rt, VF.retR_nx, VF.retR_rz, VF.retOf_0, VF.retOf_1, VF.retK_k, VF.arg0, VF.evS_0, VF.evS_1, VF.evSJ_k, VF.esK0_n, VF.esK0_s, VF.esK0_rz, VF.esK1_n, VF.esK1_s, VF.evT_0, VF.evT_1, VF.evTJ_k, VF.tsK0_k, VF.tsK0_rz, VF.tsK1_k, VF.evG_0, VF.evG_1, VF.evGJ_k, VF.gsK0_t, VF.gsK0_f, VF.gsK1_t, VF.frzF_cons, VF.frzF_nil, VF.envF_cons, VF.envF_nil, VF.fr1_false, VF.fr1_fz, VF.fr1_no, VF.fr1_ow, VF.en1_fz, VF.en1_no, VF.en1_ow, VF.en1_own, VF.erB_ok, VF.erB_rz, VF.arB_ok, VF.arB_rz, VF.irB_ok, VF.irB_rz, VF.trB_ok, VF.trB_rz, VF.obB_ok, VF.gaB_ok, VF.gaB_rz, VF.c1_k, VF.c2_k, VF.c2'_k, VF.c3_k, VF.c4_k, VF.c4'_k, VF.c5_k, VF.c6_k, VF.c7_k, VF.c8_k, VF.c9_k, VF.c10_k, VF.c11_k, VF.c11'_k, VF.c12_k, VF.c13_k, VF.c13'_k, VF.c13''_k, VF.c14_k, VF.c15_k, VF.c16_k, VF.c17_k, VF.c18_k, VF.c19_k, VF.c20_k, VF.c21_k, VF.c22_k, VF.c23_k, VF.c24_k, VF.c25_k, VF.k1_k, VF.k1'_k, VF.k2_k, VF.k3_k, VF.k4_k, VF.eVar_k, VF.varK_k, VF.eC_k, VF.eOp1_k, VF.eOp2_k, VF.erO_k, VF.eCall_k, VF.aNil_k, VF.aCons_k, VF.eLst_k, VF.eTup_k, VF.eIf_k, VF.eAnd_k, VF.eOr_k, VF.eNot_k, VF.andK_k, VF.orK_k, VF.notK_k, VF.eCh_k, VF.chK_k, VF.eBd_none, VF.eBd_some, VF.bdK_k, VF.eSl_k, VF.uNil_k, VF.uCons_k, VF.uIo_k, VF.uPerm_k, VF.permL, VF.eUser_k, VF.usrK_none, VF.usrK_some, VF.usrJ_k, eq_self, VF.sTest_k, VF.tBool_k, VF.sTru_k, VF.tTru_bool, VF.tTru_int, VF.tTru_list, VF.tTru_none, VF.sNot_k, VF.sAnd_k, VF.sOr_k, VF.sYes_k, VF.gIter_k, VF.gSeq_list, VF.gSeq_tuple, VF.gArgs_k, VF.gaK_k, VF.eLc_k, VF.lcK_k, VF.iiD_k, VF.icD_if, VF.ibD_k, VF.intD_int, VF.intD_bool, VF.addD_int, VF.negD_k, VF.cMod_k, VF.cDiv_k, VF.ixD_list, VF.ixD_tuple, VF.itD_k, VF.ixN_pos, VF.atI_pos, VF.lv0_int, VF.lv0_bool, VF.lv0_str, VF.lv0_none, VF.lv0_list, VF.lv0_tuple, VF.scal_int, VF.scal_bool, VF.scal_str, VF.scal_none, VF.scal_list, VF.scal_tuple, VF.neD_int, VF.eqD_int, VF.rng1_if, VF.rng2_if, VF.enumG_k, VF.zipG_k, Int.toNat_natCast, VF.notND_none, VF.notND_int, VF.notND_bool, VF.notND_str, VF.notND_list, VF.notND_tuple, VF.isND_none, VF.isND_int, VF.isND_list, VF.isND_tuple, VF.isND_exc, VF.eIsa_k, VF.lenD_list, VF.lenD_tuple, beq_self_eq_true, VF.slD_k, VF.cut_tail, VF.lzD_k, VF.wipeE, VF.lmin_nn, VF.up_n, VF.up_s, VF.lmin_ns, VF.lmin_sn, VF.lmin_ss, VF.owned_n, VF.owned_s, List.contains_cons, List.contains_nil, List.getElem?_cons_zero, List.getElem?_cons_succ, List.getElem?_nil, List.set_cons_zero, List.set_cons_succ, List.length_cons, List.length_nil, List.append_nil, List.cons_append, List.nil_append, List.replicate_succ, List.replicate_zero, Option.some.injEq, Bool.and_true, Bool.true_and, Bool.and_false, Bool.false_and, Bool.or_false, Bool.false_or, Bool.or_true, Bool.true_or, Bool.not_true, Bool.not_false, Nat.reduceBEq, Nat.reduceAdd, Nat.reduceSub, Nat.reduceLeDiff, Nat.reduceEqDiff, Nat.reduceLT, Int.reduceToNat, decide_true, decide_false, ↓reduceIte, reduceCtorEq, Bool.false_eq_true, Nat.zero_add, F__law_long, lv0_web, v_steps, costs_run hw, sum_costs]
/-! what an error tells -/
def tellD (s : Str) (d : D) : D := .list [.str s, d]
theorem sh_tell (s : Str) (h : (reprText s).length ≤ 100 ∧ cpOk (reprText s) = true) {d : D} {n : Nat} (hd : ShOk d 0 n) (hn : n ≤ 100) : ShOk (tellD s d) 1 206 := by
  have a : ShOk (.str s) 0 100 := ⟨rfl, rfl, Nat.le_refl _, h.1, h.2⟩
  exact sh_list (ds := [.str s, d]) (k := 0) (n := 100) (m := 2) (fun e he => by
    rcases List.mem_cons.mp he with rfl | he
    · exact a
    · rcases List.mem_cons.mp he with rfl | he
      · exact hd.up (Nat.le_refl _) hn
      · cases he) (Nat.le_refl _)
theorem sh_word (s : Str) (h : (reprText s).length ≤ 100 ∧ cpOk (reprText s) = true) {d : D} {n : Nat} (hd : ShOk d 0 n) (hn : n ≤ 100) : okShow (tellD s d) = true := (sh_tell s h hd hn).ok (by decide) (by decide)
theorem lv0_scal {d : D} (h : scal d = true) : lv0 d = none := if_pos h
theorem v_told_walk {w p d : D} {n : Nat} (h : fnM none 4 F_length_of [some w, some p] none = .rz "InvalidWalk" (some ("index", d))) (hs : scal d = true) (hd : ShOk d 0 n) (hn : n ≤ 100) :
    fnM none 4 F__law_told [some w, some p] none = .ok none (.str (tellD "walk" d).shown) none := by
  have ok := sh_word "walk" (by decide +kernel) hd hn
  unfold tellD at ok
  refine fn_eq ?_
  simp (disch := (first | assumption | (simp only [VF.owned_n, VF.owned_s, VF.scal_int, VF.scal_bool, VF.scal_str, VF.scal_none, VF.scal_list, VF.scal_tuple, VF.SZ, List.length_cons, List.length_nil, List.length_set, List.length_append, List.length_map, List.length_range, Int.reduceToNat, Int.reduceLE, Int.reduceLT, Nat.reduceAdd, Nat.reduceLT, Nat.reduceLeDiff, Nat.reduceEqDiff, Nat.zero_add, Nat.zero_lt_succ, Int.toNat_natCast, ne_eq, reduceCtorEq, not_false_eq_true]; done) | (simp only [VF.owned_n, VF.owned_s, VF.scal_int, VF.scal_bool, VF.scal_str, VF.scal_none, VF.scal_list, VF.scal_tuple, VF.SZ, List.length_cons, List.length_nil, List.length_set, List.length_append, List.length_map, List.length_range, Int.reduceToNat, Int.reduceLE, Int.reduceLT, Nat.reduceAdd, Nat.reduceLT, Nat.reduceLeDiff, Nat.reduceEqDiff, Nat.zero_add, Nat.zero_lt_succ, Int.toNat_natCast, ne_eq, reduceCtorEq, not_false_eq_true]; first | assumption | omega) | decide | omega)) only [VF.sSq_k, VF.srB_nx, VF.srB_rt, VF.srB_rz, VF.srB_bk, VF.srB_ct, VF.sIf_k, VF.tsB_ok, VF.tsB_rz, VF.sFor_k, VF.gsB_ok, VF.gsB_rz, VF.sDrop_k, VF.sRet_k, VF.sAsg_k, VF.sAsgT_k, VF.sRz_k, VF.esB_ok, VF.esB_rz, VF.put_int, VF.put_bool, VF.put_str, VF.put_none, VF.put_0, VF.put_listn, VF.put_list1, VF.put_tupn, VF.put_tup1, VF.sRetV_k, VF.retVK_ow, VF.retVK_fz, VF.sApp_k, VF.sAppK_k, VF.appD_k, VF.appK_n, VF.appK_s, VF.sAppV_k, VF.sAppVK_ow, VF.sAppVK_fz, VF.sSet_k, VF.sSetK_k, VF.setK_k, VF.setD_k, VF.setDK_n, VF.setDK_s, VF.sNx, VF.sBk, VF.sCt, VF.sTry_k, VF.tryK_nx, VF.drp_fz, VF.drp_no, VF.drp_ow, VF.excD_s, VF.excD_n, VF.lv0_exc, VF.isXD_none, List.map_cons, List.map_nil, VF.retR_rt, VF.retR_nx, VF.retR_rz, VF.retOf_0, VF.retOf_1, VF.retK_k, VF.arg0, VF.evS_0, VF.evS_1, VF.evSJ_k, VF.esK0_n, VF.esK0_s, VF.esK0_rz, VF.esK1_n, VF.esK1_s, VF.evT_0, VF.evT_1, VF.evTJ_k, VF.tsK0_k, VF.tsK0_rz, VF.tsK1_k, VF.evG_0, VF.evG_1, VF.evGJ_k, VF.gsK0_t, VF.gsK0_f, VF.gsK1_t, VF.frzF_cons, VF.frzF_nil, VF.envF_cons, VF.envF_nil, VF.fr1_false, VF.fr1_fz, VF.fr1_no, VF.fr1_ow, VF.en1_fz, VF.en1_no, VF.en1_ow, VF.en1_own, VF.erB_ok, VF.erB_rz, VF.arB_ok, VF.arB_rz, VF.irB_ok, VF.irB_rz, VF.trB_ok, VF.trB_rz, VF.obB_ok, VF.gaB_ok, VF.gaB_rz, VF.c1_k, VF.c2_k, VF.c2'_k, VF.c3_k, VF.c4_k, VF.c4'_k, VF.c5_k, VF.c6_k, VF.c7_k, VF.c8_k, VF.c9_k, VF.c10_k, VF.c11_k, VF.c11'_k, VF.c12_k, VF.c13_k, VF.c13'_k, VF.c13''_k, VF.c14_k, VF.c15_k, VF.c16_k, VF.c17_k, VF.c18_k, VF.c19_k, VF.c20_k, VF.c21_k, VF.c22_k, VF.c23_k, VF.c24_k, VF.c25_k, VF.k1_k, VF.k1'_k, VF.k2_k, VF.k3_k, VF.k4_k, VF.eVar_k, VF.varK_k, VF.eC_k, VF.eOp1_k, VF.eOp2_k, VF.erO_k, VF.eCall_k, VF.aNil_k, VF.aCons_k, VF.eLst_k, VF.eTup_k, VF.eIf_k, VF.eAnd_k, VF.eOr_k, VF.eNot_k, VF.andK_k, VF.orK_k, VF.notK_k, VF.eCh_k, VF.chK_k, VF.eBd_none, VF.eBd_some, VF.bdK_k, VF.eSl_k, VF.uNil_k, VF.uCons_k, VF.uIo_k, VF.uPerm_k, VF.permL, VF.eUser_k, VF.usrK_none, VF.usrK_some, VF.usrJ_k, eq_self, VF.sTest_k, VF.tBool_k, VF.sTru_k, VF.tTru_bool, VF.tTru_int, VF.tTru_list, VF.tTru_none, VF.sNot_k, VF.sAnd_k, VF.sOr_k, VF.sYes_k, VF.gIter_k, VF.gSeq_list, VF.gSeq_tuple, VF.gArgs_k, VF.gaK_k, VF.eLc_k, VF.lcK_k, VF.iiD_k, VF.icD_if, VF.ibD_k, VF.intD_int, VF.intD_bool, VF.addD_int, VF.negD_k, VF.cMod_k, VF.cDiv_k, VF.ixD_list, VF.ixD_tuple, VF.itD_k, VF.ixN_pos, VF.atI_pos, VF.lv0_int, VF.lv0_bool, VF.lv0_str, VF.lv0_none, VF.lv0_list, VF.lv0_tuple, VF.scal_int, VF.scal_bool, VF.scal_str, VF.scal_none, VF.scal_list, VF.scal_tuple, VF.neD_int, VF.eqD_int, VF.rng1_if, VF.rng2_if, VF.enumG_k, VF.zipG_k, Int.toNat_natCast, VF.notND_none, VF.notND_int, VF.notND_bool, VF.notND_str, VF.notND_list, VF.notND_tuple, VF.isND_none, VF.isND_int, VF.isND_list, VF.isND_tuple, VF.isND_exc, VF.eIsa_k, VF.lenD_list, VF.lenD_tuple, beq_self_eq_true, VF.slD_k, VF.cut_tail, VF.lzD_k, VF.wipeE, VF.lmin_nn, VF.up_n, VF.up_s, VF.lmin_ns, VF.lmin_sn, VF.lmin_ss, VF.owned_n, VF.owned_s, List.contains_cons, List.contains_nil, List.getElem?_cons_zero, List.getElem?_cons_succ, List.getElem?_nil, List.set_cons_zero, List.set_cons_succ, List.length_cons, List.length_nil, List.append_nil, List.cons_append, List.nil_append, List.replicate_succ, List.replicate_zero, Option.some.injEq, Bool.and_true, Bool.true_and, Bool.and_false, Bool.false_and, Bool.or_false, Bool.false_or, Bool.or_true, Bool.true_or, Bool.not_true, Bool.not_false, Nat.reduceBEq, Nat.reduceAdd, Nat.reduceSub, Nat.reduceLeDiff, Nat.reduceEqDiff, Nat.reduceLT, Int.reduceToNat, decide_true, decide_false, ↓reduceIte, reduceCtorEq, Bool.false_eq_true, Nat.zero_add, F__law_told, h, hs, lv0_scal hs, tryK_rz (i := 3) (j := 2) (c := "InvalidWalk") (L := ["InvalidWalk", "InvalidWeb"]) (by decide +kernel) (by decide), isXD_exc (c := "InvalidWalk") (tb := [("InvalidWalk", true), ("InvalidWeb", true)]) (b := true) (by decide +kernel),
    isXD_exc (c := "InvalidWalk") (tb := [("InvalidWalk", true), ("InvalidWeb", false)]) (b := true) (by decide +kernel), xaD_k (f := "index") (n := "index") (c := "InvalidWalk") (L := ["InvalidWalk"]) (by decide +kernel), reprD_k ok, tellD]
theorem v_told_web {w p d : D} {n : Nat} (h : fnM none 4 F_length_of [some w, some p] none = .rz "InvalidWeb" (some ("place", d))) (hs : scal d = true) (hd : ShOk d 0 n) (hn : n ≤ 100) :
    fnM none 4 F__law_told [some w, some p] none = .ok none (.str (tellD "web" d).shown) none := by
  have ok := sh_word "web" (by decide +kernel) hd hn
  unfold tellD at ok
  refine fn_eq ?_
  simp (disch := (first | assumption | (simp only [VF.owned_n, VF.owned_s, VF.scal_int, VF.scal_bool, VF.scal_str, VF.scal_none, VF.scal_list, VF.scal_tuple, VF.SZ, List.length_cons, List.length_nil, List.length_set, List.length_append, List.length_map, List.length_range, Int.reduceToNat, Int.reduceLE, Int.reduceLT, Nat.reduceAdd, Nat.reduceLT, Nat.reduceLeDiff, Nat.reduceEqDiff, Nat.zero_add, Nat.zero_lt_succ, Int.toNat_natCast, ne_eq, reduceCtorEq, not_false_eq_true]; done) | (simp only [VF.owned_n, VF.owned_s, VF.scal_int, VF.scal_bool, VF.scal_str, VF.scal_none, VF.scal_list, VF.scal_tuple, VF.SZ, List.length_cons, List.length_nil, List.length_set, List.length_append, List.length_map, List.length_range, Int.reduceToNat, Int.reduceLE, Int.reduceLT, Nat.reduceAdd, Nat.reduceLT, Nat.reduceLeDiff, Nat.reduceEqDiff, Nat.zero_add, Nat.zero_lt_succ, Int.toNat_natCast, ne_eq, reduceCtorEq, not_false_eq_true]; first | assumption | omega) | decide | omega)) only [VF.sSq_k, VF.srB_nx, VF.srB_rt, VF.srB_rz, VF.srB_bk, VF.srB_ct, VF.sIf_k, VF.tsB_ok, VF.tsB_rz, VF.sFor_k, VF.gsB_ok, VF.gsB_rz, VF.sDrop_k, VF.sRet_k, VF.sAsg_k, VF.sAsgT_k, VF.sRz_k, VF.esB_ok, VF.esB_rz, VF.put_int, VF.put_bool, VF.put_str, VF.put_none, VF.put_0, VF.put_listn, VF.put_list1, VF.put_tupn, VF.put_tup1, VF.sRetV_k, VF.retVK_ow, VF.retVK_fz, VF.sApp_k, VF.sAppK_k, VF.appD_k, VF.appK_n, VF.appK_s, VF.sAppV_k, VF.sAppVK_ow, VF.sAppVK_fz, VF.sSet_k, VF.sSetK_k, VF.setK_k, VF.setD_k, VF.setDK_n, VF.setDK_s, VF.sNx, VF.sBk, VF.sCt, VF.sTry_k, VF.tryK_nx, VF.drp_fz, VF.drp_no, VF.drp_ow, VF.excD_s, VF.excD_n, VF.lv0_exc, VF.isXD_none, List.map_cons, List.map_nil, VF.retR_rt, VF.retR_nx, VF.retR_rz, VF.retOf_0, VF.retOf_1, VF.retK_k, VF.arg0, VF.evS_0, VF.evS_1, VF.evSJ_k, VF.esK0_n, VF.esK0_s, VF.esK0_rz, VF.esK1_n, VF.esK1_s, VF.evT_0, VF.evT_1, VF.evTJ_k, VF.tsK0_k, VF.tsK0_rz, VF.tsK1_k, VF.evG_0, VF.evG_1, VF.evGJ_k, VF.gsK0_t, VF.gsK0_f, VF.gsK1_t, VF.frzF_cons, VF.frzF_nil, VF.envF_cons, VF.envF_nil, VF.fr1_false, VF.fr1_fz, VF.fr1_no, VF.fr1_ow, VF.en1_fz, VF.en1_no, VF.en1_ow, VF.en1_own, VF.erB_ok, VF.erB_rz, VF.arB_ok, VF.arB_rz, VF.irB_ok, VF.irB_rz, VF.trB_ok, VF.trB_rz, VF.obB_ok, VF.gaB_ok, VF.gaB_rz, VF.c1_k, VF.c2_k, VF.c2'_k, VF.c3_k, VF.c4_k, VF.c4'_k, VF.c5_k, VF.c6_k, VF.c7_k, VF.c8_k, VF.c9_k, VF.c10_k, VF.c11_k, VF.c11'_k, VF.c12_k, VF.c13_k, VF.c13'_k, VF.c13''_k, VF.c14_k, VF.c15_k, VF.c16_k, VF.c17_k, VF.c18_k, VF.c19_k, VF.c20_k, VF.c21_k, VF.c22_k, VF.c23_k, VF.c24_k, VF.c25_k, VF.k1_k, VF.k1'_k, VF.k2_k, VF.k3_k, VF.k4_k, VF.eVar_k, VF.varK_k, VF.eC_k, VF.eOp1_k, VF.eOp2_k, VF.erO_k, VF.eCall_k, VF.aNil_k, VF.aCons_k, VF.eLst_k, VF.eTup_k, VF.eIf_k, VF.eAnd_k, VF.eOr_k, VF.eNot_k, VF.andK_k, VF.orK_k, VF.notK_k, VF.eCh_k, VF.chK_k, VF.eBd_none, VF.eBd_some, VF.bdK_k, VF.eSl_k, VF.uNil_k, VF.uCons_k, VF.uIo_k, VF.uPerm_k, VF.permL, VF.eUser_k, VF.usrK_none, VF.usrK_some, VF.usrJ_k, eq_self, VF.sTest_k, VF.tBool_k, VF.sTru_k, VF.tTru_bool, VF.tTru_int, VF.tTru_list, VF.tTru_none, VF.sNot_k, VF.sAnd_k, VF.sOr_k, VF.sYes_k, VF.gIter_k, VF.gSeq_list, VF.gSeq_tuple, VF.gArgs_k, VF.gaK_k, VF.eLc_k, VF.lcK_k, VF.iiD_k, VF.icD_if, VF.ibD_k, VF.intD_int, VF.intD_bool, VF.addD_int, VF.negD_k, VF.cMod_k, VF.cDiv_k, VF.ixD_list, VF.ixD_tuple, VF.itD_k, VF.ixN_pos, VF.atI_pos, VF.lv0_int, VF.lv0_bool, VF.lv0_str, VF.lv0_none, VF.lv0_list, VF.lv0_tuple, VF.scal_int, VF.scal_bool, VF.scal_str, VF.scal_none, VF.scal_list, VF.scal_tuple, VF.neD_int, VF.eqD_int, VF.rng1_if, VF.rng2_if, VF.enumG_k, VF.zipG_k, Int.toNat_natCast, VF.notND_none, VF.notND_int, VF.notND_bool, VF.notND_str, VF.notND_list, VF.notND_tuple, VF.isND_none, VF.isND_int, VF.isND_list, VF.isND_tuple, VF.isND_exc, VF.eIsa_k, VF.lenD_list, VF.lenD_tuple, beq_self_eq_true, VF.slD_k, VF.cut_tail, VF.lzD_k, VF.wipeE, VF.lmin_nn, VF.up_n, VF.up_s, VF.lmin_ns, VF.lmin_sn, VF.lmin_ss, VF.owned_n, VF.owned_s, List.contains_cons, List.contains_nil, List.getElem?_cons_zero, List.getElem?_cons_succ, List.getElem?_nil, List.set_cons_zero, List.set_cons_succ, List.length_cons, List.length_nil, List.append_nil, List.cons_append, List.nil_append, List.replicate_succ, List.replicate_zero, Option.some.injEq, Bool.and_true, Bool.true_and, Bool.and_false, Bool.false_and, Bool.or_false, Bool.false_or, Bool.or_true, Bool.true_or, Bool.not_true, Bool.not_false, Nat.reduceBEq, Nat.reduceAdd, Nat.reduceSub, Nat.reduceLeDiff, Nat.reduceEqDiff, Nat.reduceLT, Int.reduceToNat, decide_true, decide_false, ↓reduceIte, reduceCtorEq, Bool.false_eq_true, Nat.zero_add, F__law_told, h, hs, lv0_scal hs, tryK_rz (i := 3) (j := 2) (c := "InvalidWeb") (L := ["InvalidWalk", "InvalidWeb"]) (by decide +kernel) (by decide), isXD_exc (c := "InvalidWeb") (tb := [("InvalidWalk", true), ("InvalidWeb", true)]) (b := true) (by decide +kernel),
    isXD_exc (c := "InvalidWeb") (tb := [("InvalidWalk", true), ("InvalidWeb", false)]) (b := false) (by decide +kernel), xaD_k (f := "place") (n := "place") (c := "InvalidWeb") (L := ["InvalidWeb"]) (by decide +kernel), reprD_k ok, tellD]
end K04
end
section
set_option Elab.async false
set_option linter.all false
set_option maxRecDepth 100000
set_option maxHeartbeats 2000000
namespace K04
open PySem PySem.Spec L2 VF
open PyProof.Rows hiding St
theorem okEq_pl {ps : List Nat} : okEq (.list (plD ps)) = true := (eq_list (k := 0) fun d hd => by
  obtain ⟨p, _, rfl⟩ := List.mem_map.mp hd
  exact eq_int).ok (by decide)
theorem neD_nil {ps : List Nat} : neD (.list (plD ps)) (.list []) = some (none, .bool (!ps.isEmpty)) := by
  show neD _ (.list (plD [])) = _
  rw [neD_k okEq_pl (okEq_pl (ps := []))]
  cases ps <;> rfl
theorem ixD_pl {ps : List Nat} {j y : Nat} (h : ps[j]? = some y) : ixD (.list (plD ps)) (.int (j : Nat)) = some (none, .int (y : Nat)) := by
  show itD (atI _ _) = _
  rw [atI_nat (v := .int (y : Nat)) (by unfold plD; rw [List.getElem?_map, h]; rfl)]
  rfl
theorem ixD_last {qs : List Nat} {x : Nat} : ixD (.list (plD qs ++ [.int (x : Nat)])) (.int (-1)) = some (none, .int (x : Nat)) := by
  show itD (atI _ _) = _
  rw [atI_last]; rfl
theorem plD_snoc {qs : List Nat} {x : Nat} : plD qs ++ [.int (x : Nat)] = plD (qs ++ [x]) := by simp [plD]
theorem IsWalk.snoc {n : Nat} {c : Nat → Nat → Option Int} {qs : List Nat} {x y : Nat} (h : IsWalk n c (qs ++ [x])) (hy : y < n) (hn : x ≠ y) (he : (c x y).isSome = true) : IsWalk n c (qs ++ [x] ++ [y]) := by
  refine ⟨fun p hp => ?_, fun i a b h1 h2 => ?_⟩
  · rcases List.mem_append.mp hp with hp | hp
    · exact h.lt p hp
    · rw [List.mem_singleton.mp hp]; exact hy
  · have l : (qs ++ [x]).length = qs.length + 1 := by simp
    rcases Nat.lt_trichotomy (i + 1) (qs ++ [x]).length with q | q | q
    · rw [List.getElem?_append_left (by omega)] at h1
      rw [List.getElem?_append_left q] at h2
      exact h.edge i a b h1 h2
    · rw [List.getElem?_append_left (by omega)] at h1
      rw [List.getElem?_append_right (by omega), show i + 1 - (qs ++ [x]).length = 0 by omega] at h2
      cases h2
      rw [List.getElem?_append_right (by omega), show i - qs.length = 0 by omega] at h1
      cases h1
      exact ⟨hn, he⟩
    · rw [List.getElem?_eq_none (by simp; omega)] at h2; cases h2
theorem IsWalk.one {n : Nat} {c : Nat → Nat → Option Int} {x : Nat} (h : x < n) : IsWalk n c [x] := ⟨fun p hp => by rw [List.mem_singleton.mp hp]; exact h, fun i a b h1 h2 => by
  rw [List.getElem?_eq_none (by simp)] at h2; cases h2⟩
def nextsOf (n : Nat) (c : Nat → Nat → Option Int) (x : Nat) : List Nat := (List.range n).filter fun y => !(y == x) && (c x y).isSome
theorem rng_pl {n : Nat} : rngD 0 n = (List.range n).map fun y => PyData.int (y : Nat) := by
  unfold rngD
  exact List.map_congr_left fun y _ => by simp
/-- the comprehension of next places -/
theorem nexts_run {n x : Nat} {c : Nat → Nat → Option Int} {qs : List Nat} (hx : x < n) {e0 e3 e4 : Option D} :
    cRun none (bN 5) (sAnd (sTest (eOp2 neD (eVar 5) (eOp2 ixD (eVar 2) (eOp1 negD (eC (.int 1)))))) (sTest (eOp2 notND (eOp2 ixD (eOp2 ixD (eVar 1) (eOp2 ixD (eVar 2) (eOp1 negD (eC (.int 1))))) (eVar 5)) (eC .none)))) (eVar 5)
      [e0, some (webD n c), some (.list (plD qs ++ [.int (x : Nat)])), e3, e4, none] (rngD 0 n) none = .ok (plD (nextsOf n c x)) none := by
  rw [rng_pl]
  refine cRun_pick (fun y : Nat => PyData.int (y : Nat)) (fun y : Nat => PyData.int (y : Nat)) (fun y => !(y == x) && (c x y).isSome) fun y hy => ?_
  have hy := List.mem_range.mp hy
  have q : ((y : Int) == (x : Int)) = (y == x) := by rw [Bool.eq_iff_iff]; simp only [beq_iff_eq]; omega
  refine ⟨[e0, some (webD n c), some (.list (plD qs ++ [.int (x : Nat)])), e3, e4, some (.int (y : Nat))], rfl, ?_, fun _ => ⟨none, ?_, rfl⟩⟩
  · have m : atI (plD qs ++ [PyData.int (x : Nat)]) (-1) = some (.int (x : Nat)) := L2.atI_last _ _
    cases h : (y == x) with
    | true => simp (disch := (first | assumption | (simp only [VF.owned_n, VF.owned_s, VF.scal_int, VF.scal_bool, VF.scal_str, VF.scal_none, VF.scal_list, VF.scal_tuple, VF.SZ, List.length_cons, List.length_nil, List.length_set, List.length_append, List.length_map, List.length_range, Int.reduceToNat, Int.reduceLE, Int.reduceLT, Nat.reduceAdd, Nat.reduceLT, Nat.reduceLeDiff, Nat.reduceEqDiff, Nat.zero_add, Nat.zero_lt_succ, Int.toNat_natCast, ne_eq, reduceCtorEq, not_false_eq_true]; done) | (simp only [VF.owned_n, VF.owned_s, VF.scal_int, VF.scal_bool, VF.scal_str, VF.scal_none, VF.scal_list, VF.scal_tuple, VF.SZ, List.length_cons, List.length_nil, List.length_set, List.length_append, List.length_map, List.length_range, Int.reduceToNat, Int.reduceLE, Int.reduceLT, Nat.reduceAdd, Nat.reduceLT, Nat.reduceLeDiff, Nat.reduceEqDiff, Nat.zero_add, Nat.zero_lt_succ, Int.toNat_natCast, ne_eq, reduceCtorEq, not_false_eq_true]; first | assumption | omega) | decide | omega)) only [VF.sSq_k, VF.srB_nx, VF.srB_rt, VF.srB_rz, VF.srB_bk, VF.srB_ct, VF.sIf_k, VF.tsB_ok, VF.tsB_rz, VF.sFor_k, VF.gsB_ok, VF.gsB_rz, VF.sDrop_k, VF.sRet_k, VF.sAsg_k, VF.sAsgT_k, VF.sRz_k, VF.esB_ok, VF.esB_rz, VF.put_int, VF.put_bool, VF.put_str, VF.put_none, VF.put_0, VF.put_listn, VF.put_list1, VF.put_tupn, VF.put_tup1, VF.sRetV_k, VF.retVK_ow, VF.retVK_fz, VF.sApp_k, VF.sAppK_k, VF.appD_k, VF.appK_n, VF.appK_s, VF.sAppV_k, VF.sAppVK_ow, VF.sAppVK_fz, VF.sSet_k, VF.sSetK_k, VF.setK_k, VF.setD_k, VF.setDK_n, VF.setDK_s, VF.sNx, VF.sBk, VF.sCt, VF.sTry_k, VF.tryK_nx, VF.drp_fz, VF.drp_no, VF.drp_ow, VF.excD_s, VF.excD_n, VF.lv0_exc, VF.isXD_none, List.map_cons, List.map_nil, VF.retR_rt, VF.retR_nx, VF.retR_rz, VF.retOf_0, VF.retOf_1, VF.retK_k, VF.arg0, VF.evS_0, VF.evS_1, VF.evSJ_k, VF.esK0_n, VF.esK0_s, VF.esK0_rz, VF.esK1_n, VF.esK1_s, VF.evT_0, VF.evT_1, VF.evTJ_k, VF.tsK0_k, VF.tsK0_rz, VF.tsK1_k, VF.evG_0, VF.evG_1, VF.evGJ_k, VF.gsK0_t, VF.gsK0_f, VF.gsK1_t, VF.frzF_cons, VF.frzF_nil, VF.envF_cons, VF.envF_nil, VF.fr1_false, VF.fr1_fz, VF.fr1_no, VF.fr1_ow, VF.en1_fz, VF.en1_no, VF.en1_ow, VF.en1_own, VF.erB_ok, VF.erB_rz, VF.arB_ok, VF.arB_rz, VF.irB_ok, VF.irB_rz, VF.trB_ok, VF.trB_rz, VF.obB_ok, VF.gaB_ok, VF.gaB_rz, VF.c1_k, VF.c2_k, VF.c2'_k, VF.c3_k, VF.c4_k, VF.c4'_k, VF.c5_k, VF.c6_k, VF.c7_k, VF.c8_k, VF.c9_k, VF.c10_k, VF.c11_k, VF.c11'_k, VF.c12_k, VF.c13_k, VF.c13'_k, VF.c13''_k, VF.c14_k, VF.c15_k, VF.c16_k, VF.c17_k, VF.c18_k, VF.c19_k, VF.c20_k, VF.c21_k, VF.c22_k, VF.c23_k, VF.c24_k, VF.c25_k, VF.k1_k, VF.k1'_k, VF.k2_k, VF.k3_k, VF.k4_k, VF.eVar_k, VF.varK_k, VF.eC_k, VF.eOp1_k, VF.eOp2_k, VF.erO_k, VF.eCall_k, VF.aNil_k, VF.aCons_k, VF.eLst_k, VF.eTup_k, VF.eIf_k, VF.eAnd_k, VF.eOr_k, VF.eNot_k, VF.andK_k, VF.orK_k, VF.notK_k, VF.eCh_k, VF.chK_k, VF.eBd_none, VF.eBd_some, VF.bdK_k, VF.eSl_k, VF.uNil_k, VF.uCons_k, VF.uIo_k, VF.uPerm_k, VF.permL, VF.eUser_k, VF.usrK_none, VF.usrK_some, VF.usrJ_k, eq_self, VF.sTest_k, VF.tBool_k, VF.sTru_k, VF.tTru_bool, VF.tTru_int, VF.tTru_list, VF.tTru_none, VF.sNot_k, VF.sAnd_k, VF.sOr_k, VF.sYes_k, VF.gIter_k, VF.gSeq_list, VF.gSeq_tuple, VF.gArgs_k, VF.gaK_k, VF.eLc_k, VF.lcK_k, VF.iiD_k, VF.icD_if, VF.ibD_k, VF.intD_int, VF.intD_bool, VF.addD_int, VF.negD_k, VF.cMod_k, VF.cDiv_k, VF.ixD_list, VF.ixD_tuple, VF.itD_k, VF.ixN_pos, VF.atI_pos, VF.lv0_int, VF.lv0_bool, VF.lv0_str, VF.lv0_none, VF.lv0_list, VF.lv0_tuple, VF.scal_int, VF.scal_bool, VF.scal_str, VF.scal_none, VF.scal_list, VF.scal_tuple, VF.neD_int, VF.eqD_int, VF.rng1_if, VF.rng2_if, VF.enumG_k, VF.zipG_k, Int.toNat_natCast, VF.notND_none, VF.notND_int, VF.notND_bool, VF.notND_str, VF.notND_list, VF.notND_tuple, VF.isND_none, VF.isND_int, VF.isND_list, VF.isND_tuple, VF.isND_exc, VF.eIsa_k, VF.lenD_list, VF.lenD_tuple, beq_self_eq_true, VF.slD_k, VF.cut_tail, VF.lzD_k, VF.wipeE, VF.lmin_nn, VF.up_n, VF.up_s, VF.lmin_ns, VF.lmin_sn, VF.lmin_ss, VF.owned_n, VF.owned_s, List.contains_cons, List.contains_nil, List.getElem?_cons_zero, List.getElem?_cons_succ, List.getElem?_nil, List.set_cons_zero, List.set_cons_succ, List.length_cons, List.length_nil, List.append_nil, List.cons_append, List.nil_append, List.replicate_succ, List.replicate_zero, Option.some.injEq, Bool.and_true, Bool.true_and, Bool.and_false, Bool.false_and, Bool.or_false, Bool.false_or, Bool.or_true, Bool.true_or, Bool.not_true, Bool.not_false, Nat.reduceBEq, Nat.reduceAdd, Nat.reduceSub, Nat.reduceLeDiff, Nat.reduceEqDiff, Nat.reduceLT, Int.reduceToNat, decide_true, decide_false, ↓reduceIte, reduceCtorEq, Bool.false_eq_true, Nat.zero_add, m, q, h]
    | false =>
      cases hc : c x y with
      | none => simp (disch := (first | assumption | (simp only [VF.owned_n, VF.owned_s, VF.scal_int, VF.scal_bool, VF.scal_str, VF.scal_none, VF.scal_list, VF.scal_tuple, VF.SZ, List.length_cons, List.length_nil, List.length_set, List.length_append, List.length_map, List.length_range, Int.reduceToNat, Int.reduceLE, Int.reduceLT, Nat.reduceAdd, Nat.reduceLT, Nat.reduceLeDiff, Nat.reduceEqDiff, Nat.zero_add, Nat.zero_lt_succ, Int.toNat_natCast, ne_eq, reduceCtorEq, not_false_eq_true]; done) | (simp only [VF.owned_n, VF.owned_s, VF.scal_int, VF.scal_bool, VF.scal_str, VF.scal_none, VF.scal_list, VF.scal_tuple, VF.SZ, List.length_cons, List.length_nil, List.length_set, List.length_append, List.length_map, List.length_range, Int.reduceToNat, Int.reduceLE, Int.reduceLT, Nat.reduceAdd, Nat.reduceLT, Nat.reduceLeDiff, Nat.reduceEqDiff, Nat.zero_add, Nat.zero_lt_succ, Int.toNat_natCast, ne_eq, reduceCtorEq, not_false_eq_true]; first | assumption | omega) | decide | omega)) only [VF.sSq_k, VF.srB_nx, VF.srB_rt, VF.srB_rz, VF.srB_bk, VF.srB_ct, VF.sIf_k, VF.tsB_ok, VF.tsB_rz, VF.sFor_k, VF.gsB_ok, VF.gsB_rz, VF.sDrop_k, VF.sRet_k, VF.sAsg_k, VF.sAsgT_k, VF.sRz_k, VF.esB_ok, VF.esB_rz, VF.put_int, VF.put_bool, VF.put_str, VF.put_none, VF.put_0, VF.put_listn, VF.put_list1, VF.put_tupn, VF.put_tup1, VF.sRetV_k, VF.retVK_ow, VF.retVK_fz, VF.sApp_k, VF.sAppK_k, VF.appD_k, VF.appK_n, VF.appK_s, VF.sAppV_k, VF.sAppVK_ow, VF.sAppVK_fz, VF.sSet_k, VF.sSetK_k, VF.setK_k, VF.setD_k, VF.setDK_n, VF.setDK_s, VF.sNx, VF.sBk, VF.sCt, VF.sTry_k, VF.tryK_nx, VF.drp_fz, VF.drp_no, VF.drp_ow, VF.excD_s, VF.excD_n, VF.lv0_exc, VF.isXD_none, List.map_cons, List.map_nil, VF.retR_rt, VF.retR_nx, VF.retR_rz, VF.retOf_0, VF.retOf_1, VF.retK_k, VF.arg0, VF.evS_0, VF.evS_1, VF.evSJ_k, VF.esK0_n, VF.esK0_s, VF.esK0_rz, VF.esK1_n, VF.esK1_s, VF.evT_0, VF.evT_1, VF.evTJ_k, VF.tsK0_k, VF.tsK0_rz, VF.tsK1_k, VF.evG_0, VF.evG_1, VF.evGJ_k, VF.gsK0_t, VF.gsK0_f, VF.gsK1_t, VF.frzF_cons, VF.frzF_nil, VF.envF_cons, VF.envF_nil, VF.fr1_false, VF.fr1_fz, VF.fr1_no, VF.fr1_ow, VF.en1_fz, VF.en1_no, VF.en1_ow, VF.en1_own, VF.erB_ok, VF.erB_rz, VF.arB_ok, VF.arB_rz, VF.irB_ok, VF.irB_rz, VF.trB_ok, VF.trB_rz, VF.obB_ok, VF.gaB_ok, VF.gaB_rz, VF.c1_k, VF.c2_k, VF.c2'_k, VF.c3_k, VF.c4_k, VF.c4'_k, VF.c5_k, VF.c6_k, VF.c7_k, VF.c8_k, VF.c9_k, VF.c10_k, VF.c11_k, VF.c11'_k, VF.c12_k, VF.c13_k, VF.c13'_k, VF.c13''_k, VF.c14_k, VF.c15_k, VF.c16_k, VF.c17_k, VF.c18_k, VF.c19_k, VF.c20_k, VF.c21_k, VF.c22_k, VF.c23_k, VF.c24_k, VF.c25_k, VF.k1_k, VF.k1'_k, VF.k2_k, VF.k3_k, VF.k4_k, VF.eVar_k, VF.varK_k, VF.eC_k, VF.eOp1_k, VF.eOp2_k, VF.erO_k, VF.eCall_k, VF.aNil_k, VF.aCons_k, VF.eLst_k, VF.eTup_k, VF.eIf_k, VF.eAnd_k, VF.eOr_k, VF.eNot_k, VF.andK_k, VF.orK_k, VF.notK_k, VF.eCh_k, VF.chK_k, VF.eBd_none, VF.eBd_some, VF.bdK_k, VF.eSl_k, VF.uNil_k, VF.uCons_k, VF.uIo_k, VF.uPerm_k, VF.permL, VF.eUser_k, VF.usrK_none, VF.usrK_some, VF.usrJ_k, eq_self, VF.sTest_k, VF.tBool_k, VF.sTru_k, VF.tTru_bool, VF.tTru_int, VF.tTru_list, VF.tTru_none, VF.sNot_k, VF.sAnd_k, VF.sOr_k, VF.sYes_k, VF.gIter_k, VF.gSeq_list, VF.gSeq_tuple, VF.gArgs_k, VF.gaK_k, VF.eLc_k, VF.lcK_k, VF.iiD_k, VF.icD_if, VF.ibD_k, VF.intD_int, VF.intD_bool, VF.addD_int, VF.negD_k, VF.cMod_k, VF.cDiv_k, VF.ixD_list, VF.ixD_tuple, VF.itD_k, VF.ixN_pos, VF.atI_pos, VF.lv0_int, VF.lv0_bool, VF.lv0_str, VF.lv0_none, VF.lv0_list, VF.lv0_tuple, VF.scal_int, VF.scal_bool, VF.scal_str, VF.scal_none, VF.scal_list, VF.scal_tuple, VF.neD_int, VF.eqD_int, VF.rng1_if, VF.rng2_if, VF.enumG_k, VF.zipG_k, Int.toNat_natCast, VF.notND_none, VF.notND_int, VF.notND_bool, VF.notND_str, VF.notND_list, VF.notND_tuple, VF.isND_none, VF.isND_int, VF.isND_list, VF.isND_tuple, VF.isND_exc, VF.eIsa_k, VF.lenD_list, VF.lenD_tuple, beq_self_eq_true, VF.slD_k, VF.cut_tail, VF.lzD_k, VF.wipeE, VF.lmin_nn, VF.up_n, VF.up_s, VF.lmin_ns, VF.lmin_sn, VF.lmin_ss, VF.owned_n, VF.owned_s, List.contains_cons, List.contains_nil, List.getElem?_cons_zero, List.getElem?_cons_succ, List.getElem?_nil, List.set_cons_zero, List.set_cons_succ, List.length_cons, List.length_nil, List.append_nil, List.cons_append, List.nil_append, List.replicate_succ, List.replicate_zero, Option.some.injEq, Bool.and_true, Bool.true_and, Bool.and_false, Bool.false_and, Bool.or_false, Bool.false_or, Bool.or_true, Bool.true_or, Bool.not_true, Bool.not_false, Nat.reduceBEq, Nat.reduceAdd, Nat.reduceSub, Nat.reduceLeDiff, Nat.reduceEqDiff, Nat.reduceLT, Int.reduceToNat, decide_true, decide_false, ↓reduceIte, reduceCtorEq, Bool.false_eq_true, Nat.zero_add, m, q, h, lv0_web, ixD_web, ixD_row, hc, cellD_n, Option.isSome_none]
      | some i => simp (disch := (first | assumption | (simp only [VF.owned_n, VF.owned_s, VF.scal_int, VF.scal_bool, VF.scal_str, VF.scal_none, VF.scal_list, VF.scal_tuple, VF.SZ, List.length_cons, List.length_nil, List.length_set, List.length_append, List.length_map, List.length_range, Int.reduceToNat, Int.reduceLE, Int.reduceLT, Nat.reduceAdd, Nat.reduceLT, Nat.reduceLeDiff, Nat.reduceEqDiff, Nat.zero_add, Nat.zero_lt_succ, Int.toNat_natCast, ne_eq, reduceCtorEq, not_false_eq_true]; done) | (simp only [VF.owned_n, VF.owned_s, VF.scal_int, VF.scal_bool, VF.scal_str, VF.scal_none, VF.scal_list, VF.scal_tuple, VF.SZ, List.length_cons, List.length_nil, List.length_set, List.length_append, List.length_map, List.length_range, Int.reduceToNat, Int.reduceLE, Int.reduceLT, Nat.reduceAdd, Nat.reduceLT, Nat.reduceLeDiff, Nat.reduceEqDiff, Nat.zero_add, Nat.zero_lt_succ, Int.toNat_natCast, ne_eq, reduceCtorEq, not_false_eq_true]; first | assumption | omega) | decide | omega)) only [VF.sSq_k, VF.srB_nx, VF.srB_rt, VF.srB_rz, VF.srB_bk, VF.srB_ct, VF.sIf_k, VF.tsB_ok, VF.tsB_rz, VF.sFor_k, VF.gsB_ok, VF.gsB_rz, VF.sDrop_k, VF.sRet_k, VF.sAsg_k, VF.sAsgT_k, VF.sRz_k, VF.esB_ok, VF.esB_rz, VF.put_int, VF.put_bool, VF.put_str, VF.put_none, VF.put_0, VF.put_listn, VF.put_list1, VF.put_tupn, VF.put_tup1, VF.sRetV_k, VF.retVK_ow, VF.retVK_fz, VF.sApp_k, VF.sAppK_k, VF.appD_k, VF.appK_n, VF.appK_s, VF.sAppV_k, VF.sAppVK_ow, VF.sAppVK_fz, VF.sSet_k, VF.sSetK_k, VF.setK_k, VF.setD_k, VF.setDK_n, VF.setDK_s, VF.sNx, VF.sBk, VF.sCt, VF.sTry_k, VF.tryK_nx, VF.drp_fz, VF.drp_no, VF.drp_ow, VF.excD_s, VF.excD_n, VF.lv0_exc, VF.isXD_none, List.map_cons, List.map_nil, VF.retR_rt, VF.retR_nx, VF.retR_rz, VF.retOf_0, VF.retOf_1, VF.retK_k, VF.arg0, VF.evS_0, VF.evS_1, VF.evSJ_k, VF.esK0_n, VF.esK0_s, VF.esK0_rz, VF.esK1_n, VF.esK1_s, VF.evT_0, VF.evT_1, VF.evTJ_k, VF.tsK0_k, VF.tsK0_rz, VF.tsK1_k, VF.evG_0, VF.evG_1, VF.evGJ_k, VF.gsK0_t, VF.gsK0_f, VF.gsK1_t, VF.frzF_cons, VF.frzF_nil, VF.envF_cons, VF.envF_nil, VF.fr1_false, VF.fr1_fz, VF.fr1_no, VF.fr1_ow, VF.en1_fz, VF.en1_no, VF.en1_ow, VF.en1_own, VF.erB_ok, VF.erB_rz, VF.arB_ok, VF.arB_rz, VF.irB_ok, VF.irB_rz, VF.trB_ok, VF.trB_rz, VF.obB_ok, VF.gaB_ok, VF.gaB_rz, VF.c1_k, VF.c2_k, VF.c2'_k, VF.c3_k, VF.c4_k, VF.c4'_k, VF.c5_k, VF.c6_k, VF.c7_k, VF.c8_k, VF.c9_k, VF.c10_k, VF.c11_k, VF.c11'_k, VF.c12_k, VF.c13_k, VF.c13'_k, VF.c13''_k, VF.c14_k, VF.c15_k, VF.c16_k, VF.c17_k, VF.c18_k, VF.c19_k, VF.c20_k, VF.c21_k, VF.c22_k, VF.c23_k, VF.c24_k, VF.c25_k, VF.k1_k, VF.k1'_k, VF.k2_k, VF.k3_k, VF.k4_k, VF.eVar_k, VF.varK_k, VF.eC_k, VF.eOp1_k, VF.eOp2_k, VF.erO_k, VF.eCall_k, VF.aNil_k, VF.aCons_k, VF.eLst_k, VF.eTup_k, VF.eIf_k, VF.eAnd_k, VF.eOr_k, VF.eNot_k, VF.andK_k, VF.orK_k, VF.notK_k, VF.eCh_k, VF.chK_k, VF.eBd_none, VF.eBd_some, VF.bdK_k, VF.eSl_k, VF.uNil_k, VF.uCons_k, VF.uIo_k, VF.uPerm_k, VF.permL, VF.eUser_k, VF.usrK_none, VF.usrK_some, VF.usrJ_k, eq_self, VF.sTest_k, VF.tBool_k, VF.sTru_k, VF.tTru_bool, VF.tTru_int, VF.tTru_list, VF.tTru_none, VF.sNot_k, VF.sAnd_k, VF.sOr_k, VF.sYes_k, VF.gIter_k, VF.gSeq_list, VF.gSeq_tuple, VF.gArgs_k, VF.gaK_k, VF.eLc_k, VF.lcK_k, VF.iiD_k, VF.icD_if, VF.ibD_k, VF.intD_int, VF.intD_bool, VF.addD_int, VF.negD_k, VF.cMod_k, VF.cDiv_k, VF.ixD_list, VF.ixD_tuple, VF.itD_k, VF.ixN_pos, VF.atI_pos, VF.lv0_int, VF.lv0_bool, VF.lv0_str, VF.lv0_none, VF.lv0_list, VF.lv0_tuple, VF.scal_int, VF.scal_bool, VF.scal_str, VF.scal_none, VF.scal_list, VF.scal_tuple, VF.neD_int, VF.eqD_int, VF.rng1_if, VF.rng2_if, VF.enumG_k, VF.zipG_k, Int.toNat_natCast, VF.notND_none, VF.notND_int, VF.notND_bool, VF.notND_str, VF.notND_list, VF.notND_tuple, VF.isND_none, VF.isND_int, VF.isND_list, VF.isND_tuple, VF.isND_exc, VF.eIsa_k, VF.lenD_list, VF.lenD_tuple, beq_self_eq_true, VF.slD_k, VF.cut_tail, VF.lzD_k, VF.wipeE, VF.lmin_nn, VF.up_n, VF.up_s, VF.lmin_ns, VF.lmin_sn, VF.lmin_ss, VF.owned_n, VF.owned_s, List.contains_cons, List.contains_nil, List.getElem?_cons_zero, List.getElem?_cons_succ, List.getElem?_nil, List.set_cons_zero, List.set_cons_succ, List.length_cons, List.length_nil, List.append_nil, List.cons_append, List.nil_append, List.replicate_succ, List.replicate_zero, Option.some.injEq, Bool.and_true, Bool.true_and, Bool.and_false, Bool.false_and, Bool.or_false, Bool.false_or, Bool.or_true, Bool.true_or, Bool.not_true, Bool.not_false, Nat.reduceBEq, Nat.reduceAdd, Nat.reduceSub, Nat.reduceLeDiff, Nat.reduceEqDiff, Nat.reduceLT, Int.reduceToNat, decide_true, decide_false, ↓reduceIte, reduceCtorEq, Bool.false_eq_true, Nat.zero_add, m, q, h, lv0_web, ixD_web, ixD_row, hc, cellD_s, Option.isSome_some]
  · simp (disch := (first | assumption | (simp only [VF.owned_n, VF.owned_s, VF.scal_int, VF.scal_bool, VF.scal_str, VF.scal_none, VF.scal_list, VF.scal_tuple, VF.SZ, List.length_cons, List.length_nil, List.length_set, List.length_append, List.length_map, List.length_range, Int.reduceToNat, Int.reduceLE, Int.reduceLT, Nat.reduceAdd, Nat.reduceLT, Nat.reduceLeDiff, Nat.reduceEqDiff, Nat.zero_add, Nat.zero_lt_succ, Int.toNat_natCast, ne_eq, reduceCtorEq, not_false_eq_true]; done) | (simp only [VF.owned_n, VF.owned_s, VF.scal_int, VF.scal_bool, VF.scal_str, VF.scal_none, VF.scal_list, VF.scal_tuple, VF.SZ, List.length_cons, List.length_nil, List.length_set, List.length_append, List.length_map, List.length_range, Int.reduceToNat, Int.reduceLE, Int.reduceLT, Nat.reduceAdd, Nat.reduceLT, Nat.reduceLeDiff, Nat.reduceEqDiff, Nat.zero_add, Nat.zero_lt_succ, Int.toNat_natCast, ne_eq, reduceCtorEq, not_false_eq_true]; first | assumption | omega) | decide | omega)) only [VF.sSq_k, VF.srB_nx, VF.srB_rt, VF.srB_rz, VF.srB_bk, VF.srB_ct, VF.sIf_k, VF.tsB_ok, VF.tsB_rz, VF.sFor_k, VF.gsB_ok, VF.gsB_rz, VF.sDrop_k, VF.sRet_k, VF.sAsg_k, VF.sAsgT_k, VF.sRz_k, VF.esB_ok, VF.esB_rz, VF.put_int, VF.put_bool, VF.put_str, VF.put_none, VF.put_0, VF.put_listn, VF.put_list1, VF.put_tupn, VF.put_tup1, VF.sRetV_k, VF.retVK_ow, VF.retVK_fz, VF.sApp_k, VF.sAppK_k, VF.appD_k, VF.appK_n, VF.appK_s, VF.sAppV_k, VF.sAppVK_ow, VF.sAppVK_fz, VF.sSet_k, VF.sSetK_k, VF.setK_k, VF.setD_k, VF.setDK_n, VF.setDK_s, VF.sNx, VF.sBk, VF.sCt, VF.sTry_k, VF.tryK_nx, VF.drp_fz, VF.drp_no, VF.drp_ow, VF.excD_s, VF.excD_n, VF.lv0_exc, VF.isXD_none, List.map_cons, List.map_nil, VF.retR_rt, VF.retR_nx, VF.retR_rz, VF.retOf_0, VF.retOf_1, VF.retK_k, VF.arg0, VF.evS_0, VF.evS_1, VF.evSJ_k, VF.esK0_n, VF.esK0_s, VF.esK0_rz, VF.esK1_n, VF.esK1_s, VF.evT_0, VF.evT_1, VF.evTJ_k, VF.tsK0_k, VF.tsK0_rz, VF.tsK1_k, VF.evG_0, VF.evG_1, VF.evGJ_k, VF.gsK0_t, VF.gsK0_f, VF.gsK1_t, VF.frzF_cons, VF.frzF_nil, VF.envF_cons, VF.envF_nil, VF.fr1_false, VF.fr1_fz, VF.fr1_no, VF.fr1_ow, VF.en1_fz, VF.en1_no, VF.en1_ow, VF.en1_own, VF.erB_ok, VF.erB_rz, VF.arB_ok, VF.arB_rz, VF.irB_ok, VF.irB_rz, VF.trB_ok, VF.trB_rz, VF.obB_ok, VF.gaB_ok, VF.gaB_rz, VF.c1_k, VF.c2_k, VF.c2'_k, VF.c3_k, VF.c4_k, VF.c4'_k, VF.c5_k, VF.c6_k, VF.c7_k, VF.c8_k, VF.c9_k, VF.c10_k, VF.c11_k, VF.c11'_k, VF.c12_k, VF.c13_k, VF.c13'_k, VF.c13''_k, VF.c14_k, VF.c15_k, VF.c16_k, VF.c17_k, VF.c18_k, VF.c19_k, VF.c20_k, VF.c21_k, VF.c22_k, VF.c23_k, VF.c24_k, VF.c25_k, VF.k1_k, VF.k1'_k, VF.k2_k, VF.k3_k, VF.k4_k, VF.eVar_k, VF.varK_k, VF.eC_k, VF.eOp1_k, VF.eOp2_k, VF.erO_k, VF.eCall_k, VF.aNil_k, VF.aCons_k, VF.eLst_k, VF.eTup_k, VF.eIf_k, VF.eAnd_k, VF.eOr_k, VF.eNot_k, VF.andK_k, VF.orK_k, VF.notK_k, VF.eCh_k, VF.chK_k, VF.eBd_none, VF.eBd_some, VF.bdK_k, VF.eSl_k, VF.uNil_k, VF.uCons_k, VF.uIo_k, VF.uPerm_k, VF.permL, VF.eUser_k, VF.usrK_none, VF.usrK_some, VF.usrJ_k, eq_self, VF.sTest_k, VF.tBool_k, VF.sTru_k, VF.tTru_bool, VF.tTru_int, VF.tTru_list, VF.tTru_none, VF.sNot_k, VF.sAnd_k, VF.sOr_k, VF.sYes_k, VF.gIter_k, VF.gSeq_list, VF.gSeq_tuple, VF.gArgs_k, VF.gaK_k, VF.eLc_k, VF.lcK_k, VF.iiD_k, VF.icD_if, VF.ibD_k, VF.intD_int, VF.intD_bool, VF.addD_int, VF.negD_k, VF.cMod_k, VF.cDiv_k, VF.ixD_list, VF.ixD_tuple, VF.itD_k, VF.ixN_pos, VF.atI_pos, VF.lv0_int, VF.lv0_bool, VF.lv0_str, VF.lv0_none, VF.lv0_list, VF.lv0_tuple, VF.scal_int, VF.scal_bool, VF.scal_str, VF.scal_none, VF.scal_list, VF.scal_tuple, VF.neD_int, VF.eqD_int, VF.rng1_if, VF.rng2_if, VF.enumG_k, VF.zipG_k, Int.toNat_natCast, VF.notND_none, VF.notND_int, VF.notND_bool, VF.notND_str, VF.notND_list, VF.notND_tuple, VF.isND_none, VF.isND_int, VF.isND_list, VF.isND_tuple, VF.isND_exc, VF.eIsa_k, VF.lenD_list, VF.lenD_tuple, beq_self_eq_true, VF.slD_k, VF.cut_tail, VF.lzD_k, VF.wipeE, VF.lmin_nn, VF.up_n, VF.up_s, VF.lmin_ns, VF.lmin_sn, VF.lmin_ss, VF.owned_n, VF.owned_s, List.contains_cons, List.contains_nil, List.getElem?_cons_zero, List.getElem?_cons_succ, List.getElem?_nil, List.set_cons_zero, List.set_cons_succ, List.length_cons, List.length_nil, List.append_nil, List.cons_append, List.nil_append, List.replicate_succ, List.replicate_zero, Option.some.injEq, Bool.and_true, Bool.true_and, Bool.and_false, Bool.false_and, Bool.or_false, Bool.false_or, Bool.or_true, Bool.true_or, Bool.not_true, Bool.not_false, Nat.reduceBEq, Nat.reduceAdd, Nat.reduceSub, Nat.reduceLeDiff, Nat.reduceEqDiff, Nat.reduceLT, Int.reduceToNat, decide_true, decide_false, ↓reduceIte, reduceCtorEq, Bool.false_eq_true, Nat.zero_add]
theorem nexts_mem {n x y : Nat} {c : Nat → Nat → Option Int} (h : y ∈ nextsOf n c x) : y < n ∧ x ≠ y ∧ (c x y).isSome = true := by
  obtain ⟨h1, h2⟩ := List.mem_filter.mp h
  rw [Bool.and_eq_true] at h2
  refine ⟨List.mem_range.mp h1, fun z => ?_, h2.2⟩
  have := h2.1
  simp [z] at this
theorem atI_mod {ys : List Nat} {v : Int} (hne : ys ≠ []) : ∃ y, y ∈ ys ∧ atI (plD ys) (v % ((plD ys).length : Nat)) = some (.int (y : Nat)) ∧ cMod v ((plD ys).length : Nat) = true ∧ (plD ys)[(v % ((plD ys).length : Nat)).toNat]? = some (.int (y : Nat)) := by
  rw [pl_len]
  have hp : 0 < ys.length := List.length_pos_iff.mpr hne
  have h1 : 0 ≤ v % (ys.length : Nat) := Int.emod_nonneg _ (by omega)
  have h2 : v % (ys.length : Nat) < (ys.length : Nat) := Int.emod_lt_of_pos _ (by omega)
  obtain ⟨j, hj⟩ := Int.eq_ofNat_of_zero_le h1
  have hl : j < ys.length := by omega
  refine ⟨ys[j], List.getElem_mem hl, ?_⟩
  have g : (plD ys)[j]? = some (.int (ys[j] : Nat)) := by unfold plD; rw [List.getElem?_map, List.getElem?_eq_getElem hl]; rfl
  rw [hj]
  exact ⟨atI_nat g, cMod_k (by omega), by rw [Int.toNat_natCast]; exact g⟩
theorem v_path (A k : Int) (b : Bool) {n : Nat} {c : Nat → Nat → Option Int} (h0 : 0 < n) (hn : n ≤ 8) (hk : 0 ≤ k ∧ k ≤ 800000) :
    ∃ qs x A' k', IsWalk n c (qs ++ [x]) ∧ qs.length ≤ 110 ∧ k ≤ k' ∧ k' ≤ k + 113 ∧
      fnM (some 0) 6 F__law_path [none, some (webD n c)] (some (none, drD A k b)) = .ok none (.list (plD (qs ++ [x]))) (some (none, drD A' k' b)) := by
  obtain ⟨v0, A0, p0, e0⟩ := v_next A k b ⟨by omega, by omega⟩
  obtain ⟨v1, A1, p1, e1⟩ := v_next A0 (k + 1) b ⟨by omega, by omega⟩
  obtain ⟨v2, A2, p2, e2⟩ := v_next A1 (k + 1 + 1) b ⟨by omega, by omega⟩
  obtain ⟨x0, hx0⟩ := Int.eq_ofNat_of_zero_le (Int.emod_nonneg v0 (b := (n : Int)) (by omega))
  have hx0n : x0 < n := by
    have := Int.emod_lt_of_pos v0 (b := (n : Int)) (by omega)
    omega
  have smn : smallI n = true := smallI_b (by omega)
  have loop : ∀ r : Nat, r ≤ 110 → ∃ (qs : List Nat) (x : Nat) (A' k' : Int) (s3 s4 : Slot), IsWalk n c (qs ++ [x]) ∧ qs.length ≤ r ∧ k + 3 ≤ k' ∧ k' ≤ k + 3 + r ∧
      forR (tgN 3) B__law_path_1 (rngD 0 r) [.ow true none (drD A2 (k + 1 + 1 + 1) b), .fz (webD n c), .ow false none (.list [.int (x0 : Nat)]), .no, .no, .no] =
        .nx [.ow true none (drD A' k' b), .fz (webD n c), .ow false none (.list (plD qs ++ [.int (x : Nat)])), s3, s4, .no] := by
    intro r hr
    refine forR_to (b := tgN 3) (F := B__law_path_1) (ds := rngD 0 r) (fun i ρ => ∃ (qs : List Nat) (x : Nat) (A' k' : Int) (s3 s4 : Slot), IsWalk n c (qs ++ [x]) ∧ qs.length ≤ i ∧ k + 3 ≤ k' ∧ k' ≤ k + 3 + i ∧
        ρ = [.ow true none (drD A' k' b), .fz (webD n c), .ow false none (.list (plD qs ++ [.int (x : Nat)])), s3, s4, .no])
      ⟨[], x0, A2, k + 1 + 1 + 1, .no, .no, IsWalk.one hx0n, Nat.le_refl _, by omega, by omega, rfl⟩ ?_ ?_
    · rintro i ρ d hd ⟨qs, x, A', k', s3, s4, g1, g2, g3, g4, rfl⟩
      obtain ⟨hi, rfl⟩ := rngD_get hd
      have hx : x < n := g1.lt x (by simp)
      by_cases hne : nextsOf n c x = []
      · refine ⟨_, _, rfl, .inl ?_, qs, x, A', k', .fz (.int (i : Nat)), .ow false none (.list (plD (nextsOf n c x))), g1, by omega, by omega, by omega, rfl⟩
        have em : (nextsOf n c x).isEmpty = true := by rw [hne]; rfl
        have ln : (plD (nextsOf n c x)).length ≤ 1000000 := by rw [hne]; decide
        simp (disch := (first | assumption | (simp only [VF.owned_n, VF.owned_s, VF.scal_int, VF.scal_bool, VF.scal_str, VF.scal_none, VF.scal_list, VF.scal_tuple, VF.SZ, List.length_cons, List.length_nil, List.length_set, List.length_append, List.length_map, List.length_range, Int.reduceToNat, Int.reduceLE, Int.reduceLT, Nat.reduceAdd, Nat.reduceLT, Nat.reduceLeDiff, Nat.reduceEqDiff, Nat.zero_add, Nat.zero_lt_succ, Int.toNat_natCast, ne_eq, reduceCtorEq, not_false_eq_true]; done) | (simp only [VF.owned_n, VF.owned_s, VF.scal_int, VF.scal_bool, VF.scal_str, VF.scal_none, VF.scal_list, VF.scal_tuple, VF.SZ, List.length_cons, List.length_nil, List.length_set, List.length_append, List.length_map, List.length_range, Int.reduceToNat, Int.reduceLE, Int.reduceLT, Nat.reduceAdd, Nat.reduceLT, Nat.reduceLeDiff, Nat.reduceEqDiff, Nat.zero_add, Nat.zero_lt_succ, Int.toNat_natCast, ne_eq, reduceCtorEq, not_false_eq_true]; first | assumption | omega) | decide | omega)) only [VF.sSq_k, VF.srB_nx, VF.srB_rt, VF.srB_rz, VF.srB_bk, VF.srB_ct, VF.sIf_k, VF.tsB_ok, VF.tsB_rz, VF.sFor_k, VF.gsB_ok, VF.gsB_rz, VF.sDrop_k, VF.sRet_k, VF.sAsg_k, VF.sAsgT_k, VF.sRz_k, VF.esB_ok, VF.esB_rz, VF.put_int, VF.put_bool, VF.put_str, VF.put_none, VF.put_0, VF.put_listn, VF.put_list1, VF.put_tupn, VF.put_tup1, VF.sRetV_k, VF.retVK_ow, VF.retVK_fz, VF.sApp_k, VF.sAppK_k, VF.appD_k, VF.appK_n, VF.appK_s, VF.sAppV_k, VF.sAppVK_ow, VF.sAppVK_fz, VF.sSet_k, VF.sSetK_k, VF.setK_k, VF.setD_k, VF.setDK_n, VF.setDK_s, VF.sNx, VF.sBk, VF.sCt, VF.sTry_k, VF.tryK_nx, VF.drp_fz, VF.drp_no, VF.drp_ow, VF.excD_s, VF.excD_n, VF.lv0_exc, VF.isXD_none, List.map_cons, List.map_nil, VF.retR_rt, VF.retR_nx, VF.retR_rz, VF.retOf_0, VF.retOf_1, VF.retK_k, VF.arg0, VF.evS_0, VF.evS_1, VF.evSJ_k, VF.esK0_n, VF.esK0_s, VF.esK0_rz, VF.esK1_n, VF.esK1_s, VF.evT_0, VF.evT_1, VF.evTJ_k, VF.tsK0_k, VF.tsK0_rz, VF.tsK1_k, VF.evG_0, VF.evG_1, VF.evGJ_k, VF.gsK0_t, VF.gsK0_f, VF.gsK1_t, VF.frzF_cons, VF.frzF_nil, VF.envF_cons, VF.envF_nil, VF.fr1_false, VF.fr1_fz, VF.fr1_no, VF.fr1_ow, VF.en1_fz, VF.en1_no, VF.en1_ow, VF.en1_own, VF.erB_ok, VF.erB_rz, VF.arB_ok, VF.arB_rz, VF.irB_ok, VF.irB_rz, VF.trB_ok, VF.trB_rz, VF.obB_ok, VF.gaB_ok, VF.gaB_rz, VF.c1_k, VF.c2_k, VF.c2'_k, VF.c3_k, VF.c4_k, VF.c4'_k, VF.c5_k, VF.c6_k, VF.c7_k, VF.c8_k, VF.c9_k, VF.c10_k, VF.c11_k, VF.c11'_k, VF.c12_k, VF.c13_k, VF.c13'_k, VF.c13''_k, VF.c14_k, VF.c15_k, VF.c16_k, VF.c17_k, VF.c18_k, VF.c19_k, VF.c20_k, VF.c21_k, VF.c22_k, VF.c23_k, VF.c24_k, VF.c25_k, VF.k1_k, VF.k1'_k, VF.k2_k, VF.k3_k, VF.k4_k, VF.eVar_k, VF.varK_k, VF.eC_k, VF.eOp1_k, VF.eOp2_k, VF.erO_k, VF.eCall_k, VF.aNil_k, VF.aCons_k, VF.eLst_k, VF.eTup_k, VF.eIf_k, VF.eAnd_k, VF.eOr_k, VF.eNot_k, VF.andK_k, VF.orK_k, VF.notK_k, VF.eCh_k, VF.chK_k, VF.eBd_none, VF.eBd_some, VF.bdK_k, VF.eSl_k, VF.uNil_k, VF.uCons_k, VF.uIo_k, VF.uPerm_k, VF.permL, VF.eUser_k, VF.usrK_none, VF.usrK_some, VF.usrJ_k, eq_self, VF.sTest_k, VF.tBool_k, VF.sTru_k, VF.tTru_bool, VF.tTru_int, VF.tTru_list, VF.tTru_none, VF.sNot_k, VF.sAnd_k, VF.sOr_k, VF.sYes_k, VF.gIter_k, VF.gSeq_list, VF.gSeq_tuple, VF.gArgs_k, VF.gaK_k, VF.eLc_k, VF.lcK_k, VF.iiD_k, VF.icD_if, VF.ibD_k, VF.intD_int, VF.intD_bool, VF.addD_int, VF.negD_k, VF.cMod_k, VF.cDiv_k, VF.ixD_list, VF.ixD_tuple, VF.itD_k, VF.ixN_pos, VF.atI_pos, VF.lv0_int, VF.lv0_bool, VF.lv0_str, VF.lv0_none, VF.lv0_list, VF.lv0_tuple, VF.scal_int, VF.scal_bool, VF.scal_str, VF.scal_none, VF.scal_list, VF.scal_tuple, VF.neD_int, VF.eqD_int, VF.rng1_if, VF.rng2_if, VF.enumG_k, VF.zipG_k, Int.toNat_natCast, VF.notND_none, VF.notND_int, VF.notND_bool, VF.notND_str, VF.notND_list, VF.notND_tuple, VF.isND_none, VF.isND_int, VF.isND_list, VF.isND_tuple, VF.isND_exc, VF.eIsa_k, VF.lenD_list, VF.lenD_tuple, beq_self_eq_true, VF.slD_k, VF.cut_tail, VF.lzD_k, VF.wipeE, VF.lmin_nn, VF.up_n, VF.up_s, VF.lmin_ns, VF.lmin_sn, VF.lmin_ss, VF.owned_n, VF.owned_s, List.contains_cons, List.contains_nil, List.getElem?_cons_zero, List.getElem?_cons_succ, List.getElem?_nil, List.set_cons_zero, List.set_cons_succ, List.length_cons, List.length_nil, List.append_nil, List.cons_append, List.nil_append, List.replicate_succ, List.replicate_zero, Option.some.injEq, Bool.and_true, Bool.true_and, Bool.and_false, Bool.false_and, Bool.or_false, Bool.false_or, Bool.or_true, Bool.true_or, Bool.not_true, Bool.not_false, Nat.reduceBEq, Nat.reduceAdd, Nat.reduceSub, Nat.reduceLeDiff, Nat.reduceEqDiff, Nat.reduceLT, Int.reduceToNat, decide_true, decide_false, ↓reduceIte, reduceCtorEq, Bool.false_eq_true, Nat.zero_add, B__law_path_1, lv0_web, lenD_web, smn, nexts_run hx, neD_nil, em]
      · obtain ⟨v, A3, hv, e⟩ := v_next A' k' b ⟨by omega, by omega⟩
        obtain ⟨y, hy, at1, cm, at2⟩ := atI_mod (v := v) hne
        obtain ⟨y1, y2, y3⟩ := nexts_mem hy
        refine ⟨_, _, rfl, .inl ?_, qs ++ [x], y, A3, k' + 1, .fz (.int (i : Nat)), .ow false none (.list (plD (nextsOf n c x))), g1.snoc y1 y2 y3, by simp; omega, by omega, by omega, rfl⟩
        have em : (nextsOf n c x).isEmpty = false := by simpa using hne
        have ln : (plD qs ++ [PyData.int (x : Nat)]).length < SZ := by
          rw [List.length_append, pl_len]; show qs.length + 1 < 1000000; omega
        have ln' : (plD qs ++ [PyData.int (x : Nat)]).length + 1 ≤ SZ := ln
        simp (disch := (first | assumption | (simp only [VF.owned_n, VF.owned_s, VF.scal_int, VF.scal_bool, VF.scal_str, VF.scal_none, VF.scal_list, VF.scal_tuple, VF.SZ, List.length_cons, List.length_nil, List.length_set, List.length_append, List.length_map, List.length_range, Int.reduceToNat, Int.reduceLE, Int.reduceLT, Nat.reduceAdd, Nat.reduceLT, Nat.reduceLeDiff, Nat.reduceEqDiff, Nat.zero_add, Nat.zero_lt_succ, Int.toNat_natCast, ne_eq, reduceCtorEq, not_false_eq_true]; done) | (simp only [VF.owned_n, VF.owned_s, VF.scal_int, VF.scal_bool, VF.scal_str, VF.scal_none, VF.scal_list, VF.scal_tuple, VF.SZ, List.length_cons, List.length_nil, List.length_set, List.length_append, List.length_map, List.length_range, Int.reduceToNat, Int.reduceLE, Int.reduceLT, Nat.reduceAdd, Nat.reduceLT, Nat.reduceLeDiff, Nat.reduceEqDiff, Nat.zero_add, Nat.zero_lt_succ, Int.toNat_natCast, ne_eq, reduceCtorEq, not_false_eq_true]; first | assumption | omega) | decide | omega)) only [VF.sSq_k, VF.srB_nx, VF.srB_rt, VF.srB_rz, VF.srB_bk, VF.srB_ct, VF.sIf_k, VF.tsB_ok, VF.tsB_rz, VF.sFor_k, VF.gsB_ok, VF.gsB_rz, VF.sDrop_k, VF.sRet_k, VF.sAsg_k, VF.sAsgT_k, VF.sRz_k, VF.esB_ok, VF.esB_rz, VF.put_int, VF.put_bool, VF.put_str, VF.put_none, VF.put_0, VF.put_listn, VF.put_list1, VF.put_tupn, VF.put_tup1, VF.sRetV_k, VF.retVK_ow, VF.retVK_fz, VF.sApp_k, VF.sAppK_k, VF.appD_k, VF.appK_n, VF.appK_s, VF.sAppV_k, VF.sAppVK_ow, VF.sAppVK_fz, VF.sSet_k, VF.sSetK_k, VF.setK_k, VF.setD_k, VF.setDK_n, VF.setDK_s, VF.sNx, VF.sBk, VF.sCt, VF.sTry_k, VF.tryK_nx, VF.drp_fz, VF.drp_no, VF.drp_ow, VF.excD_s, VF.excD_n, VF.lv0_exc, VF.isXD_none, List.map_cons, List.map_nil, VF.retR_rt, VF.retR_nx, VF.retR_rz, VF.retOf_0, VF.retOf_1, VF.retK_k, VF.arg0, VF.evS_0, VF.evS_1, VF.evSJ_k, VF.esK0_n, VF.esK0_s, VF.esK0_rz, VF.esK1_n, VF.esK1_s, VF.evT_0, VF.evT_1, VF.evTJ_k, VF.tsK0_k, VF.tsK0_rz, VF.tsK1_k, VF.evG_0, VF.evG_1, VF.evGJ_k, VF.gsK0_t, VF.gsK0_f, VF.gsK1_t, VF.frzF_cons, VF.frzF_nil, VF.envF_cons, VF.envF_nil, VF.fr1_false, VF.fr1_fz, VF.fr1_no, VF.fr1_ow, VF.en1_fz, VF.en1_no, VF.en1_ow, VF.en1_own, VF.erB_ok, VF.erB_rz, VF.arB_ok, VF.arB_rz, VF.irB_ok, VF.irB_rz, VF.trB_ok, VF.trB_rz, VF.obB_ok, VF.gaB_ok, VF.gaB_rz, VF.c1_k, VF.c2_k, VF.c2'_k, VF.c3_k, VF.c4_k, VF.c4'_k, VF.c5_k, VF.c6_k, VF.c7_k, VF.c8_k, VF.c9_k, VF.c10_k, VF.c11_k, VF.c11'_k, VF.c12_k, VF.c13_k, VF.c13'_k, VF.c13''_k, VF.c14_k, VF.c15_k, VF.c16_k, VF.c17_k, VF.c18_k, VF.c19_k, VF.c20_k, VF.c21_k, VF.c22_k, VF.c23_k, VF.c24_k, VF.c25_k, VF.k1_k, VF.k1'_k, VF.k2_k, VF.k3_k, VF.k4_k, VF.eVar_k, VF.varK_k, VF.eC_k, VF.eOp1_k, VF.eOp2_k, VF.erO_k, VF.eCall_k, VF.aNil_k, VF.aCons_k, VF.eLst_k, VF.eTup_k, VF.eIf_k, VF.eAnd_k, VF.eOr_k, VF.eNot_k, VF.andK_k, VF.orK_k, VF.notK_k, VF.eCh_k, VF.chK_k, VF.eBd_none, VF.eBd_some, VF.bdK_k, VF.eSl_k, VF.uNil_k, VF.uCons_k, VF.uIo_k, VF.uPerm_k, VF.permL, VF.eUser_k, VF.usrK_none, VF.usrK_some, VF.usrJ_k, eq_self, VF.sTest_k, VF.tBool_k, VF.sTru_k, VF.tTru_bool, VF.tTru_int, VF.tTru_list, VF.tTru_none, VF.sNot_k, VF.sAnd_k, VF.sOr_k, VF.sYes_k, VF.gIter_k, VF.gSeq_list, VF.gSeq_tuple, VF.gArgs_k, VF.gaK_k, VF.eLc_k, VF.lcK_k, VF.iiD_k, VF.icD_if, VF.ibD_k, VF.intD_int, VF.intD_bool, VF.addD_int, VF.negD_k, VF.cMod_k, VF.cDiv_k, VF.ixD_list, VF.ixD_tuple, VF.itD_k, VF.ixN_pos, VF.atI_pos, VF.lv0_int, VF.lv0_bool, VF.lv0_str, VF.lv0_none, VF.lv0_list, VF.lv0_tuple, VF.scal_int, VF.scal_bool, VF.scal_str, VF.scal_none, VF.scal_list, VF.scal_tuple, VF.neD_int, VF.eqD_int, VF.rng1_if, VF.rng2_if, VF.enumG_k, VF.zipG_k, Int.toNat_natCast, VF.notND_none, VF.notND_int, VF.notND_bool, VF.notND_str, VF.notND_list, VF.notND_tuple, VF.isND_none, VF.isND_int, VF.isND_list, VF.isND_tuple, VF.isND_exc, VF.eIsa_k, VF.lenD_list, VF.lenD_tuple, beq_self_eq_true, VF.slD_k, VF.cut_tail, VF.lzD_k, VF.wipeE, VF.lmin_nn, VF.up_n, VF.up_s, VF.lmin_ns, VF.lmin_sn, VF.lmin_ss, VF.owned_n, VF.owned_s, List.contains_cons, List.contains_nil, List.getElem?_cons_zero, List.getElem?_cons_succ, List.getElem?_nil, List.set_cons_zero, List.set_cons_succ, List.length_cons, List.length_nil, List.append_nil, List.cons_append, List.nil_append, List.replicate_succ, List.replicate_zero, Option.some.injEq, Bool.and_true, Bool.true_and, Bool.and_false, Bool.false_and, Bool.or_false, Bool.false_or, Bool.or_true, Bool.true_or, Bool.not_true, Bool.not_false, Nat.reduceBEq, Nat.reduceAdd, Nat.reduceSub, Nat.reduceLeDiff, Nat.reduceEqDiff, Nat.reduceLT, Int.reduceToNat, decide_true, decide_false, ↓reduceIte, reduceCtorEq, Bool.false_eq_true, Nat.zero_add, B__law_path_1, lv0_web, lenD_web, smn, nexts_run hx, neD_nil, em, e, at1, cm, at2]
        simp only [plD_snoc]
    · rintro ρ' ⟨qs, x, A', k', s3, s4, g1, g2, g3, g4, rfl⟩ e
      rw [rngD_length] at g2 g4
      exact ⟨qs, x, A', k', s3, s4, g1, g2, g3, g4, e⟩
  have fin : ∀ (m : Int) (r : Nat), v1 % m = (r : Int) → 0 < m → r ≤ 110 → [PyData.int 30, .int 110][(v2 % 2).toNat]? = some (.int m) →
    ∃ qs x A' k', IsWalk n c (qs ++ [x]) ∧ qs.length ≤ 110 ∧ k ≤ k' ∧ k' ≤ k + 113 ∧
      fnM (some 0) 6 F__law_path [none, some (webD n c)] (some (none, drD A k b)) = .ok none (.list (plD (qs ++ [x]))) (some (none, drD A' k' b)) := by
    intro m r hm hm0 hr hat
    obtain ⟨qs, x, A', k', s3, s4, g1, g2, g3, g4, e⟩ := loop r hr
    have cm : cMod v1 m = true := cMod_k hm0
    have smr : smallI (r : Int) = true := smallI_b (by omega)
    refine ⟨qs, x, A', k', g1, by omega, by omega, by omega, fn_eq ?_⟩
    simp (disch := (first | assumption | (simp only [VF.owned_n, VF.owned_s, VF.scal_int, VF.scal_bool, VF.scal_str, VF.scal_none, VF.scal_list, VF.scal_tuple, VF.SZ, List.length_cons, List.length_nil, List.length_set, List.length_append, List.length_map, List.length_range, Int.reduceToNat, Int.reduceLE, Int.reduceLT, Nat.reduceAdd, Nat.reduceLT, Nat.reduceLeDiff, Nat.reduceEqDiff, Nat.zero_add, Nat.zero_lt_succ, Int.toNat_natCast, ne_eq, reduceCtorEq, not_false_eq_true]; done) | (simp only [VF.owned_n, VF.owned_s, VF.scal_int, VF.scal_bool, VF.scal_str, VF.scal_none, VF.scal_list, VF.scal_tuple, VF.SZ, List.length_cons, List.length_nil, List.length_set, List.length_append, List.length_map, List.length_range, Int.reduceToNat, Int.reduceLE, Int.reduceLT, Nat.reduceAdd, Nat.reduceLT, Nat.reduceLeDiff, Nat.reduceEqDiff, Nat.zero_add, Nat.zero_lt_succ, Int.toNat_natCast, ne_eq, reduceCtorEq, not_false_eq_true]; first | assumption | omega) | decide | omega)) only [VF.sSq_k, VF.srB_nx, VF.srB_rt, VF.srB_rz, VF.srB_bk, VF.srB_ct, VF.sIf_k, VF.tsB_ok, VF.tsB_rz, VF.sFor_k, VF.gsB_ok, VF.gsB_rz, VF.sDrop_k, VF.sRet_k, VF.sAsg_k, VF.sAsgT_k, VF.sRz_k, VF.esB_ok, VF.esB_rz, VF.put_int, VF.put_bool, VF.put_str, VF.put_none, VF.put_0, VF.put_listn, VF.put_list1, VF.put_tupn, VF.put_tup1, VF.sRetV_k, VF.retVK_ow, VF.retVK_fz, VF.sApp_k, VF.sAppK_k, VF.appD_k, VF.appK_n, VF.appK_s, VF.sAppV_k, VF.sAppVK_ow, VF.sAppVK_fz, VF.sSet_k, VF.sSetK_k, VF.setK_k, VF.setD_k, VF.setDK_n, VF.setDK_s, VF.sNx, VF.sBk, VF.sCt, VF.sTry_k, VF.tryK_nx, VF.drp_fz, VF.drp_no, VF.drp_ow, VF.excD_s, VF.excD_n, VF.lv0_exc, VF.isXD_none, List.map_cons, List.map_nil, VF.retR_rt, VF.retR_nx, VF.retR_rz, VF.retOf_0, VF.retOf_1, VF.retK_k, VF.arg0, VF.evS_0, VF.evS_1, VF.evSJ_k, VF.esK0_n, VF.esK0_s, VF.esK0_rz, VF.esK1_n, VF.esK1_s, VF.evT_0, VF.evT_1, VF.evTJ_k, VF.tsK0_k, VF.tsK0_rz, VF.tsK1_k, VF.evG_0, VF.evG_1, VF.evGJ_k, VF.gsK0_t, VF.gsK0_f, VF.gsK1_t, VF.frzF_cons, VF.frzF_nil, VF.envF_cons, VF.envF_nil, VF.fr1_false, VF.fr1_fz, VF.fr1_no, VF.fr1_ow, VF.en1_fz, VF.en1_no, VF.en1_ow, VF.en1_own, VF.erB_ok, VF.erB_rz, VF.arB_ok, VF.arB_rz, VF.irB_ok, VF.irB_rz, VF.trB_ok, VF.trB_rz, VF.obB_ok, VF.gaB_ok, VF.gaB_rz, VF.c1_k, VF.c2_k, VF.c2'_k, VF.c3_k, VF.c4_k, VF.c4'_k, VF.c5_k, VF.c6_k, VF.c7_k, VF.c8_k, VF.c9_k, VF.c10_k, VF.c11_k, VF.c11'_k, VF.c12_k, VF.c13_k, VF.c13'_k, VF.c13''_k, VF.c14_k, VF.c15_k, VF.c16_k, VF.c17_k, VF.c18_k, VF.c19_k, VF.c20_k, VF.c21_k, VF.c22_k, VF.c23_k, VF.c24_k, VF.c25_k, VF.k1_k, VF.k1'_k, VF.k2_k, VF.k3_k, VF.k4_k, VF.eVar_k, VF.varK_k, VF.eC_k, VF.eOp1_k, VF.eOp2_k, VF.erO_k, VF.eCall_k, VF.aNil_k, VF.aCons_k, VF.eLst_k, VF.eTup_k, VF.eIf_k, VF.eAnd_k, VF.eOr_k, VF.eNot_k, VF.andK_k, VF.orK_k, VF.notK_k, VF.eCh_k, VF.chK_k, VF.eBd_none, VF.eBd_some, VF.bdK_k, VF.eSl_k, VF.uNil_k, VF.uCons_k, VF.uIo_k, VF.uPerm_k, VF.permL, VF.eUser_k, VF.usrK_none, VF.usrK_some, VF.usrJ_k, eq_self, VF.sTest_k, VF.tBool_k, VF.sTru_k, VF.tTru_bool, VF.tTru_int, VF.tTru_list, VF.tTru_none, VF.sNot_k, VF.sAnd_k, VF.sOr_k, VF.sYes_k, VF.gIter_k, VF.gSeq_list, VF.gSeq_tuple, VF.gArgs_k, VF.gaK_k, VF.eLc_k, VF.lcK_k, VF.iiD_k, VF.icD_if, VF.ibD_k, VF.intD_int, VF.intD_bool, VF.addD_int, VF.negD_k, VF.cMod_k, VF.cDiv_k, VF.ixD_list, VF.ixD_tuple, VF.itD_k, VF.ixN_pos, VF.atI_pos, VF.lv0_int, VF.lv0_bool, VF.lv0_str, VF.lv0_none, VF.lv0_list, VF.lv0_tuple, VF.scal_int, VF.scal_bool, VF.scal_str, VF.scal_none, VF.scal_list, VF.scal_tuple, VF.neD_int, VF.eqD_int, VF.rng1_if, VF.rng2_if, VF.enumG_k, VF.zipG_k, Int.toNat_natCast, VF.notND_none, VF.notND_int, VF.notND_bool, VF.notND_str, VF.notND_list, VF.notND_tuple, VF.isND_none, VF.isND_int, VF.isND_list, VF.isND_tuple, VF.isND_exc, VF.eIsa_k, VF.lenD_list, VF.lenD_tuple, beq_self_eq_true, VF.slD_k, VF.cut_tail, VF.lzD_k, VF.wipeE, VF.lmin_nn, VF.up_n, VF.up_s, VF.lmin_ns, VF.lmin_sn, VF.lmin_ss, VF.owned_n, VF.owned_s, List.contains_cons, List.contains_nil, List.getElem?_cons_zero, List.getElem?_cons_succ, List.getElem?_nil, List.set_cons_zero, List.set_cons_succ, List.length_cons, List.length_nil, List.append_nil, List.cons_append, List.nil_append, List.replicate_succ, List.replicate_zero, Option.some.injEq, Bool.and_true, Bool.true_and, Bool.and_false, Bool.false_and, Bool.or_false, Bool.false_or, Bool.or_true, Bool.true_or, Bool.not_true, Bool.not_false, Nat.reduceBEq, Nat.reduceAdd, Nat.reduceSub, Nat.reduceLeDiff, Nat.reduceEqDiff, Nat.reduceLT, Int.reduceToNat, decide_true, decide_false, ↓reduceIte, reduceCtorEq, Bool.false_eq_true, Nat.zero_add, F__law_path, lv0_web, lenD_web, e0, hx0, e1, e2, hat, cm, hm, smr, e, plD_snoc]
  have hv2 : v2 % 2 = 0 ∨ v2 % 2 = 1 := by omega
  rcases hv2 with q | q
  · obtain ⟨r, hr⟩ := Int.eq_ofNat_of_zero_le (Int.emod_nonneg v1 (b := 30) (by decide))
    have := Int.emod_lt_of_pos v1 (b := 30) (by decide)
    exact fin 30 r hr (by decide) (by omega) (by rw [q]; rfl)
  · obtain ⟨r, hr⟩ := Int.eq_ofNat_of_zero_le (Int.emod_nonneg v1 (b := 110) (by decide))
    have := Int.emod_lt_of_pos v1 (b := 110) (by decide)
    exact fin 110 r hr (by decide) (by omega) (by rw [q]; rfl)
end K04
end
section
set_option Elab.async false
set_option linter.all false
set_option maxRecDepth 100000
set_option maxHeartbeats 2000000
namespace K04
open PySem PySem.Spec L2 VF
open PyProof.Rows hiding St
/-! things that are no walks -/
def noWalk : D → Bool
  | .list [] => true
  | .list _ => false
  | .dict (_ :: _) => false
  | _ => true
theorem v_check_walk_no : ∀ (w d : D), noWalk d = true → fnM none 4 F_check_walk [some w, some d] none = .rz "InvalidWalk" (some ("index", .none))
  | w, .none, _ => by kernel_rfl
  | w, .bool _, _ => by kernel_rfl
  | w, .int _, _ => by kernel_rfl
  | w, .str _, _ => by kernel_rfl
  | w, .list [], _ => by kernel_rfl
  | w, .list (_ :: _), h => nomatch h
  | w, .tuple _, _ => by kernel_rfl
  | w, .dict [], _ => by kernel_rfl
  | w, .dict (_ :: _), h => nomatch h
theorem v_len_rz {n : Nat} {c : Nat → Nat → Option Int} {p : D} {s : Str} {f : Option (Str × D)} (hd : ∀ x, x < n → c x x = some 0) (hl : lv0 p = lv0 p)
    (h : fnM none 4 F_check_walk [some (webD n c), some p] none = .rz s f) : fnM none 4 F_length_of [some (webD n c), some p] none = .rz s f := by
  refine fn_eq ?_
  simp (disch := (first | assumption | (simp only [VF.owned_n, VF.owned_s, VF.scal_int, VF.scal_bool, VF.scal_str, VF.scal_none, VF.scal_list, VF.scal_tuple, VF.SZ, List.length_cons, List.length_nil, List.length_set, List.length_append, List.length_map, List.length_range, Int.reduceToNat, Int.reduceLE, Int.reduceLT, Nat.reduceAdd, Nat.reduceLT, Nat.reduceLeDiff, Nat.reduceEqDiff, Nat.zero_add, Nat.zero_lt_succ, Int.toNat_natCast, ne_eq, reduceCtorEq, not_false_eq_true]; done) | (simp only [VF.owned_n, VF.owned_s, VF.scal_int, VF.scal_bool, VF.scal_str, VF.scal_none, VF.scal_list, VF.scal_tuple, VF.SZ, List.length_cons, List.length_nil, List.length_set, List.length_append, List.length_map, List.length_range, Int.reduceToNat, Int.reduceLE, Int.reduceLT, Nat.reduceAdd, Nat.reduceLT, Nat.reduceLeDiff, Nat.reduceEqDiff, Nat.zero_add, Nat.zero_lt_succ, Int.toNat_natCast, ne_eq, reduceCtorEq, not_false_eq_true]; first | assumption | omega) | decide | omega)) only [VF.sSq_k, VF.srB_nx, VF.srB_rt, VF.srB_rz, VF.srB_bk, VF.srB_ct, VF.sIf_k, VF.tsB_ok, VF.tsB_rz, VF.sFor_k, VF.gsB_ok, VF.gsB_rz, VF.sDrop_k, VF.sRet_k, VF.sAsg_k, VF.sAsgT_k, VF.sRz_k, VF.esB_ok, VF.esB_rz, VF.put_int, VF.put_bool, VF.put_str, VF.put_none, VF.put_0, VF.put_listn, VF.put_list1, VF.put_tupn, VF.put_tup1, VF.sRetV_k, VF.retVK_ow, VF.retVK_fz, VF.sApp_k, VF.sAppK_k, VF.appD_k, VF.appK_n, VF.appK_s, VF.sAppV_k, VF.sAppVK_ow, VF.sAppVK_fz, VF.sSet_k, VF.sSetK_k, VF.setK_k, VF.setD_k, VF.setDK_n, VF.setDK_s, VF.sNx, VF.sBk, VF.sCt, VF.sTry_k, VF.tryK_nx, VF.drp_fz, VF.drp_no, VF.drp_ow, VF.excD_s, VF.excD_n, VF.lv0_exc, VF.isXD_none, List.map_cons, List.map_nil, VF.retR_rt, VF.retR_nx, VF.retR_rz, VF.retOf_0, VF.retOf_1, VF.retK_k, VF.arg0, VF.evS_0, VF.evS_1, VF.evSJ_k, VF.esK0_n, VF.esK0_s, VF.esK0_rz, VF.esK1_n, VF.esK1_s, VF.evT_0, VF.evT_1, VF.evTJ_k, VF.tsK0_k, VF.tsK0_rz, VF.tsK1_k, VF.evG_0, VF.evG_1, VF.evGJ_k, VF.gsK0_t, VF.gsK0_f, VF.gsK1_t, VF.frzF_cons, VF.frzF_nil, VF.envF_cons, VF.envF_nil, VF.fr1_false, VF.fr1_fz, VF.fr1_no, VF.fr1_ow, VF.en1_fz, VF.en1_no, VF.en1_ow, VF.en1_own, VF.erB_ok, VF.erB_rz, VF.arB_ok, VF.arB_rz, VF.irB_ok, VF.irB_rz, VF.trB_ok, VF.trB_rz, VF.obB_ok, VF.gaB_ok, VF.gaB_rz, VF.c1_k, VF.c2_k, VF.c2'_k, VF.c3_k, VF.c4_k, VF.c4'_k, VF.c5_k, VF.c6_k, VF.c7_k, VF.c8_k, VF.c9_k, VF.c10_k, VF.c11_k, VF.c11'_k, VF.c12_k, VF.c13_k, VF.c13'_k, VF.c13''_k, VF.c14_k, VF.c15_k, VF.c16_k, VF.c17_k, VF.c18_k, VF.c19_k, VF.c20_k, VF.c21_k, VF.c22_k, VF.c23_k, VF.c24_k, VF.c25_k, VF.k1_k, VF.k1'_k, VF.k2_k, VF.k3_k, VF.k4_k, VF.eVar_k, VF.varK_k, VF.eC_k, VF.eOp1_k, VF.eOp2_k, VF.erO_k, VF.eCall_k, VF.aNil_k, VF.aCons_k, VF.eLst_k, VF.eTup_k, VF.eIf_k, VF.eAnd_k, VF.eOr_k, VF.eNot_k, VF.andK_k, VF.orK_k, VF.notK_k, VF.eCh_k, VF.chK_k, VF.eBd_none, VF.eBd_some, VF.bdK_k, VF.eSl_k, VF.uNil_k, VF.uCons_k, VF.uIo_k, VF.uPerm_k, VF.permL, VF.eUser_k, VF.usrK_none, VF.usrK_some, VF.usrJ_k, eq_self, VF.sTest_k, VF.tBool_k, VF.sTru_k, VF.tTru_bool, VF.tTru_int, VF.tTru_list, VF.tTru_none, VF.sNot_k, VF.sAnd_k, VF.sOr_k, VF.sYes_k, VF.gIter_k, VF.gSeq_list, VF.gSeq_tuple, VF.gArgs_k, VF.gaK_k, VF.eLc_k, VF.lcK_k, VF.iiD_k, VF.icD_if, VF.ibD_k, VF.intD_int, VF.intD_bool, VF.addD_int, VF.negD_k, VF.cMod_k, VF.cDiv_k, VF.ixD_list, VF.ixD_tuple, VF.itD_k, VF.ixN_pos, VF.atI_pos, VF.lv0_int, VF.lv0_bool, VF.lv0_str, VF.lv0_none, VF.lv0_list, VF.lv0_tuple, VF.scal_int, VF.scal_bool, VF.scal_str, VF.scal_none, VF.scal_list, VF.scal_tuple, VF.neD_int, VF.eqD_int, VF.rng1_if, VF.rng2_if, VF.enumG_k, VF.zipG_k, Int.toNat_natCast, VF.notND_none, VF.notND_int, VF.notND_bool, VF.notND_str, VF.notND_list, VF.notND_tuple, VF.isND_none, VF.isND_int, VF.isND_list, VF.isND_tuple, VF.isND_exc, VF.eIsa_k, VF.lenD_list, VF.lenD_tuple, beq_self_eq_true, VF.slD_k, VF.cut_tail, VF.lzD_k, VF.wipeE, VF.lmin_nn, VF.up_n, VF.up_s, VF.lmin_ns, VF.lmin_sn, VF.lmin_ss, VF.owned_n, VF.owned_s, List.contains_cons, List.contains_nil, List.getElem?_cons_zero, List.getElem?_cons_succ, List.getElem?_nil, List.set_cons_zero, List.set_cons_succ, List.length_cons, List.length_nil, List.append_nil, List.cons_append, List.nil_append, List.replicate_succ, List.replicate_zero, Option.some.injEq, Bool.and_true, Bool.true_and, Bool.and_false, Bool.false_and, Bool.or_false, Bool.false_or, Bool.or_true, Bool.true_or, Bool.not_true, Bool.not_false, Nat.reduceBEq, Nat.reduceAdd, Nat.reduceSub, Nat.reduceLeDiff, Nat.reduceEqDiff, Nat.reduceLT, Int.reduceToNat, decide_true, decide_false, ↓reduceIte, reduceCtorEq, Bool.false_eq_true, Nat.zero_add, F_length_of, lv0_web, v_check_web hd, h]
/-! webs that are none -/
def bwA : List D := [.tuple [.none, .none], .tuple [.tuple [.tuple [.int 0]], .none], .tuple [.list [.none], .none], .tuple [.list [.list [.int 0], .int 5], .none], .tuple [.list [.list [.int 1]], .int 0],
  .tuple [.list [.list [.none]], .int 0], .tuple [.list [.list [.bool false]], .int 0]]
def bwB : List D := [.tuple [.list [.list [.int 0, .int 1]], .int 0], .tuple [.list [.list [.int 0, .int 1], .list [.int 1, .int 2]], .int 1], .tuple [.list [.list [.int 0, .int 1], .list [.bool true, .int 0]], .int 1],
  .tuple [.list [.list [.int 0, .str "1"], .list [.int 5, .int 1]], .int 0], .tuple [.str "", .none]]
def bwC : List D := [.tuple [.list [.list [.int 0, .int 1], .list [.int 0]], .int 1], .tuple [.list [.list [.int 0, .none, .int 1], .list [.int 0, .int 0, .list [.int 1]], .list [.int 0, .int 0, .int 0]], .int 1],
  .tuple [.dict [], .none], .tuple [.list [.list []], .int 0]]
def bwE : List D := [.tuple [.list [.list [.int 1, .int 0], .list [.int 0]], .int 0], .tuple [.list [.list [.str "x", .int 0], .list [.int 0]], .int 0], .tuple [.list [.list [.int 1, .int 2], .list [.str "x", .int 0]], .int 0],
  .tuple [.list (List.replicate 7 (.list [.int 0]) ++ [.none]), .none]]
def bwL : List D := bwA ++ bwB ++ bwC ++ bwE
def bwOk : D → Bool
  | .tuple [w, p] => (match fnM none 4 F__law_told [some w, some .none] none with
    | .ok none (.str s) none => decide (s = (tellD "web" p).shown) && (scal p && (okShow (tellD "web" p) && cpOk (tellD "web" p).shown))
    | _ => false)
  | _ => false
theorem bw_all : bwL.all bwOk = true := by kernel_rfl
theorem bw_mem {d : D} (h : d ∈ bwL) : ∃ w p, d = .tuple [w, p] ∧ fnM none 4 F__law_told [some w, some .none] none = .ok none (.str (tellD "web" p).shown) none ∧ scal p = true ∧ okShow (tellD "web" p) = true ∧ cpOk (tellD "web" p).shown = true := by
  have q := List.all_eq_true.mp bw_all d h
  unfold bwOk at q
  split at q
  · split at q
    · rename_i w p s e
      rw [Bool.and_eq_true, Bool.and_eq_true, Bool.and_eq_true, decide_eq_true_eq] at q
      exact ⟨_, _, rfl, by rw [e, q.1], q.2.1, q.2.2.1, q.2.2.2⟩
    · cases q
  · cases q
theorem cut_mem {ds : List D} {a b : Option Int} {d : D} (h : d ∈ cutD ds a b) : d ∈ ds := List.mem_of_mem_drop (List.mem_of_mem_take h)
theorem cut_len {ds : List D} {a b : Option Int} : (cutD ds a b).length ≤ ds.length := by
  unfold VF.cutD
  rw [List.length_take, List.length_drop]; omega
theorem rep7 {ε : VF.Ev} {μ : Mu} : eRep (eLst (aCons (eLst (aCons (eC (.int 0)) aNil)) aNil)) (eC (.int 7)) ε μ = .ok (some 1) (.list (List.replicate 7 (.list [.int 0]))) μ := rfl
theorem eDic_k {ε : VF.Ev} {μ : Mu} : eDic ε μ = .ok none (.dict []) μ := rfl
theorem v_bad_webs (A k : Int) (b : Bool) (hk : 0 ≤ k ∧ k ≤ 900000) : ∃ m ds A', (∀ d ∈ ds, d ∈ bwL) ∧
    fnM (some 0) 2 F__law_bad_webs [none] (some (none, drD A k b)) = .ok m (.list ds) (some (none, drD A' (k + 1) b)) := by
  obtain ⟨v, A2, hv, e⟩ := v_next A k b ⟨by omega, by omega⟩
  refine ⟨some 1, cutD bwL (some (v % 20)) none ++ cutD bwL none (some 3), A2, fun d hd => ?_, fn_eq ?_⟩
  · rcases List.mem_append.mp hd with hd | hd <;> exact cut_mem hd
  · have l : (cutD bwL (some (v % 20)) none).length + (cutD bwL none (some 3)).length ≤ SZ := by
      have h1 := cut_len (ds := bwL) (a := some (v % 20)) (b := none)
      have h2 := cut_len (ds := bwL) (a := none) (b := some 3)
      have h3 : bwL.length = 20 := rfl
      show _ ≤ 1000000
      omega
    unfold bwL bwA bwB bwC bwE at l ⊢
    simp only [List.cons_append, List.nil_append, List.replicate_succ, List.replicate_zero] at l ⊢
    simp (disch := (first | assumption | (simp only [VF.owned_n, VF.owned_s, VF.scal_int, VF.scal_bool, VF.scal_str, VF.scal_none, VF.scal_list, VF.scal_tuple, VF.SZ, List.length_cons, List.length_nil, List.length_set, List.length_append, List.length_map, List.length_range, Int.reduceToNat, Int.reduceLE, Int.reduceLT, Nat.reduceAdd, Nat.reduceLT, Nat.reduceLeDiff, Nat.reduceEqDiff, Nat.zero_add, Nat.zero_lt_succ, Int.toNat_natCast, ne_eq, reduceCtorEq, not_false_eq_true]; done) | (simp only [VF.owned_n, VF.owned_s, VF.scal_int, VF.scal_bool, VF.scal_str, VF.scal_none, VF.scal_list, VF.scal_tuple, VF.SZ, List.length_cons, List.length_nil, List.length_set, List.length_append, List.length_map, List.length_range, Int.reduceToNat, Int.reduceLE, Int.reduceLT, Nat.reduceAdd, Nat.reduceLT, Nat.reduceLeDiff, Nat.reduceEqDiff, Nat.zero_add, Nat.zero_lt_succ, Int.toNat_natCast, ne_eq, reduceCtorEq, not_false_eq_true]; first | assumption | omega) | decide | omega)) only [VF.sSq_k, VF.srB_nx, VF.srB_rt, VF.srB_rz, VF.srB_bk, VF.srB_ct, VF.sIf_k, VF.tsB_ok, VF.tsB_rz, VF.sFor_k, VF.gsB_ok, VF.gsB_rz, VF.sDrop_k, VF.sRet_k, VF.sAsg_k, VF.sAsgT_k, VF.sRz_k, VF.esB_ok, VF.esB_rz, VF.put_int, VF.put_bool, VF.put_str, VF.put_none, VF.put_0, VF.put_listn, VF.put_list1, VF.put_tupn, VF.put_tup1, VF.sRetV_k, VF.retVK_ow, VF.retVK_fz, VF.sApp_k, VF.sAppK_k, VF.appD_k, VF.appK_n, VF.appK_s, VF.sAppV_k, VF.sAppVK_ow, VF.sAppVK_fz, VF.sSet_k, VF.sSetK_k, VF.setK_k, VF.setD_k, VF.setDK_n, VF.setDK_s, VF.sNx, VF.sBk, VF.sCt, VF.sTry_k, VF.tryK_nx, VF.drp_fz, VF.drp_no, VF.drp_ow, VF.excD_s, VF.excD_n, VF.lv0_exc, VF.isXD_none, List.map_cons, List.map_nil, VF.retR_rt, VF.retR_nx, VF.retR_rz, VF.retOf_0, VF.retOf_1, VF.retK_k, VF.arg0, VF.evS_0, VF.evS_1, VF.evSJ_k, VF.esK0_n, VF.esK0_s, VF.esK0_rz, VF.esK1_n, VF.esK1_s, VF.evT_0, VF.evT_1, VF.evTJ_k, VF.tsK0_k, VF.tsK0_rz, VF.tsK1_k, VF.evG_0, VF.evG_1, VF.evGJ_k, VF.gsK0_t, VF.gsK0_f, VF.gsK1_t, VF.frzF_cons, VF.frzF_nil, VF.envF_cons, VF.envF_nil, VF.fr1_false, VF.fr1_fz, VF.fr1_no, VF.fr1_ow, VF.en1_fz, VF.en1_no, VF.en1_ow, VF.en1_own, VF.erB_ok, VF.erB_rz, VF.arB_ok, VF.arB_rz, VF.irB_ok, VF.irB_rz, VF.trB_ok, VF.trB_rz, VF.obB_ok, VF.gaB_ok, VF.gaB_rz, VF.c1_k, VF.c2_k, VF.c2'_k, VF.c3_k, VF.c4_k, VF.c4'_k, VF.c5_k, VF.c6_k, VF.c7_k, VF.c8_k, VF.c9_k, VF.c10_k, VF.c11_k, VF.c11'_k, VF.c12_k, VF.c13_k, VF.c13'_k, VF.c13''_k, VF.c14_k, VF.c15_k, VF.c16_k, VF.c17_k, VF.c18_k, VF.c19_k, VF.c20_k, VF.c21_k, VF.c22_k, VF.c23_k, VF.c24_k, VF.c25_k, VF.k1_k, VF.k1'_k, VF.k2_k, VF.k3_k, VF.k4_k, VF.eVar_k, VF.varK_k, VF.eC_k, VF.eOp1_k, VF.eOp2_k, VF.erO_k, VF.eCall_k, VF.aNil_k, VF.aCons_k, VF.eLst_k, VF.eTup_k, VF.eIf_k, VF.eAnd_k, VF.eOr_k, VF.eNot_k, VF.andK_k, VF.orK_k, VF.notK_k, VF.eCh_k, VF.chK_k, VF.eBd_none, VF.eBd_some, VF.bdK_k, VF.eSl_k, VF.uNil_k, VF.uCons_k, VF.uIo_k, VF.uPerm_k, VF.permL, VF.eUser_k, VF.usrK_none, VF.usrK_some, VF.usrJ_k, eq_self, VF.sTest_k, VF.tBool_k, VF.sTru_k, VF.tTru_bool, VF.tTru_int, VF.tTru_list, VF.tTru_none, VF.sNot_k, VF.sAnd_k, VF.sOr_k, VF.sYes_k, VF.gIter_k, VF.gSeq_list, VF.gSeq_tuple, VF.gArgs_k, VF.gaK_k, VF.eLc_k, VF.lcK_k, VF.iiD_k, VF.icD_if, VF.ibD_k, VF.intD_int, VF.intD_bool, VF.addD_int, VF.negD_k, VF.cMod_k, VF.cDiv_k, VF.ixD_list, VF.ixD_tuple, VF.itD_k, VF.ixN_pos, VF.atI_pos, VF.lv0_int, VF.lv0_bool, VF.lv0_str, VF.lv0_none, VF.lv0_list, VF.lv0_tuple, VF.scal_int, VF.scal_bool, VF.scal_str, VF.scal_none, VF.scal_list, VF.scal_tuple, VF.neD_int, VF.eqD_int, VF.rng1_if, VF.rng2_if, VF.enumG_k, VF.zipG_k, Int.toNat_natCast, VF.notND_none, VF.notND_int, VF.notND_bool, VF.notND_str, VF.notND_list, VF.notND_tuple, VF.isND_none, VF.isND_int, VF.isND_list, VF.isND_tuple, VF.isND_exc, VF.eIsa_k, VF.lenD_list, VF.lenD_tuple, beq_self_eq_true, VF.slD_k, VF.cut_tail, VF.lzD_k, VF.wipeE, VF.lmin_nn, VF.up_n, VF.up_s, VF.lmin_ns, VF.lmin_sn, VF.lmin_ss, VF.owned_n, VF.owned_s, List.contains_cons, List.contains_nil, List.getElem?_cons_zero, List.getElem?_cons_succ, List.getElem?_nil, List.set_cons_zero, List.set_cons_succ, List.length_cons, List.length_nil, List.append_nil, List.cons_append, List.nil_append, List.replicate_succ, List.replicate_zero, Option.some.injEq, Bool.and_true, Bool.true_and, Bool.and_false, Bool.false_and, Bool.or_false, Bool.false_or, Bool.or_true, Bool.true_or, Bool.not_true, Bool.not_false, Nat.reduceBEq, Nat.reduceAdd, Nat.reduceSub, Nat.reduceLeDiff, Nat.reduceEqDiff, Nat.reduceLT, Int.reduceToNat, decide_true, decide_false, ↓reduceIte, reduceCtorEq, Bool.false_eq_true, Nat.zero_add, F__law_bad_webs, e, addD_list, l, rep7, eDic_k]
end K04
end
section
set_option Elab.async false
set_option linter.all false
set_option maxRecDepth 100000
set_option maxHeartbeats 2000000
namespace K04
open PySem PySem.Spec L2 VF
open PyProof.Rows hiding St
/-! longer and shorter webs -/
def scl (far : Int) (f : Nat → Option Int) : Nat → Option Int := fun y => (f y).map (· * far)
theorem scale_row {n : Nat} {f : Nat → Option Int} {far : Int} (hb : ∀ y, y < n → ∀ i, f y = some i → -3 ≤ i ∧ i ≤ 8) (hf : 0 ≤ far ∧ far ≤ 100000000000) {e0 e1 e3 e5 e6 e7 e8 e9 e10 e11 : Option D} :
    cRun none (bN 4) sYes (eIf (sTest (eOp2 isND (eVar 4) (eC .none))) (eC .none) (eOp2 mulD (eVar 4) (eVar 2))) [e0, e1, some (.int far), e3, none, e5, e6, e7, e8, e9, e10, e11] ((List.range n).map fun y => cellD (f y)) none =
      .ok ((List.range n).map fun y => cellD (scl far f y)) none := by
  refine cRun_map (fun y => cellD (f y)) (fun y => cellD (scl far f y)) fun y hy => ?_
  have hy := List.mem_range.mp hy
  refine ⟨[e0, e1, some (.int far), e3, some (cellD (f y)), e5, e6, e7, e8, e9, e10, e11], none, rfl, ?_, rfl⟩
  cases h : f y with
  | none =>
    have q : scl far f y = none := by unfold scl; rw [h]; rfl
    simp (disch := (first | assumption | (simp only [VF.owned_n, VF.owned_s, VF.scal_int, VF.scal_bool, VF.scal_str, VF.scal_none, VF.scal_list, VF.scal_tuple, VF.SZ, List.length_cons, List.length_nil, List.length_set, List.length_append, List.length_map, List.length_range, Int.reduceToNat, Int.reduceLE, Int.reduceLT, Nat.reduceAdd, Nat.reduceLT, Nat.reduceLeDiff, Nat.reduceEqDiff, Nat.zero_add, Nat.zero_lt_succ, Int.toNat_natCast, ne_eq, reduceCtorEq, not_false_eq_true]; done) | (simp only [VF.owned_n, VF.owned_s, VF.scal_int, VF.scal_bool, VF.scal_str, VF.scal_none, VF.scal_list, VF.scal_tuple, VF.SZ, List.length_cons, List.length_nil, List.length_set, List.length_append, List.length_map, List.length_range, Int.reduceToNat, Int.reduceLE, Int.reduceLT, Nat.reduceAdd, Nat.reduceLT, Nat.reduceLeDiff, Nat.reduceEqDiff, Nat.zero_add, Nat.zero_lt_succ, Int.toNat_natCast, ne_eq, reduceCtorEq, not_false_eq_true]; first | assumption | omega) | decide | omega)) only [VF.sSq_k, VF.srB_nx, VF.srB_rt, VF.srB_rz, VF.srB_bk, VF.srB_ct, VF.sIf_k, VF.tsB_ok, VF.tsB_rz, VF.sFor_k, VF.gsB_ok, VF.gsB_rz, VF.sDrop_k, VF.sRet_k, VF.sAsg_k, VF.sAsgT_k, VF.sRz_k, VF.esB_ok, VF.esB_rz, VF.put_int, VF.put_bool, VF.put_str, VF.put_none, VF.put_0, VF.put_listn, VF.put_list1, VF.put_tupn, VF.put_tup1, VF.sRetV_k, VF.retVK_ow, VF.retVK_fz, VF.sApp_k, VF.sAppK_k, VF.appD_k, VF.appK_n, VF.appK_s, VF.sAppV_k, VF.sAppVK_ow, VF.sAppVK_fz, VF.sSet_k, VF.sSetK_k, VF.setK_k, VF.setD_k, VF.setDK_n, VF.setDK_s, VF.sNx, VF.sBk, VF.sCt, VF.sTry_k, VF.tryK_nx, VF.drp_fz, VF.drp_no, VF.drp_ow, VF.excD_s, VF.excD_n, VF.lv0_exc, VF.isXD_none, List.map_cons, List.map_nil, VF.retR_rt, VF.retR_nx, VF.retR_rz, VF.retOf_0, VF.retOf_1, VF.retK_k, VF.arg0, VF.evS_0, VF.evS_1, VF.evSJ_k, VF.esK0_n, VF.esK0_s, VF.esK0_rz, VF.esK1_n, VF.esK1_s, VF.evT_0, VF.evT_1, VF.evTJ_k, VF.tsK0_k, VF.tsK0_rz, VF.tsK1_k, VF.evG_0, VF.evG_1, VF.evGJ_k, VF.gsK0_t, VF.gsK0_f, VF.gsK1_t, VF.frzF_cons, VF.frzF_nil, VF.envF_cons, VF.envF_nil, VF.fr1_false, VF.fr1_fz, VF.fr1_no, VF.fr1_ow, VF.en1_fz, VF.en1_no, VF.en1_ow, VF.en1_own, VF.erB_ok, VF.erB_rz, VF.arB_ok, VF.arB_rz, VF.irB_ok, VF.irB_rz, VF.trB_ok, VF.trB_rz, VF.obB_ok, VF.gaB_ok, VF.gaB_rz, VF.c1_k, VF.c2_k, VF.c2'_k, VF.c3_k, VF.c4_k, VF.c4'_k, VF.c5_k, VF.c6_k, VF.c7_k, VF.c8_k, VF.c9_k, VF.c10_k, VF.c11_k, VF.c11'_k, VF.c12_k, VF.c13_k, VF.c13'_k, VF.c13''_k, VF.c14_k, VF.c15_k, VF.c16_k, VF.c17_k, VF.c18_k, VF.c19_k, VF.c20_k, VF.c21_k, VF.c22_k, VF.c23_k, VF.c24_k, VF.c25_k, VF.k1_k, VF.k1'_k, VF.k2_k, VF.k3_k, VF.k4_k, VF.eVar_k, VF.varK_k, VF.eC_k, VF.eOp1_k, VF.eOp2_k, VF.erO_k, VF.eCall_k, VF.aNil_k, VF.aCons_k, VF.eLst_k, VF.eTup_k, VF.eIf_k, VF.eAnd_k, VF.eOr_k, VF.eNot_k, VF.andK_k, VF.orK_k, VF.notK_k, VF.eCh_k, VF.chK_k, VF.eBd_none, VF.eBd_some, VF.bdK_k, VF.eSl_k, VF.uNil_k, VF.uCons_k, VF.uIo_k, VF.uPerm_k, VF.permL, VF.eUser_k, VF.usrK_none, VF.usrK_some, VF.usrJ_k, eq_self, VF.sTest_k, VF.tBool_k, VF.sTru_k, VF.tTru_bool, VF.tTru_int, VF.tTru_list, VF.tTru_none, VF.sNot_k, VF.sAnd_k, VF.sOr_k, VF.sYes_k, VF.gIter_k, VF.gSeq_list, VF.gSeq_tuple, VF.gArgs_k, VF.gaK_k, VF.eLc_k, VF.lcK_k, VF.iiD_k, VF.icD_if, VF.ibD_k, VF.intD_int, VF.intD_bool, VF.addD_int, VF.negD_k, VF.cMod_k, VF.cDiv_k, VF.ixD_list, VF.ixD_tuple, VF.itD_k, VF.ixN_pos, VF.atI_pos, VF.lv0_int, VF.lv0_bool, VF.lv0_str, VF.lv0_none, VF.lv0_list, VF.lv0_tuple, VF.scal_int, VF.scal_bool, VF.scal_str, VF.scal_none, VF.scal_list, VF.scal_tuple, VF.neD_int, VF.eqD_int, VF.rng1_if, VF.rng2_if, VF.enumG_k, VF.zipG_k, Int.toNat_natCast, VF.notND_none, VF.notND_int, VF.notND_bool, VF.notND_str, VF.notND_list, VF.notND_tuple, VF.isND_none, VF.isND_int, VF.isND_list, VF.isND_tuple, VF.isND_exc, VF.eIsa_k, VF.lenD_list, VF.lenD_tuple, beq_self_eq_true, VF.slD_k, VF.cut_tail, VF.lzD_k, VF.wipeE, VF.lmin_nn, VF.up_n, VF.up_s, VF.lmin_ns, VF.lmin_sn, VF.lmin_ss, VF.owned_n, VF.owned_s, List.contains_cons, List.contains_nil, List.getElem?_cons_zero, List.getElem?_cons_succ, List.getElem?_nil, List.set_cons_zero, List.set_cons_succ, List.length_cons, List.length_nil, List.append_nil, List.cons_append, List.nil_append, List.replicate_succ, List.replicate_zero, Option.some.injEq, Bool.and_true, Bool.true_and, Bool.and_false, Bool.false_and, Bool.or_false, Bool.false_or, Bool.or_true, Bool.true_or, Bool.not_true, Bool.not_false, Nat.reduceBEq, Nat.reduceAdd, Nat.reduceSub, Nat.reduceLeDiff, Nat.reduceEqDiff, Nat.reduceLT, Int.reduceToNat, decide_true, decide_false, ↓reduceIte, reduceCtorEq, Bool.false_eq_true, Nat.zero_add, q, cellD_n]
  | some i =>
    have q : scl far f y = some (i * far) := by unfold scl; rw [h]; rfl
    have b := hb y hy i h
    have cm : cMulW i far = true := cMul_b (by omega) (by omega)
    simp (disch := (first | assumption | (simp only [VF.owned_n, VF.owned_s, VF.scal_int, VF.scal_bool, VF.scal_str, VF.scal_none, VF.scal_list, VF.scal_tuple, VF.SZ, List.length_cons, List.length_nil, List.length_set, List.length_append, List.length_map, List.length_range, Int.reduceToNat, Int.reduceLE, Int.reduceLT, Nat.reduceAdd, Nat.reduceLT, Nat.reduceLeDiff, Nat.reduceEqDiff, Nat.zero_add, Nat.zero_lt_succ, Int.toNat_natCast, ne_eq, reduceCtorEq, not_false_eq_true]; done) | (simp only [VF.owned_n, VF.owned_s, VF.scal_int, VF.scal_bool, VF.scal_str, VF.scal_none, VF.scal_list, VF.scal_tuple, VF.SZ, List.length_cons, List.length_nil, List.length_set, List.length_append, List.length_map, List.length_range, Int.reduceToNat, Int.reduceLE, Int.reduceLT, Nat.reduceAdd, Nat.reduceLT, Nat.reduceLeDiff, Nat.reduceEqDiff, Nat.zero_add, Nat.zero_lt_succ, Int.toNat_natCast, ne_eq, reduceCtorEq, not_false_eq_true]; first | assumption | omega) | decide | omega)) only [VF.sSq_k, VF.srB_nx, VF.srB_rt, VF.srB_rz, VF.srB_bk, VF.srB_ct, VF.sIf_k, VF.tsB_ok, VF.tsB_rz, VF.sFor_k, VF.gsB_ok, VF.gsB_rz, VF.sDrop_k, VF.sRet_k, VF.sAsg_k, VF.sAsgT_k, VF.sRz_k, VF.esB_ok, VF.esB_rz, VF.put_int, VF.put_bool, VF.put_str, VF.put_none, VF.put_0, VF.put_listn, VF.put_list1, VF.put_tupn, VF.put_tup1, VF.sRetV_k, VF.retVK_ow, VF.retVK_fz, VF.sApp_k, VF.sAppK_k, VF.appD_k, VF.appK_n, VF.appK_s, VF.sAppV_k, VF.sAppVK_ow, VF.sAppVK_fz, VF.sSet_k, VF.sSetK_k, VF.setK_k, VF.setD_k, VF.setDK_n, VF.setDK_s, VF.sNx, VF.sBk, VF.sCt, VF.sTry_k, VF.tryK_nx, VF.drp_fz, VF.drp_no, VF.drp_ow, VF.excD_s, VF.excD_n, VF.lv0_exc, VF.isXD_none, List.map_cons, List.map_nil, VF.retR_rt, VF.retR_nx, VF.retR_rz, VF.retOf_0, VF.retOf_1, VF.retK_k, VF.arg0, VF.evS_0, VF.evS_1, VF.evSJ_k, VF.esK0_n, VF.esK0_s, VF.esK0_rz, VF.esK1_n, VF.esK1_s, VF.evT_0, VF.evT_1, VF.evTJ_k, VF.tsK0_k, VF.tsK0_rz, VF.tsK1_k, VF.evG_0, VF.evG_1, VF.evGJ_k, VF.gsK0_t, VF.gsK0_f, VF.gsK1_t, VF.frzF_cons, VF.frzF_nil, VF.envF_cons, VF.envF_nil, VF.fr1_false, VF.fr1_fz, VF.fr1_no, VF.fr1_ow, VF.en1_fz, VF.en1_no, VF.en1_ow, VF.en1_own, VF.erB_ok, VF.erB_rz, VF.arB_ok, VF.arB_rz, VF.irB_ok, VF.irB_rz, VF.trB_ok, VF.trB_rz, VF.obB_ok, VF.gaB_ok, VF.gaB_rz, VF.c1_k, VF.c2_k, VF.c2'_k, VF.c3_k, VF.c4_k, VF.c4'_k, VF.c5_k, VF.c6_k, VF.c7_k, VF.c8_k, VF.c9_k, VF.c10_k, VF.c11_k, VF.c11'_k, VF.c12_k, VF.c13_k, VF.c13'_k, VF.c13''_k, VF.c14_k, VF.c15_k, VF.c16_k, VF.c17_k, VF.c18_k, VF.c19_k, VF.c20_k, VF.c21_k, VF.c22_k, VF.c23_k, VF.c24_k, VF.c25_k, VF.k1_k, VF.k1'_k, VF.k2_k, VF.k3_k, VF.k4_k, VF.eVar_k, VF.varK_k, VF.eC_k, VF.eOp1_k, VF.eOp2_k, VF.erO_k, VF.eCall_k, VF.aNil_k, VF.aCons_k, VF.eLst_k, VF.eTup_k, VF.eIf_k, VF.eAnd_k, VF.eOr_k, VF.eNot_k, VF.andK_k, VF.orK_k, VF.notK_k, VF.eCh_k, VF.chK_k, VF.eBd_none, VF.eBd_some, VF.bdK_k, VF.eSl_k, VF.uNil_k, VF.uCons_k, VF.uIo_k, VF.uPerm_k, VF.permL, VF.eUser_k, VF.usrK_none, VF.usrK_some, VF.usrJ_k, eq_self, VF.sTest_k, VF.tBool_k, VF.sTru_k, VF.tTru_bool, VF.tTru_int, VF.tTru_list, VF.tTru_none, VF.sNot_k, VF.sAnd_k, VF.sOr_k, VF.sYes_k, VF.gIter_k, VF.gSeq_list, VF.gSeq_tuple, VF.gArgs_k, VF.gaK_k, VF.eLc_k, VF.lcK_k, VF.iiD_k, VF.icD_if, VF.ibD_k, VF.intD_int, VF.intD_bool, VF.addD_int, VF.negD_k, VF.cMod_k, VF.cDiv_k, VF.ixD_list, VF.ixD_tuple, VF.itD_k, VF.ixN_pos, VF.atI_pos, VF.lv0_int, VF.lv0_bool, VF.lv0_str, VF.lv0_none, VF.lv0_list, VF.lv0_tuple, VF.scal_int, VF.scal_bool, VF.scal_str, VF.scal_none, VF.scal_list, VF.scal_tuple, VF.neD_int, VF.eqD_int, VF.rng1_if, VF.rng2_if, VF.enumG_k, VF.zipG_k, Int.toNat_natCast, VF.notND_none, VF.notND_int, VF.notND_bool, VF.notND_str, VF.notND_list, VF.notND_tuple, VF.isND_none, VF.isND_int, VF.isND_list, VF.isND_tuple, VF.isND_exc, VF.eIsa_k, VF.lenD_list, VF.lenD_tuple, beq_self_eq_true, VF.slD_k, VF.cut_tail, VF.lzD_k, VF.wipeE, VF.lmin_nn, VF.up_n, VF.up_s, VF.lmin_ns, VF.lmin_sn, VF.lmin_ss, VF.owned_n, VF.owned_s, List.contains_cons, List.contains_nil, List.getElem?_cons_zero, List.getElem?_cons_succ, List.getElem?_nil, List.set_cons_zero, List.set_cons_succ, List.length_cons, List.length_nil, List.append_nil, List.cons_append, List.nil_append, List.replicate_succ, List.replicate_zero, Option.some.injEq, Bool.and_true, Bool.true_and, Bool.and_false, Bool.false_and, Bool.or_false, Bool.false_or, Bool.or_true, Bool.true_or, Bool.not_true, Bool.not_false, Nat.reduceBEq, Nat.reduceAdd, Nat.reduceSub, Nat.reduceLeDiff, Nat.reduceEqDiff, Nat.reduceLT, Int.reduceToNat, decide_true, decide_false, ↓reduceIte, reduceCtorEq, Bool.false_eq_true, Nat.zero_add, q, cellD_s, cm]
theorem scale_web {n : Nat} {c : Nat → Nat → Option Int} {far : Int} (hb : IsWeb (-3) 8 n c) (hf : 0 ≤ far ∧ far ≤ 100000000000) {e0 e1 e4 e5 e6 e7 e8 e9 e10 e11 : Option D} :
    cRun none (bN 3) sYes (eLc none [4] (bN 4) (gIter (eVar 3)) sYes (eIf (sTest (eOp2 isND (eVar 4) (eC .none))) (eC .none) (eOp2 mulD (eVar 4) (eVar 2)))) [e0, e1, some (.int far), none, e4, e5, e6, e7, e8, e9, e10, e11] ((List.range n).map fun x => rowD n (c x)) none =
      .ok ((List.range n).map fun x => rowD n (scl far (c x))) none := by
  refine cRun_map (fun x => rowD n (c x)) (fun x => rowD n (scl far (c x))) fun x hx => ?_
  have hx := List.mem_range.mp hx
  refine ⟨[e0, e1, some (.int far), some (rowD n (c x)), e4, e5, e6, e7, e8, e9, e10, e11], none, rfl, ?_, rfl⟩
  have r := scale_row (n := n) (f := c x) (e0 := e0) (e1 := e1) (e3 := some (rowD n (c x))) (e5 := e5) (e6 := e6) (e7 := e7) (e8 := e8) (e9 := e9) (e10 := e10) (e11 := e11) (fun y hy i h => (hb x y hx hy).2 i h) hf
  simp (disch := (first | assumption | (simp only [VF.owned_n, VF.owned_s, VF.scal_int, VF.scal_bool, VF.scal_str, VF.scal_none, VF.scal_list, VF.scal_tuple, VF.SZ, List.length_cons, List.length_nil, List.length_set, List.length_append, List.length_map, List.length_range, Int.reduceToNat, Int.reduceLE, Int.reduceLT, Nat.reduceAdd, Nat.reduceLT, Nat.reduceLeDiff, Nat.reduceEqDiff, Nat.zero_add, Nat.zero_lt_succ, Int.toNat_natCast, ne_eq, reduceCtorEq, not_false_eq_true]; done) | (simp only [VF.owned_n, VF.owned_s, VF.scal_int, VF.scal_bool, VF.scal_str, VF.scal_none, VF.scal_list, VF.scal_tuple, VF.SZ, List.length_cons, List.length_nil, List.length_set, List.length_append, List.length_map, List.length_range, Int.reduceToNat, Int.reduceLE, Int.reduceLT, Nat.reduceAdd, Nat.reduceLT, Nat.reduceLeDiff, Nat.reduceEqDiff, Nat.zero_add, Nat.zero_lt_succ, Int.toNat_natCast, ne_eq, reduceCtorEq, not_false_eq_true]; first | assumption | omega) | decide | omega)) only [VF.sSq_k, VF.srB_nx, VF.srB_rt, VF.srB_rz, VF.srB_bk, VF.srB_ct, VF.sIf_k, VF.tsB_ok, VF.tsB_rz, VF.sFor_k, VF.gsB_ok, VF.gsB_rz, VF.sDrop_k, VF.sRet_k, VF.sAsg_k, VF.sAsgT_k, VF.sRz_k, VF.esB_ok, VF.esB_rz, VF.put_int, VF.put_bool, VF.put_str, VF.put_none, VF.put_0, VF.put_listn, VF.put_list1, VF.put_tupn, VF.put_tup1, VF.sRetV_k, VF.retVK_ow, VF.retVK_fz, VF.sApp_k, VF.sAppK_k, VF.appD_k, VF.appK_n, VF.appK_s, VF.sAppV_k, VF.sAppVK_ow, VF.sAppVK_fz, VF.sSet_k, VF.sSetK_k, VF.setK_k, VF.setD_k, VF.setDK_n, VF.setDK_s, VF.sNx, VF.sBk, VF.sCt, VF.sTry_k, VF.tryK_nx, VF.drp_fz, VF.drp_no, VF.drp_ow, VF.excD_s, VF.excD_n, VF.lv0_exc, VF.isXD_none, List.map_cons, List.map_nil, VF.retR_rt, VF.retR_nx, VF.retR_rz, VF.retOf_0, VF.retOf_1, VF.retK_k, VF.arg0, VF.evS_0, VF.evS_1, VF.evSJ_k, VF.esK0_n, VF.esK0_s, VF.esK0_rz, VF.esK1_n, VF.esK1_s, VF.evT_0, VF.evT_1, VF.evTJ_k, VF.tsK0_k, VF.tsK0_rz, VF.tsK1_k, VF.evG_0, VF.evG_1, VF.evGJ_k, VF.gsK0_t, VF.gsK0_f, VF.gsK1_t, VF.frzF_cons, VF.frzF_nil, VF.envF_cons, VF.envF_nil, VF.fr1_false, VF.fr1_fz, VF.fr1_no, VF.fr1_ow, VF.en1_fz, VF.en1_no, VF.en1_ow, VF.en1_own, VF.erB_ok, VF.erB_rz, VF.arB_ok, VF.arB_rz, VF.irB_ok, VF.irB_rz, VF.trB_ok, VF.trB_rz, VF.obB_ok, VF.gaB_ok, VF.gaB_rz, VF.c1_k, VF.c2_k, VF.c2'_k, VF.c3_k, VF.c4_k, VF.c4'_k, VF.c5_k, VF.c6_k, VF.c7_k, VF.c8_k, VF.c9_k, VF.c10_k, VF.c11_k, VF.c11'_k, VF.c12_k, VF.c13_k, VF.c13'_k, VF.c13''_k, VF.c14_k, VF.c15_k, VF.c16_k, VF.c17_k, VF.c18_k, VF.c19_k, VF.c20_k, VF.c21_k, VF.c22_k, VF.c23_k, VF.c24_k, VF.c25_k, VF.k1_k, VF.k1'_k, VF.k2_k, VF.k3_k, VF.k4_k, VF.eVar_k, VF.varK_k, VF.eC_k, VF.eOp1_k, VF.eOp2_k, VF.erO_k, VF.eCall_k, VF.aNil_k, VF.aCons_k, VF.eLst_k, VF.eTup_k, VF.eIf_k, VF.eAnd_k, VF.eOr_k, VF.eNot_k, VF.andK_k, VF.orK_k, VF.notK_k, VF.eCh_k, VF.chK_k, VF.eBd_none, VF.eBd_some, VF.bdK_k, VF.eSl_k, VF.uNil_k, VF.uCons_k, VF.uIo_k, VF.uPerm_k, VF.permL, VF.eUser_k, VF.usrK_none, VF.usrK_some, VF.usrJ_k, eq_self, VF.sTest_k, VF.tBool_k, VF.sTru_k, VF.tTru_bool, VF.tTru_int, VF.tTru_list, VF.tTru_none, VF.sNot_k, VF.sAnd_k, VF.sOr_k, VF.sYes_k, VF.gIter_k, VF.gSeq_list, VF.gSeq_tuple, VF.gArgs_k, VF.gaK_k, VF.eLc_k, VF.lcK_k, VF.iiD_k, VF.icD_if, VF.ibD_k, VF.intD_int, VF.intD_bool, VF.addD_int, VF.negD_k, VF.cMod_k, VF.cDiv_k, VF.ixD_list, VF.ixD_tuple, VF.itD_k, VF.ixN_pos, VF.atI_pos, VF.lv0_int, VF.lv0_bool, VF.lv0_str, VF.lv0_none, VF.lv0_list, VF.lv0_tuple, VF.scal_int, VF.scal_bool, VF.scal_str, VF.scal_none, VF.scal_list, VF.scal_tuple, VF.neD_int, VF.eqD_int, VF.rng1_if, VF.rng2_if, VF.enumG_k, VF.zipG_k, Int.toNat_natCast, VF.notND_none, VF.notND_int, VF.notND_bool, VF.notND_str, VF.notND_list, VF.notND_tuple, VF.isND_none, VF.isND_int, VF.isND_list, VF.isND_tuple, VF.isND_exc, VF.eIsa_k, VF.lenD_list, VF.lenD_tuple, beq_self_eq_true, VF.slD_k, VF.cut_tail, VF.lzD_k, VF.wipeE, VF.lmin_nn, VF.up_n, VF.up_s, VF.lmin_ns, VF.lmin_sn, VF.lmin_ss, VF.owned_n, VF.owned_s, List.contains_cons, List.contains_nil, List.getElem?_cons_zero, List.getElem?_cons_succ, List.getElem?_nil, List.set_cons_zero, List.set_cons_succ, List.length_cons, List.length_nil, List.append_nil, List.cons_append, List.nil_append, List.replicate_succ, List.replicate_zero, Option.some.injEq, Bool.and_true, Bool.true_and, Bool.and_false, Bool.false_and, Bool.or_false, Bool.false_or, Bool.or_true, Bool.true_or, Bool.not_true, Bool.not_false, Nat.reduceBEq, Nat.reduceAdd, Nat.reduceSub, Nat.reduceLeDiff, Nat.reduceEqDiff, Nat.reduceLT, Int.reduceToNat, decide_true, decide_false, ↓reduceIte, reduceCtorEq, Bool.false_eq_true, Nat.zero_add, lv0_row, gSeq_row, r]
  rfl
/-! what must be refused -/
theorem walk_w : (reprText "walk").length ≤ 100 ∧ cpOk (reprText "walk") = true := by decide +kernel
theorem web_w : (reprText "web").length ≤ 100 ∧ cpOk (reprText "web") = true := by decide +kernel
theorem tupD_list {ds : List D} : tupD [.list ds] = some (some 1, .tuple ds) := rfl
theorem lenS {i : Nat} (h : i ≤ 1000) : ShOk (.int (i : Nat)) 0 25 := sh_int (by omega)
section
variable {n : Nat} {c : Nat → Nat → Option Int} {ps : List Nat} {x : Nat} (hd : ∀ x, x < n → c x x = some 0) (hw : IsWalk n c ps) (hz : ps.length ≤ 1000)
include hd
theorem step1 {d : D} (h : noWalk d = true) {s0 s2 s3 s4 s5 s6 s7 s9 s10 s11 : Slot} : B__law_right_1 [s0, .ow false none (webD n c), s2, s3, s4, s5, s6, s7, .fz d, s9, s10, s11] = .nx [s0, .ow false none (webD n c), s2, s3, s4, s5, s6, s7, .fz d, s9, s10, s11] := by
  have t := v_told_walk (v_len_rz hd rfl (v_check_walk_no (webD n c) d h)) rfl sh_none (by decide)
  unfold tellD at t
  have ok : okShow (.list [.str "walk", .none]) = true := by decide +kernel
  have nn := neD_same (x := PyData.shown (.list [.str "walk", .none])) (by decide +kernel)
  simp (disch := (first | assumption | (simp only [VF.owned_n, VF.owned_s, VF.scal_int, VF.scal_bool, VF.scal_str, VF.scal_none, VF.scal_list, VF.scal_tuple, VF.SZ, List.length_cons, List.length_nil, List.length_set, List.length_append, List.length_map, List.length_range, Int.reduceToNat, Int.reduceLE, Int.reduceLT, Nat.reduceAdd, Nat.reduceLT, Nat.reduceLeDiff, Nat.reduceEqDiff, Nat.zero_add, Nat.zero_lt_succ, Int.toNat_natCast, ne_eq, reduceCtorEq, not_false_eq_true]; done) | (simp only [VF.owned_n, VF.owned_s, VF.scal_int, VF.scal_bool, VF.scal_str, VF.scal_none, VF.scal_list, VF.scal_tuple, VF.SZ, List.length_cons, List.length_nil, List.length_set, List.length_append, List.length_map, List.length_range, Int.reduceToNat, Int.reduceLE, Int.reduceLT, Nat.reduceAdd, Nat.reduceLT, Nat.reduceLeDiff, Nat.reduceEqDiff, Nat.zero_add, Nat.zero_lt_succ, Int.toNat_natCast, ne_eq, reduceCtorEq, not_false_eq_true]; first | assumption | omega) | decide | omega)) only [VF.sSq_k, VF.srB_nx, VF.srB_rt, VF.srB_rz, VF.srB_bk, VF.srB_ct, VF.sIf_k, VF.tsB_ok, VF.tsB_rz, VF.sFor_k, VF.gsB_ok, VF.gsB_rz, VF.sDrop_k, VF.sRet_k, VF.sAsg_k, VF.sAsgT_k, VF.sRz_k, VF.esB_ok, VF.esB_rz, VF.put_int, VF.put_bool, VF.put_str, VF.put_none, VF.put_0, VF.put_listn, VF.put_list1, VF.put_tupn, VF.put_tup1, VF.sRetV_k, VF.retVK_ow, VF.retVK_fz, VF.sApp_k, VF.sAppK_k, VF.appD_k, VF.appK_n, VF.appK_s, VF.sAppV_k, VF.sAppVK_ow, VF.sAppVK_fz, VF.sSet_k, VF.sSetK_k, VF.setK_k, VF.setD_k, VF.setDK_n, VF.setDK_s, VF.sNx, VF.sBk, VF.sCt, VF.sTry_k, VF.tryK_nx, VF.drp_fz, VF.drp_no, VF.drp_ow, VF.excD_s, VF.excD_n, VF.lv0_exc, VF.isXD_none, List.map_cons, List.map_nil, VF.retR_rt, VF.retR_nx, VF.retR_rz, VF.retOf_0, VF.retOf_1, VF.retK_k, VF.arg0, VF.evS_0, VF.evS_1, VF.evSJ_k, VF.esK0_n, VF.esK0_s, VF.esK0_rz, VF.esK1_n, VF.esK1_s, VF.evT_0, VF.evT_1, VF.evTJ_k, VF.tsK0_k, VF.tsK0_rz, VF.tsK1_k, VF.evG_0, VF.evG_1, VF.evGJ_k, VF.gsK0_t, VF.gsK0_f, VF.gsK1_t, VF.frzF_cons, VF.frzF_nil, VF.envF_cons, VF.envF_nil, VF.fr1_false, VF.fr1_fz, VF.fr1_no, VF.fr1_ow, VF.en1_fz, VF.en1_no, VF.en1_ow, VF.en1_own, VF.erB_ok, VF.erB_rz, VF.arB_ok, VF.arB_rz, VF.irB_ok, VF.irB_rz, VF.trB_ok, VF.trB_rz, VF.obB_ok, VF.gaB_ok, VF.gaB_rz, VF.c1_k, VF.c2_k, VF.c2'_k, VF.c3_k, VF.c4_k, VF.c4'_k, VF.c5_k, VF.c6_k, VF.c7_k, VF.c8_k, VF.c9_k, VF.c10_k, VF.c11_k, VF.c11'_k, VF.c12_k, VF.c13_k, VF.c13'_k, VF.c13''_k, VF.c14_k, VF.c15_k, VF.c16_k, VF.c17_k, VF.c18_k, VF.c19_k, VF.c20_k, VF.c21_k, VF.c22_k, VF.c23_k, VF.c24_k, VF.c25_k, VF.k1_k, VF.k1'_k, VF.k2_k, VF.k3_k, VF.k4_k, VF.eVar_k, VF.varK_k, VF.eC_k, VF.eOp1_k, VF.eOp2_k, VF.erO_k, VF.eCall_k, VF.aNil_k, VF.aCons_k, VF.eLst_k, VF.eTup_k, VF.eIf_k, VF.eAnd_k, VF.eOr_k, VF.eNot_k, VF.andK_k, VF.orK_k, VF.notK_k, VF.eCh_k, VF.chK_k, VF.eBd_none, VF.eBd_some, VF.bdK_k, VF.eSl_k, VF.uNil_k, VF.uCons_k, VF.uIo_k, VF.uPerm_k, VF.permL, VF.eUser_k, VF.usrK_none, VF.usrK_some, VF.usrJ_k, eq_self, VF.sTest_k, VF.tBool_k, VF.sTru_k, VF.tTru_bool, VF.tTru_int, VF.tTru_list, VF.tTru_none, VF.sNot_k, VF.sAnd_k, VF.sOr_k, VF.sYes_k, VF.gIter_k, VF.gSeq_list, VF.gSeq_tuple, VF.gArgs_k, VF.gaK_k, VF.eLc_k, VF.lcK_k, VF.iiD_k, VF.icD_if, VF.ibD_k, VF.intD_int, VF.intD_bool, VF.addD_int, VF.negD_k, VF.cMod_k, VF.cDiv_k, VF.ixD_list, VF.ixD_tuple, VF.itD_k, VF.ixN_pos, VF.atI_pos, VF.lv0_int, VF.lv0_bool, VF.lv0_str, VF.lv0_none, VF.lv0_list, VF.lv0_tuple, VF.scal_int, VF.scal_bool, VF.scal_str, VF.scal_none, VF.scal_list, VF.scal_tuple, VF.neD_int, VF.eqD_int, VF.rng1_if, VF.rng2_if, VF.enumG_k, VF.zipG_k, Int.toNat_natCast, VF.notND_none, VF.notND_int, VF.notND_bool, VF.notND_str, VF.notND_list, VF.notND_tuple, VF.isND_none, VF.isND_int, VF.isND_list, VF.isND_tuple, VF.isND_exc, VF.eIsa_k, VF.lenD_list, VF.lenD_tuple, beq_self_eq_true, VF.slD_k, VF.cut_tail, VF.lzD_k, VF.wipeE, VF.lmin_nn, VF.up_n, VF.up_s, VF.lmin_ns, VF.lmin_sn, VF.lmin_ss, VF.owned_n, VF.owned_s, List.contains_cons, List.contains_nil, List.getElem?_cons_zero, List.getElem?_cons_succ, List.getElem?_nil, List.set_cons_zero, List.set_cons_succ, List.length_cons, List.length_nil, List.append_nil, List.cons_append, List.nil_append, List.replicate_succ, List.replicate_zero, Option.some.injEq, Bool.and_true, Bool.true_and, Bool.and_false, Bool.false_and, Bool.or_false, Bool.false_or, Bool.or_true, Bool.true_or, Bool.not_true, Bool.not_false, Nat.reduceBEq, Nat.reduceAdd, Nat.reduceSub, Nat.reduceLeDiff, Nat.reduceEqDiff, Nat.reduceLT, Int.reduceToNat, decide_true, decide_false, ↓reduceIte, reduceCtorEq, Bool.false_eq_true, Nat.zero_add, B__law_right_1, lv0_web, t, reprD_k ok, nn]
include hw hz
theorem told_at {d : D} {rest : List D} (hb : BadAt n c ps d) : fnM none 4 F__law_told [some (webD n c), some (.list (plD ps ++ d :: rest))] none = .ok none (.str (PyData.shown (.list [.str "walk", .int (ps.length : Nat)]))) none :=
  v_told_walk (v_len_rz hd rfl (v_check_walk_bad hw hz hb)) rfl (lenS hz) (by decide)
theorem step2 {d : D} (h0 : ps.getLast? = some x) (hb : BadAt n c ps d) (hn : ∃ β, neD d (.int (x : Nat)) = some (none, .bool β) ∧ (β = true → kindD d ≠ none ∧ isPl d n = false)) {s0 s2 s3 s4 s6 s7 s8 s10 s11 : Slot} :
    B__law_right_2 [s0, .fz (webD n c), s2, s3, s4, .fz (.list (plD ps)), s6, s7, s8, .fz d, s10, s11] = .nx [s0, .fz (webD n c), s2, s3, s4, .fz (.list (plD ps)), s6, s7, s8, .fz d, s10, s11] := by
  obtain ⟨β, h1, h2⟩ := hn
  have t := told_at (rest := [.none]) hd hw hz hb
  have ok : okShow (.list [.str "walk", .int (ps.length : Nat)]) = true := sh_word "walk" walk_w (lenS hz) (by decide)
  have nn := neD_same (x := PyData.shown (.list [.str "walk", .int (ps.length : Nat)])) (sh_tell "walk" walk_w (lenS hz) (by decide)).cp
  have nn0 := neD_same (x := PyData.shown (.list [.str "walk", .int 0])) (by decide +kernel)
  have ok0 : okShow (.list [.str "walk", .int 0]) = true := by decide +kernel
  have m : atI (plD ps) (-1) = some (.int (x : Nat)) := by
    obtain ⟨qs, rfl⟩ := List.getLast?_eq_some_iff.mp h0
    rw [← plD_snoc]; exact L2.atI_last _ _
  have l1 : (plD ps).length + 2 ≤ SZ := by rw [pl_len]; show _ ≤ 1000000; omega
  have l2 : 1 + (plD ps).length ≤ SZ := by rw [pl_len]; show _ ≤ 1000000; omega
  cases β with
  | false => simp (disch := (first | assumption | (simp only [VF.owned_n, VF.owned_s, VF.scal_int, VF.scal_bool, VF.scal_str, VF.scal_none, VF.scal_list, VF.scal_tuple, VF.SZ, List.length_cons, List.length_nil, List.length_set, List.length_append, List.length_map, List.length_range, Int.reduceToNat, Int.reduceLE, Int.reduceLT, Nat.reduceAdd, Nat.reduceLT, Nat.reduceLeDiff, Nat.reduceEqDiff, Nat.zero_add, Nat.zero_lt_succ, Int.toNat_natCast, ne_eq, reduceCtorEq, not_false_eq_true]; done) | (simp only [VF.owned_n, VF.owned_s, VF.scal_int, VF.scal_bool, VF.scal_str, VF.scal_none, VF.scal_list, VF.scal_tuple, VF.SZ, List.length_cons, List.length_nil, List.length_set, List.length_append, List.length_map, List.length_range, Int.reduceToNat, Int.reduceLE, Int.reduceLT, Nat.reduceAdd, Nat.reduceLT, Nat.reduceLeDiff, Nat.reduceEqDiff, Nat.zero_add, Nat.zero_lt_succ, Int.toNat_natCast, ne_eq, reduceCtorEq, not_false_eq_true]; first | assumption | omega) | decide | omega)) only [VF.sSq_k, VF.srB_nx, VF.srB_rt, VF.srB_rz, VF.srB_bk, VF.srB_ct, VF.sIf_k, VF.tsB_ok, VF.tsB_rz, VF.sFor_k, VF.gsB_ok, VF.gsB_rz, VF.sDrop_k, VF.sRet_k, VF.sAsg_k, VF.sAsgT_k, VF.sRz_k, VF.esB_ok, VF.esB_rz, VF.put_int, VF.put_bool, VF.put_str, VF.put_none, VF.put_0, VF.put_listn, VF.put_list1, VF.put_tupn, VF.put_tup1, VF.sRetV_k, VF.retVK_ow, VF.retVK_fz, VF.sApp_k, VF.sAppK_k, VF.appD_k, VF.appK_n, VF.appK_s, VF.sAppV_k, VF.sAppVK_ow, VF.sAppVK_fz, VF.sSet_k, VF.sSetK_k, VF.setK_k, VF.setD_k, VF.setDK_n, VF.setDK_s, VF.sNx, VF.sBk, VF.sCt, VF.sTry_k, VF.tryK_nx, VF.drp_fz, VF.drp_no, VF.drp_ow, VF.excD_s, VF.excD_n, VF.lv0_exc, VF.isXD_none, List.map_cons, List.map_nil, VF.retR_rt, VF.retR_nx, VF.retR_rz, VF.retOf_0, VF.retOf_1, VF.retK_k, VF.arg0, VF.evS_0, VF.evS_1, VF.evSJ_k, VF.esK0_n, VF.esK0_s, VF.esK0_rz, VF.esK1_n, VF.esK1_s, VF.evT_0, VF.evT_1, VF.evTJ_k, VF.tsK0_k, VF.tsK0_rz, VF.tsK1_k, VF.evG_0, VF.evG_1, VF.evGJ_k, VF.gsK0_t, VF.gsK0_f, VF.gsK1_t, VF.frzF_cons, VF.frzF_nil, VF.envF_cons, VF.envF_nil, VF.fr1_false, VF.fr1_fz, VF.fr1_no, VF.fr1_ow, VF.en1_fz, VF.en1_no, VF.en1_ow, VF.en1_own, VF.erB_ok, VF.erB_rz, VF.arB_ok, VF.arB_rz, VF.irB_ok, VF.irB_rz, VF.trB_ok, VF.trB_rz, VF.obB_ok, VF.gaB_ok, VF.gaB_rz, VF.c1_k, VF.c2_k, VF.c2'_k, VF.c3_k, VF.c4_k, VF.c4'_k, VF.c5_k, VF.c6_k, VF.c7_k, VF.c8_k, VF.c9_k, VF.c10_k, VF.c11_k, VF.c11'_k, VF.c12_k, VF.c13_k, VF.c13'_k, VF.c13''_k, VF.c14_k, VF.c15_k, VF.c16_k, VF.c17_k, VF.c18_k, VF.c19_k, VF.c20_k, VF.c21_k, VF.c22_k, VF.c23_k, VF.c24_k, VF.c25_k, VF.k1_k, VF.k1'_k, VF.k2_k, VF.k3_k, VF.k4_k, VF.eVar_k, VF.varK_k, VF.eC_k, VF.eOp1_k, VF.eOp2_k, VF.erO_k, VF.eCall_k, VF.aNil_k, VF.aCons_k, VF.eLst_k, VF.eTup_k, VF.eIf_k, VF.eAnd_k, VF.eOr_k, VF.eNot_k, VF.andK_k, VF.orK_k, VF.notK_k, VF.eCh_k, VF.chK_k, VF.eBd_none, VF.eBd_some, VF.bdK_k, VF.eSl_k, VF.uNil_k, VF.uCons_k, VF.uIo_k, VF.uPerm_k, VF.permL, VF.eUser_k, VF.usrK_none, VF.usrK_some, VF.usrJ_k, eq_self, VF.sTest_k, VF.tBool_k, VF.sTru_k, VF.tTru_bool, VF.tTru_int, VF.tTru_list, VF.tTru_none, VF.sNot_k, VF.sAnd_k, VF.sOr_k, VF.sYes_k, VF.gIter_k, VF.gSeq_list, VF.gSeq_tuple, VF.gArgs_k, VF.gaK_k, VF.eLc_k, VF.lcK_k, VF.iiD_k, VF.icD_if, VF.ibD_k, VF.intD_int, VF.intD_bool, VF.addD_int, VF.negD_k, VF.cMod_k, VF.cDiv_k, VF.ixD_list, VF.ixD_tuple, VF.itD_k, VF.ixN_pos, VF.atI_pos, VF.lv0_int, VF.lv0_bool, VF.lv0_str, VF.lv0_none, VF.lv0_list, VF.lv0_tuple, VF.scal_int, VF.scal_bool, VF.scal_str, VF.scal_none, VF.scal_list, VF.scal_tuple, VF.neD_int, VF.eqD_int, VF.rng1_if, VF.rng2_if, VF.enumG_k, VF.zipG_k, Int.toNat_natCast, VF.notND_none, VF.notND_int, VF.notND_bool, VF.notND_str, VF.notND_list, VF.notND_tuple, VF.isND_none, VF.isND_int, VF.isND_list, VF.isND_tuple, VF.isND_exc, VF.eIsa_k, VF.lenD_list, VF.lenD_tuple, beq_self_eq_true, VF.slD_k, VF.cut_tail, VF.lzD_k, VF.wipeE, VF.lmin_nn, VF.up_n, VF.up_s, VF.lmin_ns, VF.lmin_sn, VF.lmin_ss, VF.owned_n, VF.owned_s, List.contains_cons, List.contains_nil, List.getElem?_cons_zero, List.getElem?_cons_succ, List.getElem?_nil, List.set_cons_zero, List.set_cons_succ, List.length_cons, List.length_nil, List.append_nil, List.cons_append, List.nil_append, List.replicate_succ, List.replicate_zero, Option.some.injEq, Bool.and_true, Bool.true_and, Bool.and_false, Bool.false_and, Bool.or_false, Bool.false_or, Bool.or_true, Bool.true_or, Bool.not_true, Bool.not_false, Nat.reduceBEq, Nat.reduceAdd, Nat.reduceSub, Nat.reduceLeDiff, Nat.reduceEqDiff, Nat.reduceLT, Int.reduceToNat, decide_true, decide_false, ↓reduceIte, reduceCtorEq, Bool.false_eq_true, Nat.zero_add, B__law_right_2, lv0_web, addD_list, pl_len, t, reprD_k ok, nn, m, h1, l1]
  | true =>
    obtain ⟨k1, k2⟩ := h2 rfl
    have t2 : fnM none 4 F__law_told [some (webD n c), some (.list (d :: plD ps))] none = .ok none (.str (PyData.shown (.list [.str "walk", .int 0]))) none :=
      told_at (ps := []) (rest := plD ps) hd ⟨fun p hp => (nomatch hp), fun i a b h => (nomatch h)⟩ (by decide) (.inl ⟨k1, k2⟩)
    simp (disch := (first | assumption | (simp only [VF.owned_n, VF.owned_s, VF.scal_int, VF.scal_bool, VF.scal_str, VF.scal_none, VF.scal_list, VF.scal_tuple, VF.SZ, List.length_cons, List.length_nil, List.length_set, List.length_append, List.length_map, List.length_range, Int.reduceToNat, Int.reduceLE, Int.reduceLT, Nat.reduceAdd, Nat.reduceLT, Nat.reduceLeDiff, Nat.reduceEqDiff, Nat.zero_add, Nat.zero_lt_succ, Int.toNat_natCast, ne_eq, reduceCtorEq, not_false_eq_true]; done) | (simp only [VF.owned_n, VF.owned_s, VF.scal_int, VF.scal_bool, VF.scal_str, VF.scal_none, VF.scal_list, VF.scal_tuple, VF.SZ, List.length_cons, List.length_nil, List.length_set, List.length_append, List.length_map, List.length_range, Int.reduceToNat, Int.reduceLE, Int.reduceLT, Nat.reduceAdd, Nat.reduceLT, Nat.reduceLeDiff, Nat.reduceEqDiff, Nat.zero_add, Nat.zero_lt_succ, Int.toNat_natCast, ne_eq, reduceCtorEq, not_false_eq_true]; first | assumption | omega) | decide | omega)) only [VF.sSq_k, VF.srB_nx, VF.srB_rt, VF.srB_rz, VF.srB_bk, VF.srB_ct, VF.sIf_k, VF.tsB_ok, VF.tsB_rz, VF.sFor_k, VF.gsB_ok, VF.gsB_rz, VF.sDrop_k, VF.sRet_k, VF.sAsg_k, VF.sAsgT_k, VF.sRz_k, VF.esB_ok, VF.esB_rz, VF.put_int, VF.put_bool, VF.put_str, VF.put_none, VF.put_0, VF.put_listn, VF.put_list1, VF.put_tupn, VF.put_tup1, VF.sRetV_k, VF.retVK_ow, VF.retVK_fz, VF.sApp_k, VF.sAppK_k, VF.appD_k, VF.appK_n, VF.appK_s, VF.sAppV_k, VF.sAppVK_ow, VF.sAppVK_fz, VF.sSet_k, VF.sSetK_k, VF.setK_k, VF.setD_k, VF.setDK_n, VF.setDK_s, VF.sNx, VF.sBk, VF.sCt, VF.sTry_k, VF.tryK_nx, VF.drp_fz, VF.drp_no, VF.drp_ow, VF.excD_s, VF.excD_n, VF.lv0_exc, VF.isXD_none, List.map_cons, List.map_nil, VF.retR_rt, VF.retR_nx, VF.retR_rz, VF.retOf_0, VF.retOf_1, VF.retK_k, VF.arg0, VF.evS_0, VF.evS_1, VF.evSJ_k, VF.esK0_n, VF.esK0_s, VF.esK0_rz, VF.esK1_n, VF.esK1_s, VF.evT_0, VF.evT_1, VF.evTJ_k, VF.tsK0_k, VF.tsK0_rz, VF.tsK1_k, VF.evG_0, VF.evG_1, VF.evGJ_k, VF.gsK0_t, VF.gsK0_f, VF.gsK1_t, VF.frzF_cons, VF.frzF_nil, VF.envF_cons, VF.envF_nil, VF.fr1_false, VF.fr1_fz, VF.fr1_no, VF.fr1_ow, VF.en1_fz, VF.en1_no, VF.en1_ow, VF.en1_own, VF.erB_ok, VF.erB_rz, VF.arB_ok, VF.arB_rz, VF.irB_ok, VF.irB_rz, VF.trB_ok, VF.trB_rz, VF.obB_ok, VF.gaB_ok, VF.gaB_rz, VF.c1_k, VF.c2_k, VF.c2'_k, VF.c3_k, VF.c4_k, VF.c4'_k, VF.c5_k, VF.c6_k, VF.c7_k, VF.c8_k, VF.c9_k, VF.c10_k, VF.c11_k, VF.c11'_k, VF.c12_k, VF.c13_k, VF.c13'_k, VF.c13''_k, VF.c14_k, VF.c15_k, VF.c16_k, VF.c17_k, VF.c18_k, VF.c19_k, VF.c20_k, VF.c21_k, VF.c22_k, VF.c23_k, VF.c24_k, VF.c25_k, VF.k1_k, VF.k1'_k, VF.k2_k, VF.k3_k, VF.k4_k, VF.eVar_k, VF.varK_k, VF.eC_k, VF.eOp1_k, VF.eOp2_k, VF.erO_k, VF.eCall_k, VF.aNil_k, VF.aCons_k, VF.eLst_k, VF.eTup_k, VF.eIf_k, VF.eAnd_k, VF.eOr_k, VF.eNot_k, VF.andK_k, VF.orK_k, VF.notK_k, VF.eCh_k, VF.chK_k, VF.eBd_none, VF.eBd_some, VF.bdK_k, VF.eSl_k, VF.uNil_k, VF.uCons_k, VF.uIo_k, VF.uPerm_k, VF.permL, VF.eUser_k, VF.usrK_none, VF.usrK_some, VF.usrJ_k, eq_self, VF.sTest_k, VF.tBool_k, VF.sTru_k, VF.tTru_bool, VF.tTru_int, VF.tTru_list, VF.tTru_none, VF.sNot_k, VF.sAnd_k, VF.sOr_k, VF.sYes_k, VF.gIter_k, VF.gSeq_list, VF.gSeq_tuple, VF.gArgs_k, VF.gaK_k, VF.eLc_k, VF.lcK_k, VF.iiD_k, VF.icD_if, VF.ibD_k, VF.intD_int, VF.intD_bool, VF.addD_int, VF.negD_k, VF.cMod_k, VF.cDiv_k, VF.ixD_list, VF.ixD_tuple, VF.itD_k, VF.ixN_pos, VF.atI_pos, VF.lv0_int, VF.lv0_bool, VF.lv0_str, VF.lv0_none, VF.lv0_list, VF.lv0_tuple, VF.scal_int, VF.scal_bool, VF.scal_str, VF.scal_none, VF.scal_list, VF.scal_tuple, VF.neD_int, VF.eqD_int, VF.rng1_if, VF.rng2_if, VF.enumG_k, VF.zipG_k, Int.toNat_natCast, VF.notND_none, VF.notND_int, VF.notND_bool, VF.notND_str, VF.notND_list, VF.notND_tuple, VF.isND_none, VF.isND_int, VF.isND_list, VF.isND_tuple, VF.isND_exc, VF.eIsa_k, VF.lenD_list, VF.lenD_tuple, beq_self_eq_true, VF.slD_k, VF.cut_tail, VF.lzD_k, VF.wipeE, VF.lmin_nn, VF.up_n, VF.up_s, VF.lmin_ns, VF.lmin_sn, VF.lmin_ss, VF.owned_n, VF.owned_s, List.contains_cons, List.contains_nil, List.getElem?_cons_zero, List.getElem?_cons_succ, List.getElem?_nil, List.set_cons_zero, List.set_cons_succ, List.length_cons, List.length_nil, List.append_nil, List.cons_append, List.nil_append, List.replicate_succ, List.replicate_zero, Option.some.injEq, Bool.and_true, Bool.true_and, Bool.and_false, Bool.false_and, Bool.or_false, Bool.false_or, Bool.or_true, Bool.true_or, Bool.not_true, Bool.not_false, Nat.reduceBEq, Nat.reduceAdd, Nat.reduceSub, Nat.reduceLeDiff, Nat.reduceEqDiff, Nat.reduceLT, Int.reduceToNat, decide_true, decide_false, ↓reduceIte, reduceCtorEq, Bool.false_eq_true, Nat.zero_add, B__law_right_2, lv0_web, addD_list, pl_len, t, t2, reprD_k ok, reprD_k ok0, nn, nn0, m, h1, l1, l2]
theorem step3 {y : Nat} (h0 : ps.getLast? = some x) (hy : y < n) (hc : c x y = none) {s0 s2 s3 s4 s6 s7 s8 s9 s11 : Slot} :
    B__law_right_3 [s0, .fz (webD n c), s2, s3, s4, .fz (.list (plD ps)), s6, s7, s8, s9, .fz (.int (y : Nat)), s11] = .nx [s0, .fz (webD n c), s2, s3, s4, .fz (.list (plD ps)), s6, s7, s8, s9, .fz (.int (y : Nat)), s11] := by
  have t := told_at (rest := []) hd hw hz (.inr ⟨y, x, rfl, hy, (fun z => by rw [z] at h0; cases h0), h0, by rw [hc]; simp⟩ : BadAt n c ps (.int (y : Nat)))
  have ok : okShow (.list [.str "walk", .int (ps.length : Nat)]) = true := sh_word "walk" walk_w (lenS hz) (by decide)
  have nn := neD_same (x := PyData.shown (.list [.str "walk", .int (ps.length : Nat)])) (sh_tell "walk" walk_w (lenS hz) (by decide)).cp
  have nn0 := neD_same (x := PyData.shown (.list [.str "walk", .int 0])) (by decide +kernel)
  have l1 : (plD ps).length + 1 ≤ SZ := by rw [pl_len]; show _ ≤ 1000000; omega
  simp (disch := (first | assumption | (simp only [VF.owned_n, VF.owned_s, VF.scal_int, VF.scal_bool, VF.scal_str, VF.scal_none, VF.scal_list, VF.scal_tuple, VF.SZ, List.length_cons, List.length_nil, List.length_set, List.length_append, List.length_map, List.length_range, Int.reduceToNat, Int.reduceLE, Int.reduceLT, Nat.reduceAdd, Nat.reduceLT, Nat.reduceLeDiff, Nat.reduceEqDiff, Nat.zero_add, Nat.zero_lt_succ, Int.toNat_natCast, ne_eq, reduceCtorEq, not_false_eq_true]; done) | (simp only [VF.owned_n, VF.owned_s, VF.scal_int, VF.scal_bool, VF.scal_str, VF.scal_none, VF.scal_list, VF.scal_tuple, VF.SZ, List.length_cons, List.length_nil, List.length_set, List.length_append, List.length_map, List.length_range, Int.reduceToNat, Int.reduceLE, Int.reduceLT, Nat.reduceAdd, Nat.reduceLT, Nat.reduceLeDiff, Nat.reduceEqDiff, Nat.zero_add, Nat.zero_lt_succ, Int.toNat_natCast, ne_eq, reduceCtorEq, not_false_eq_true]; first | assumption | omega) | decide | omega)) only [VF.sSq_k, VF.srB_nx, VF.srB_rt, VF.srB_rz, VF.srB_bk, VF.srB_ct, VF.sIf_k, VF.tsB_ok, VF.tsB_rz, VF.sFor_k, VF.gsB_ok, VF.gsB_rz, VF.sDrop_k, VF.sRet_k, VF.sAsg_k, VF.sAsgT_k, VF.sRz_k, VF.esB_ok, VF.esB_rz, VF.put_int, VF.put_bool, VF.put_str, VF.put_none, VF.put_0, VF.put_listn, VF.put_list1, VF.put_tupn, VF.put_tup1, VF.sRetV_k, VF.retVK_ow, VF.retVK_fz, VF.sApp_k, VF.sAppK_k, VF.appD_k, VF.appK_n, VF.appK_s, VF.sAppV_k, VF.sAppVK_ow, VF.sAppVK_fz, VF.sSet_k, VF.sSetK_k, VF.setK_k, VF.setD_k, VF.setDK_n, VF.setDK_s, VF.sNx, VF.sBk, VF.sCt, VF.sTry_k, VF.tryK_nx, VF.drp_fz, VF.drp_no, VF.drp_ow, VF.excD_s, VF.excD_n, VF.lv0_exc, VF.isXD_none, List.map_cons, List.map_nil, VF.retR_rt, VF.retR_nx, VF.retR_rz, VF.retOf_0, VF.retOf_1, VF.retK_k, VF.arg0, VF.evS_0, VF.evS_1, VF.evSJ_k, VF.esK0_n, VF.esK0_s, VF.esK0_rz, VF.esK1_n, VF.esK1_s, VF.evT_0, VF.evT_1, VF.evTJ_k, VF.tsK0_k, VF.tsK0_rz, VF.tsK1_k, VF.evG_0, VF.evG_1, VF.evGJ_k, VF.gsK0_t, VF.gsK0_f, VF.gsK1_t, VF.frzF_cons, VF.frzF_nil, VF.envF_cons, VF.envF_nil, VF.fr1_false, VF.fr1_fz, VF.fr1_no, VF.fr1_ow, VF.en1_fz, VF.en1_no, VF.en1_ow, VF.en1_own, VF.erB_ok, VF.erB_rz, VF.arB_ok, VF.arB_rz, VF.irB_ok, VF.irB_rz, VF.trB_ok, VF.trB_rz, VF.obB_ok, VF.gaB_ok, VF.gaB_rz, VF.c1_k, VF.c2_k, VF.c2'_k, VF.c3_k, VF.c4_k, VF.c4'_k, VF.c5_k, VF.c6_k, VF.c7_k, VF.c8_k, VF.c9_k, VF.c10_k, VF.c11_k, VF.c11'_k, VF.c12_k, VF.c13_k, VF.c13'_k, VF.c13''_k, VF.c14_k, VF.c15_k, VF.c16_k, VF.c17_k, VF.c18_k, VF.c19_k, VF.c20_k, VF.c21_k, VF.c22_k, VF.c23_k, VF.c24_k, VF.c25_k, VF.k1_k, VF.k1'_k, VF.k2_k, VF.k3_k, VF.k4_k, VF.eVar_k, VF.varK_k, VF.eC_k, VF.eOp1_k, VF.eOp2_k, VF.erO_k, VF.eCall_k, VF.aNil_k, VF.aCons_k, VF.eLst_k, VF.eTup_k, VF.eIf_k, VF.eAnd_k, VF.eOr_k, VF.eNot_k, VF.andK_k, VF.orK_k, VF.notK_k, VF.eCh_k, VF.chK_k, VF.eBd_none, VF.eBd_some, VF.bdK_k, VF.eSl_k, VF.uNil_k, VF.uCons_k, VF.uIo_k, VF.uPerm_k, VF.permL, VF.eUser_k, VF.usrK_none, VF.usrK_some, VF.usrJ_k, eq_self, VF.sTest_k, VF.tBool_k, VF.sTru_k, VF.tTru_bool, VF.tTru_int, VF.tTru_list, VF.tTru_none, VF.sNot_k, VF.sAnd_k, VF.sOr_k, VF.sYes_k, VF.gIter_k, VF.gSeq_list, VF.gSeq_tuple, VF.gArgs_k, VF.gaK_k, VF.eLc_k, VF.lcK_k, VF.iiD_k, VF.icD_if, VF.ibD_k, VF.intD_int, VF.intD_bool, VF.addD_int, VF.negD_k, VF.cMod_k, VF.cDiv_k, VF.ixD_list, VF.ixD_tuple, VF.itD_k, VF.ixN_pos, VF.atI_pos, VF.lv0_int, VF.lv0_bool, VF.lv0_str, VF.lv0_none, VF.lv0_list, VF.lv0_tuple, VF.scal_int, VF.scal_bool, VF.scal_str, VF.scal_none, VF.scal_list, VF.scal_tuple, VF.neD_int, VF.eqD_int, VF.rng1_if, VF.rng2_if, VF.enumG_k, VF.zipG_k, Int.toNat_natCast, VF.notND_none, VF.notND_int, VF.notND_bool, VF.notND_str, VF.notND_list, VF.notND_tuple, VF.isND_none, VF.isND_int, VF.isND_list, VF.isND_tuple, VF.isND_exc, VF.eIsa_k, VF.lenD_list, VF.lenD_tuple, beq_self_eq_true, VF.slD_k, VF.cut_tail, VF.lzD_k, VF.wipeE, VF.lmin_nn, VF.up_n, VF.up_s, VF.lmin_ns, VF.lmin_sn, VF.lmin_ss, VF.owned_n, VF.owned_s, List.contains_cons, List.contains_nil, List.getElem?_cons_zero, List.getElem?_cons_succ, List.getElem?_nil, List.set_cons_zero, List.set_cons_succ, List.length_cons, List.length_nil, List.append_nil, List.cons_append, List.nil_append, List.replicate_succ, List.replicate_zero, Option.some.injEq, Bool.and_true, Bool.true_and, Bool.and_false, Bool.false_and, Bool.or_false, Bool.false_or, Bool.or_true, Bool.true_or, Bool.not_true, Bool.not_false, Nat.reduceBEq, Nat.reduceAdd, Nat.reduceSub, Nat.reduceLeDiff, Nat.reduceEqDiff, Nat.reduceLT, Int.reduceToNat, decide_true, decide_false, ↓reduceIte, reduceCtorEq, Bool.false_eq_true, Nat.zero_add, B__law_right_3, lv0_web, addD_list, pl_len, t, reprD_k ok, nn, l1]
end
theorem step4 {w p : D} (t : fnM none 4 F__law_told [some w, some .none] none = .ok none (.str (tellD "web" p).shown) none) (ok : okShow (tellD "web" p) = true) (cp : cpOk (tellD "web" p).shown = true) {s0 s1 s2 s3 s4 s5 s6 s7 s8 s10 : Slot} :
    B__law_right_4 [s0, s1, s2, s3, s4, s5, s6, s7, s8, .fz w, s10, .fz p] = .nx [s0, s1, s2, s3, s4, s5, s6, s7, s8, .fz w, s10, .fz p] := by
  have nn := neD_same cp
  unfold tellD at t ok nn
  simp (disch := (first | assumption | (simp only [VF.owned_n, VF.owned_s, VF.scal_int, VF.scal_bool, VF.scal_str, VF.scal_none, VF.scal_list, VF.scal_tuple, VF.SZ, List.length_cons, List.length_nil, List.length_set, List.length_append, List.length_map, List.length_range, Int.reduceToNat, Int.reduceLE, Int.reduceLT, Nat.reduceAdd, Nat.reduceLT, Nat.reduceLeDiff, Nat.reduceEqDiff, Nat.zero_add, Nat.zero_lt_succ, Int.toNat_natCast, ne_eq, reduceCtorEq, not_false_eq_true]; done) | (simp only [VF.owned_n, VF.owned_s, VF.scal_int, VF.scal_bool, VF.scal_str, VF.scal_none, VF.scal_list, VF.scal_tuple, VF.SZ, List.length_cons, List.length_nil, List.length_set, List.length_append, List.length_map, List.length_range, Int.reduceToNat, Int.reduceLE, Int.reduceLT, Nat.reduceAdd, Nat.reduceLT, Nat.reduceLeDiff, Nat.reduceEqDiff, Nat.zero_add, Nat.zero_lt_succ, Int.toNat_natCast, ne_eq, reduceCtorEq, not_false_eq_true]; first | assumption | omega) | decide | omega)) only [VF.sSq_k, VF.srB_nx, VF.srB_rt, VF.srB_rz, VF.srB_bk, VF.srB_ct, VF.sIf_k, VF.tsB_ok, VF.tsB_rz, VF.sFor_k, VF.gsB_ok, VF.gsB_rz, VF.sDrop_k, VF.sRet_k, VF.sAsg_k, VF.sAsgT_k, VF.sRz_k, VF.esB_ok, VF.esB_rz, VF.put_int, VF.put_bool, VF.put_str, VF.put_none, VF.put_0, VF.put_listn, VF.put_list1, VF.put_tupn, VF.put_tup1, VF.sRetV_k, VF.retVK_ow, VF.retVK_fz, VF.sApp_k, VF.sAppK_k, VF.appD_k, VF.appK_n, VF.appK_s, VF.sAppV_k, VF.sAppVK_ow, VF.sAppVK_fz, VF.sSet_k, VF.sSetK_k, VF.setK_k, VF.setD_k, VF.setDK_n, VF.setDK_s, VF.sNx, VF.sBk, VF.sCt, VF.sTry_k, VF.tryK_nx, VF.drp_fz, VF.drp_no, VF.drp_ow, VF.excD_s, VF.excD_n, VF.lv0_exc, VF.isXD_none, List.map_cons, List.map_nil, VF.retR_rt, VF.retR_nx, VF.retR_rz, VF.retOf_0, VF.retOf_1, VF.retK_k, VF.arg0, VF.evS_0, VF.evS_1, VF.evSJ_k, VF.esK0_n, VF.esK0_s, VF.esK0_rz, VF.esK1_n, VF.esK1_s, VF.evT_0, VF.evT_1, VF.evTJ_k, VF.tsK0_k, VF.tsK0_rz, VF.tsK1_k, VF.evG_0, VF.evG_1, VF.evGJ_k, VF.gsK0_t, VF.gsK0_f, VF.gsK1_t, VF.frzF_cons, VF.frzF_nil, VF.envF_cons, VF.envF_nil, VF.fr1_false, VF.fr1_fz, VF.fr1_no, VF.fr1_ow, VF.en1_fz, VF.en1_no, VF.en1_ow, VF.en1_own, VF.erB_ok, VF.erB_rz, VF.arB_ok, VF.arB_rz, VF.irB_ok, VF.irB_rz, VF.trB_ok, VF.trB_rz, VF.obB_ok, VF.gaB_ok, VF.gaB_rz, VF.c1_k, VF.c2_k, VF.c2'_k, VF.c3_k, VF.c4_k, VF.c4'_k, VF.c5_k, VF.c6_k, VF.c7_k, VF.c8_k, VF.c9_k, VF.c10_k, VF.c11_k, VF.c11'_k, VF.c12_k, VF.c13_k, VF.c13'_k, VF.c13''_k, VF.c14_k, VF.c15_k, VF.c16_k, VF.c17_k, VF.c18_k, VF.c19_k, VF.c20_k, VF.c21_k, VF.c22_k, VF.c23_k, VF.c24_k, VF.c25_k, VF.k1_k, VF.k1'_k, VF.k2_k, VF.k3_k, VF.k4_k, VF.eVar_k, VF.varK_k, VF.eC_k, VF.eOp1_k, VF.eOp2_k, VF.erO_k, VF.eCall_k, VF.aNil_k, VF.aCons_k, VF.eLst_k, VF.eTup_k, VF.eIf_k, VF.eAnd_k, VF.eOr_k, VF.eNot_k, VF.andK_k, VF.orK_k, VF.notK_k, VF.eCh_k, VF.chK_k, VF.eBd_none, VF.eBd_some, VF.bdK_k, VF.eSl_k, VF.uNil_k, VF.uCons_k, VF.uIo_k, VF.uPerm_k, VF.permL, VF.eUser_k, VF.usrK_none, VF.usrK_some, VF.usrJ_k, eq_self, VF.sTest_k, VF.tBool_k, VF.sTru_k, VF.tTru_bool, VF.tTru_int, VF.tTru_list, VF.tTru_none, VF.sNot_k, VF.sAnd_k, VF.sOr_k, VF.sYes_k, VF.gIter_k, VF.gSeq_list, VF.gSeq_tuple, VF.gArgs_k, VF.gaK_k, VF.eLc_k, VF.lcK_k, VF.iiD_k, VF.icD_if, VF.ibD_k, VF.intD_int, VF.intD_bool, VF.addD_int, VF.negD_k, VF.cMod_k, VF.cDiv_k, VF.ixD_list, VF.ixD_tuple, VF.itD_k, VF.ixN_pos, VF.atI_pos, VF.lv0_int, VF.lv0_bool, VF.lv0_str, VF.lv0_none, VF.lv0_list, VF.lv0_tuple, VF.scal_int, VF.scal_bool, VF.scal_str, VF.scal_none, VF.scal_list, VF.scal_tuple, VF.neD_int, VF.eqD_int, VF.rng1_if, VF.rng2_if, VF.enumG_k, VF.zipG_k, Int.toNat_natCast, VF.notND_none, VF.notND_int, VF.notND_bool, VF.notND_str, VF.notND_list, VF.notND_tuple, VF.isND_none, VF.isND_int, VF.isND_list, VF.isND_tuple, VF.isND_exc, VF.eIsa_k, VF.lenD_list, VF.lenD_tuple, beq_self_eq_true, VF.slD_k, VF.cut_tail, VF.lzD_k, VF.wipeE, VF.lmin_nn, VF.up_n, VF.up_s, VF.lmin_ns, VF.lmin_sn, VF.lmin_ss, VF.owned_n, VF.owned_s, List.contains_cons, List.contains_nil, List.getElem?_cons_zero, List.getElem?_cons_succ, List.getElem?_nil, List.set_cons_zero, List.set_cons_succ, List.length_cons, List.length_nil, List.append_nil, List.cons_append, List.nil_append, List.replicate_succ, List.replicate_zero, Option.some.injEq, Bool.and_true, Bool.true_and, Bool.and_false, Bool.false_and, Bool.or_false, Bool.false_or, Bool.or_true, Bool.true_or, Bool.not_true, Bool.not_false, Nat.reduceBEq, Nat.reduceAdd, Nat.reduceSub, Nat.reduceLeDiff, Nat.reduceEqDiff, Nat.reduceLT, Int.reduceToNat, decide_true, decide_false, ↓reduceIte, reduceCtorEq, Bool.false_eq_true, Nat.zero_add, B__law_right_4, t, reprD_k ok, nn]
/-! the loops -/
section
variable {n : Nat} {c : Nat → Nat → Option Int} {ps : List Nat} {x : Nat} (hd : ∀ x, x < n → c x x = some 0) (hw : IsWalk n c ps) (hz : ps.length ≤ 1000)
include hd
theorem loop1 {ds : List D} (h : ∀ d ∈ ds, noWalk d = true) {s0 s2 s3 s4 s5 s6 s7 s8 s9 s10 s11 : Slot} : ∃ t8, forR (tgN 8) B__law_right_1 ds [s0, .ow false none (webD n c), s2, s3, s4, s5, s6, s7, s8, s9, s10, s11] = .nx [s0, .ow false none (webD n c), s2, s3, s4, s5, s6, s7, t8, s9, s10, s11] := by
  refine forR_to (b := tgN 8) (F := B__law_right_1) (ds := ds) (fun i ρ => ∃ t8, ρ = [s0, .ow false none (webD n c), s2, s3, s4, s5, s6, s7, t8, s9, s10, s11]) ⟨s8, rfl⟩ ?_ ?_
  · rintro i ρ d hi ⟨t8, rfl⟩
    exact ⟨_, _, rfl, .inl (step1 hd (h d (List.mem_of_getElem? hi))), .fz d, rfl⟩
  · rintro ρ' ⟨t8, rfl⟩ e
    exact ⟨t8, e⟩
include hw hz
theorem loop2 {ds : List D} (h0 : ps.getLast? = some x) (h : ∀ d ∈ ds, BadAt n c ps d ∧ ∃ β, neD d (.int (x : Nat)) = some (none, .bool β) ∧ (β = true → kindD d ≠ none ∧ isPl d n = false)) {s0 s2 s3 s4 s6 s7 s8 s9 s10 s11 : Slot} :
    ∃ t9, forR (tgN 9) B__law_right_2 ds [s0, .fz (webD n c), s2, s3, s4, .fz (.list (plD ps)), s6, s7, s8, s9, s10, s11] = .nx [s0, .fz (webD n c), s2, s3, s4, .fz (.list (plD ps)), s6, s7, s8, t9, s10, s11] := by
  refine forR_to (b := tgN 9) (F := B__law_right_2) (ds := ds) (fun i ρ => ∃ t9, ρ = [s0, .fz (webD n c), s2, s3, s4, .fz (.list (plD ps)), s6, s7, s8, t9, s10, s11]) ⟨s9, rfl⟩ ?_ ?_
  · rintro i ρ d hi ⟨t9, rfl⟩
    obtain ⟨h1, h2⟩ := h d (List.mem_of_getElem? hi)
    exact ⟨_, _, rfl, .inl (step2 hd hw hz h0 h1 h2), .fz d, rfl⟩
  · rintro ρ' ⟨t9, rfl⟩ e
    exact ⟨t9, e⟩
theorem loop3 {ys : List Nat} (h0 : ps.getLast? = some x) (h : ∀ y ∈ ys, y < n ∧ c x y = none) {s0 s2 s3 s4 s6 s7 s8 s9 s10 s11 : Slot} :
    ∃ t10, forR (tgN 10) B__law_right_3 (plD ys) [s0, .fz (webD n c), s2, s3, s4, .fz (.list (plD ps)), s6, s7, s8, s9, s10, s11] = .nx [s0, .fz (webD n c), s2, s3, s4, .fz (.list (plD ps)), s6, s7, s8, s9, t10, s11] := by
  refine forR_to (b := tgN 10) (F := B__law_right_3) (ds := plD ys) (fun i ρ => ∃ t10, ρ = [s0, .fz (webD n c), s2, s3, s4, .fz (.list (plD ps)), s6, s7, s8, s9, t10, s11]) ⟨s10, rfl⟩ ?_ ?_
  · rintro i ρ d hi ⟨t10, rfl⟩
    obtain ⟨y, hy, rfl⟩ := plD_get hi
    obtain ⟨h1, h2⟩ := h y (List.mem_of_getElem? hy)
    exact ⟨_, _, rfl, .inl (step3 hd hw hz h0 h1 h2), .fz (.int (y : Nat)), rfl⟩
  · rintro ρ' ⟨t10, rfl⟩ e
    exact ⟨t10, e⟩
end
theorem loop4 {ds : List D} (h : ∀ d ∈ ds, d ∈ bwL) {s0 s1 s2 s3 s4 s5 s6 s7 s8 s9 s10 s11 : Slot} :
    ∃ t9 t11, forR (tgT [9, 11]) B__law_right_4 ds [s0, s1, s2, s3, s4, s5, s6, s7, s8, s9, s10, s11] = .nx [s0, s1, s2, s3, s4, s5, s6, s7, s8, t9, s10, t11] := by
  refine forR_to (b := tgT [9, 11]) (F := B__law_right_4) (ds := ds) (fun i ρ => ∃ t9 t11, ρ = [s0, s1, s2, s3, s4, s5, s6, s7, s8, t9, s10, t11]) ⟨s9, s11, rfl⟩ ?_ ?_
  · rintro i ρ d hi ⟨t9, t11, rfl⟩
    obtain ⟨w, p, rfl, h1, h2, h3, h4⟩ := bw_mem (h d (List.mem_of_getElem? hi))
    exact ⟨_, _, tgT2, .inl (step4 h1 h3 h4), .fz w, .fz p, rfl⟩
  · rintro ρ' ⟨t9, t11, rfl⟩ e
    exact ⟨t9, t11, e⟩
def nonesOf (n : Nat) (c : Nat → Nat → Option Int) (x : Nat) : List Nat := (List.range n).filter fun y => (c x y).isNone
theorem nones_mem {n x y : Nat} {c : Nat → Nat → Option Int} (h : y ∈ nonesOf n c x) : y < n ∧ c x y = none := by
  obtain ⟨h1, h2⟩ := List.mem_filter.mp h
  exact ⟨List.mem_range.mp h1, by simpa using h2⟩
theorem nones_run {n x : Nat} {c : Nat → Nat → Option Int} {ps : List Nat} (hx : x < n) (m : atI (plD ps) (-1) = some (.int (x : Nat))) {e0 e2 e3 e4 e6 e7 e8 e9 e10 : Option D} :
    cRun none (bN 11) (sTest (eOp2 isND (eOp2 ixD (eOp2 ixD (eVar 1) (eOp2 ixD (eVar 5) (eOp1 negD (eC (.int 1))))) (eVar 11)) (eC .none))) (eVar 11)
      [e0, some (webD n c), e2, e3, e4, some (.list (plD ps)), e6, e7, e8, e9, e10, none] (rngD 0 n) none = .ok (plD (nonesOf n c x)) none := by
  rw [rng_pl]
  refine cRun_pick (fun y : Nat => PyData.int (y : Nat)) (fun y : Nat => PyData.int (y : Nat)) (fun y => (c x y).isNone) fun y hy => ?_
  have hy := List.mem_range.mp hy
  refine ⟨[e0, some (webD n c), e2, e3, e4, some (.list (plD ps)), e6, e7, e8, e9, e10, some (.int (y : Nat))], rfl, ?_, fun _ => ⟨none, ?_, rfl⟩⟩
  · cases hc : c x y with
    | none => simp (disch := (first | assumption | (simp only [VF.owned_n, VF.owned_s, VF.scal_int, VF.scal_bool, VF.scal_str, VF.scal_none, VF.scal_list, VF.scal_tuple, VF.SZ, List.length_cons, List.length_nil, List.length_set, List.length_append, List.length_map, List.length_range, Int.reduceToNat, Int.reduceLE, Int.reduceLT, Nat.reduceAdd, Nat.reduceLT, Nat.reduceLeDiff, Nat.reduceEqDiff, Nat.zero_add, Nat.zero_lt_succ, Int.toNat_natCast, ne_eq, reduceCtorEq, not_false_eq_true]; done) | (simp only [VF.owned_n, VF.owned_s, VF.scal_int, VF.scal_bool, VF.scal_str, VF.scal_none, VF.scal_list, VF.scal_tuple, VF.SZ, List.length_cons, List.length_nil, List.length_set, List.length_append, List.length_map, List.length_range, Int.reduceToNat, Int.reduceLE, Int.reduceLT, Nat.reduceAdd, Nat.reduceLT, Nat.reduceLeDiff, Nat.reduceEqDiff, Nat.zero_add, Nat.zero_lt_succ, Int.toNat_natCast, ne_eq, reduceCtorEq, not_false_eq_true]; first | assumption | omega) | decide | omega)) only [VF.sSq_k, VF.srB_nx, VF.srB_rt, VF.srB_rz, VF.srB_bk, VF.srB_ct, VF.sIf_k, VF.tsB_ok, VF.tsB_rz, VF.sFor_k, VF.gsB_ok, VF.gsB_rz, VF.sDrop_k, VF.sRet_k, VF.sAsg_k, VF.sAsgT_k, VF.sRz_k, VF.esB_ok, VF.esB_rz, VF.put_int, VF.put_bool, VF.put_str, VF.put_none, VF.put_0, VF.put_listn, VF.put_list1, VF.put_tupn, VF.put_tup1, VF.sRetV_k, VF.retVK_ow, VF.retVK_fz, VF.sApp_k, VF.sAppK_k, VF.appD_k, VF.appK_n, VF.appK_s, VF.sAppV_k, VF.sAppVK_ow, VF.sAppVK_fz, VF.sSet_k, VF.sSetK_k, VF.setK_k, VF.setD_k, VF.setDK_n, VF.setDK_s, VF.sNx, VF.sBk, VF.sCt, VF.sTry_k, VF.tryK_nx, VF.drp_fz, VF.drp_no, VF.drp_ow, VF.excD_s, VF.excD_n, VF.lv0_exc, VF.isXD_none, List.map_cons, List.map_nil, VF.retR_rt, VF.retR_nx, VF.retR_rz, VF.retOf_0, VF.retOf_1, VF.retK_k, VF.arg0, VF.evS_0, VF.evS_1, VF.evSJ_k, VF.esK0_n, VF.esK0_s, VF.esK0_rz, VF.esK1_n, VF.esK1_s, VF.evT_0, VF.evT_1, VF.evTJ_k, VF.tsK0_k, VF.tsK0_rz, VF.tsK1_k, VF.evG_0, VF.evG_1, VF.evGJ_k, VF.gsK0_t, VF.gsK0_f, VF.gsK1_t, VF.frzF_cons, VF.frzF_nil, VF.envF_cons, VF.envF_nil, VF.fr1_false, VF.fr1_fz, VF.fr1_no, VF.fr1_ow, VF.en1_fz, VF.en1_no, VF.en1_ow, VF.en1_own, VF.erB_ok, VF.erB_rz, VF.arB_ok, VF.arB_rz, VF.irB_ok, VF.irB_rz, VF.trB_ok, VF.trB_rz, VF.obB_ok, VF.gaB_ok, VF.gaB_rz, VF.c1_k, VF.c2_k, VF.c2'_k, VF.c3_k, VF.c4_k, VF.c4'_k, VF.c5_k, VF.c6_k, VF.c7_k, VF.c8_k, VF.c9_k, VF.c10_k, VF.c11_k, VF.c11'_k, VF.c12_k, VF.c13_k, VF.c13'_k, VF.c13''_k, VF.c14_k, VF.c15_k, VF.c16_k, VF.c17_k, VF.c18_k, VF.c19_k, VF.c20_k, VF.c21_k, VF.c22_k, VF.c23_k, VF.c24_k, VF.c25_k, VF.k1_k, VF.k1'_k, VF.k2_k, VF.k3_k, VF.k4_k, VF.eVar_k, VF.varK_k, VF.eC_k, VF.eOp1_k, VF.eOp2_k, VF.erO_k, VF.eCall_k, VF.aNil_k, VF.aCons_k, VF.eLst_k, VF.eTup_k, VF.eIf_k, VF.eAnd_k, VF.eOr_k, VF.eNot_k, VF.andK_k, VF.orK_k, VF.notK_k, VF.eCh_k, VF.chK_k, VF.eBd_none, VF.eBd_some, VF.bdK_k, VF.eSl_k, VF.uNil_k, VF.uCons_k, VF.uIo_k, VF.uPerm_k, VF.permL, VF.eUser_k, VF.usrK_none, VF.usrK_some, VF.usrJ_k, eq_self, VF.sTest_k, VF.tBool_k, VF.sTru_k, VF.tTru_bool, VF.tTru_int, VF.tTru_list, VF.tTru_none, VF.sNot_k, VF.sAnd_k, VF.sOr_k, VF.sYes_k, VF.gIter_k, VF.gSeq_list, VF.gSeq_tuple, VF.gArgs_k, VF.gaK_k, VF.eLc_k, VF.lcK_k, VF.iiD_k, VF.icD_if, VF.ibD_k, VF.intD_int, VF.intD_bool, VF.addD_int, VF.negD_k, VF.cMod_k, VF.cDiv_k, VF.ixD_list, VF.ixD_tuple, VF.itD_k, VF.ixN_pos, VF.atI_pos, VF.lv0_int, VF.lv0_bool, VF.lv0_str, VF.lv0_none, VF.lv0_list, VF.lv0_tuple, VF.scal_int, VF.scal_bool, VF.scal_str, VF.scal_none, VF.scal_list, VF.scal_tuple, VF.neD_int, VF.eqD_int, VF.rng1_if, VF.rng2_if, VF.enumG_k, VF.zipG_k, Int.toNat_natCast, VF.notND_none, VF.notND_int, VF.notND_bool, VF.notND_str, VF.notND_list, VF.notND_tuple, VF.isND_none, VF.isND_int, VF.isND_list, VF.isND_tuple, VF.isND_exc, VF.eIsa_k, VF.lenD_list, VF.lenD_tuple, beq_self_eq_true, VF.slD_k, VF.cut_tail, VF.lzD_k, VF.wipeE, VF.lmin_nn, VF.up_n, VF.up_s, VF.lmin_ns, VF.lmin_sn, VF.lmin_ss, VF.owned_n, VF.owned_s, List.contains_cons, List.contains_nil, List.getElem?_cons_zero, List.getElem?_cons_succ, List.getElem?_nil, List.set_cons_zero, List.set_cons_succ, List.length_cons, List.length_nil, List.append_nil, List.cons_append, List.nil_append, List.replicate_succ, List.replicate_zero, Option.some.injEq, Bool.and_true, Bool.true_and, Bool.and_false, Bool.false_and, Bool.or_false, Bool.false_or, Bool.or_true, Bool.true_or, Bool.not_true, Bool.not_false, Nat.reduceBEq, Nat.reduceAdd, Nat.reduceSub, Nat.reduceLeDiff, Nat.reduceEqDiff, Nat.reduceLT, Int.reduceToNat, decide_true, decide_false, ↓reduceIte, reduceCtorEq, Bool.false_eq_true, Nat.zero_add, m, lv0_web, ixD_web, ixD_row, hc, cellD_n, Option.isNone_none]
    | some i => simp (disch := (first | assumption | (simp only [VF.owned_n, VF.owned_s, VF.scal_int, VF.scal_bool, VF.scal_str, VF.scal_none, VF.scal_list, VF.scal_tuple, VF.SZ, List.length_cons, List.length_nil, List.length_set, List.length_append, List.length_map, List.length_range, Int.reduceToNat, Int.reduceLE, Int.reduceLT, Nat.reduceAdd, Nat.reduceLT, Nat.reduceLeDiff, Nat.reduceEqDiff, Nat.zero_add, Nat.zero_lt_succ, Int.toNat_natCast, ne_eq, reduceCtorEq, not_false_eq_true]; done) | (simp only [VF.owned_n, VF.owned_s, VF.scal_int, VF.scal_bool, VF.scal_str, VF.scal_none, VF.scal_list, VF.scal_tuple, VF.SZ, List.length_cons, List.length_nil, List.length_set, List.length_append, List.length_map, List.length_range, Int.reduceToNat, Int.reduceLE, Int.reduceLT, Nat.reduceAdd, Nat.reduceLT, Nat.reduceLeDiff, Nat.reduceEqDiff, Nat.zero_add, Nat.zero_lt_succ, Int.toNat_natCast, ne_eq, reduceCtorEq, not_false_eq_true]; first | assumption | omega) | decide | omega)) only [VF.sSq_k, VF.srB_nx, VF.srB_rt, VF.srB_rz, VF.srB_bk, VF.srB_ct, VF.sIf_k, VF.tsB_ok, VF.tsB_rz, VF.sFor_k, VF.gsB_ok, VF.gsB_rz, VF.sDrop_k, VF.sRet_k, VF.sAsg_k, VF.sAsgT_k, VF.sRz_k, VF.esB_ok, VF.esB_rz, VF.put_int, VF.put_bool, VF.put_str, VF.put_none, VF.put_0, VF.put_listn, VF.put_list1, VF.put_tupn, VF.put_tup1, VF.sRetV_k, VF.retVK_ow, VF.retVK_fz, VF.sApp_k, VF.sAppK_k, VF.appD_k, VF.appK_n, VF.appK_s, VF.sAppV_k, VF.sAppVK_ow, VF.sAppVK_fz, VF.sSet_k, VF.sSetK_k, VF.setK_k, VF.setD_k, VF.setDK_n, VF.setDK_s, VF.sNx, VF.sBk, VF.sCt, VF.sTry_k, VF.tryK_nx, VF.drp_fz, VF.drp_no, VF.drp_ow, VF.excD_s, VF.excD_n, VF.lv0_exc, VF.isXD_none, List.map_cons, List.map_nil, VF.retR_rt, VF.retR_nx, VF.retR_rz, VF.retOf_0, VF.retOf_1, VF.retK_k, VF.arg0, VF.evS_0, VF.evS_1, VF.evSJ_k, VF.esK0_n, VF.esK0_s, VF.esK0_rz, VF.esK1_n, VF.esK1_s, VF.evT_0, VF.evT_1, VF.evTJ_k, VF.tsK0_k, VF.tsK0_rz, VF.tsK1_k, VF.evG_0, VF.evG_1, VF.evGJ_k, VF.gsK0_t, VF.gsK0_f, VF.gsK1_t, VF.frzF_cons, VF.frzF_nil, VF.envF_cons, VF.envF_nil, VF.fr1_false, VF.fr1_fz, VF.fr1_no, VF.fr1_ow, VF.en1_fz, VF.en1_no, VF.en1_ow, VF.en1_own, VF.erB_ok, VF.erB_rz, VF.arB_ok, VF.arB_rz, VF.irB_ok, VF.irB_rz, VF.trB_ok, VF.trB_rz, VF.obB_ok, VF.gaB_ok, VF.gaB_rz, VF.c1_k, VF.c2_k, VF.c2'_k, VF.c3_k, VF.c4_k, VF.c4'_k, VF.c5_k, VF.c6_k, VF.c7_k, VF.c8_k, VF.c9_k, VF.c10_k, VF.c11_k, VF.c11'_k, VF.c12_k, VF.c13_k, VF.c13'_k, VF.c13''_k, VF.c14_k, VF.c15_k, VF.c16_k, VF.c17_k, VF.c18_k, VF.c19_k, VF.c20_k, VF.c21_k, VF.c22_k, VF.c23_k, VF.c24_k, VF.c25_k, VF.k1_k, VF.k1'_k, VF.k2_k, VF.k3_k, VF.k4_k, VF.eVar_k, VF.varK_k, VF.eC_k, VF.eOp1_k, VF.eOp2_k, VF.erO_k, VF.eCall_k, VF.aNil_k, VF.aCons_k, VF.eLst_k, VF.eTup_k, VF.eIf_k, VF.eAnd_k, VF.eOr_k, VF.eNot_k, VF.andK_k, VF.orK_k, VF.notK_k, VF.eCh_k, VF.chK_k, VF.eBd_none, VF.eBd_some, VF.bdK_k, VF.eSl_k, VF.uNil_k, VF.uCons_k, VF.uIo_k, VF.uPerm_k, VF.permL, VF.eUser_k, VF.usrK_none, VF.usrK_some, VF.usrJ_k, eq_self, VF.sTest_k, VF.tBool_k, VF.sTru_k, VF.tTru_bool, VF.tTru_int, VF.tTru_list, VF.tTru_none, VF.sNot_k, VF.sAnd_k, VF.sOr_k, VF.sYes_k, VF.gIter_k, VF.gSeq_list, VF.gSeq_tuple, VF.gArgs_k, VF.gaK_k, VF.eLc_k, VF.lcK_k, VF.iiD_k, VF.icD_if, VF.ibD_k, VF.intD_int, VF.intD_bool, VF.addD_int, VF.negD_k, VF.cMod_k, VF.cDiv_k, VF.ixD_list, VF.ixD_tuple, VF.itD_k, VF.ixN_pos, VF.atI_pos, VF.lv0_int, VF.lv0_bool, VF.lv0_str, VF.lv0_none, VF.lv0_list, VF.lv0_tuple, VF.scal_int, VF.scal_bool, VF.scal_str, VF.scal_none, VF.scal_list, VF.scal_tuple, VF.neD_int, VF.eqD_int, VF.rng1_if, VF.rng2_if, VF.enumG_k, VF.zipG_k, Int.toNat_natCast, VF.notND_none, VF.notND_int, VF.notND_bool, VF.notND_str, VF.notND_list, VF.notND_tuple, VF.isND_none, VF.isND_int, VF.isND_list, VF.isND_tuple, VF.isND_exc, VF.eIsa_k, VF.lenD_list, VF.lenD_tuple, beq_self_eq_true, VF.slD_k, VF.cut_tail, VF.lzD_k, VF.wipeE, VF.lmin_nn, VF.up_n, VF.up_s, VF.lmin_ns, VF.lmin_sn, VF.lmin_ss, VF.owned_n, VF.owned_s, List.contains_cons, List.contains_nil, List.getElem?_cons_zero, List.getElem?_cons_succ, List.getElem?_nil, List.set_cons_zero, List.set_cons_succ, List.length_cons, List.length_nil, List.append_nil, List.cons_append, List.nil_append, List.replicate_succ, List.replicate_zero, Option.some.injEq, Bool.and_true, Bool.true_and, Bool.and_false, Bool.false_and, Bool.or_false, Bool.false_or, Bool.or_true, Bool.true_or, Bool.not_true, Bool.not_false, Nat.reduceBEq, Nat.reduceAdd, Nat.reduceSub, Nat.reduceLeDiff, Nat.reduceEqDiff, Nat.reduceLT, Int.reduceToNat, decide_true, decide_false, ↓reduceIte, reduceCtorEq, Bool.false_eq_true, Nat.zero_add, m, lv0_web, ixD_web, ixD_row, hc, cellD_s, Option.isNone_some]
  · simp (disch := (first | assumption | (simp only [VF.owned_n, VF.owned_s, VF.scal_int, VF.scal_bool, VF.scal_str, VF.scal_none, VF.scal_list, VF.scal_tuple, VF.SZ, List.length_cons, List.length_nil, List.length_set, List.length_append, List.length_map, List.length_range, Int.reduceToNat, Int.reduceLE, Int.reduceLT, Nat.reduceAdd, Nat.reduceLT, Nat.reduceLeDiff, Nat.reduceEqDiff, Nat.zero_add, Nat.zero_lt_succ, Int.toNat_natCast, ne_eq, reduceCtorEq, not_false_eq_true]; done) | (simp only [VF.owned_n, VF.owned_s, VF.scal_int, VF.scal_bool, VF.scal_str, VF.scal_none, VF.scal_list, VF.scal_tuple, VF.SZ, List.length_cons, List.length_nil, List.length_set, List.length_append, List.length_map, List.length_range, Int.reduceToNat, Int.reduceLE, Int.reduceLT, Nat.reduceAdd, Nat.reduceLT, Nat.reduceLeDiff, Nat.reduceEqDiff, Nat.zero_add, Nat.zero_lt_succ, Int.toNat_natCast, ne_eq, reduceCtorEq, not_false_eq_true]; first | assumption | omega) | decide | omega)) only [VF.sSq_k, VF.srB_nx, VF.srB_rt, VF.srB_rz, VF.srB_bk, VF.srB_ct, VF.sIf_k, VF.tsB_ok, VF.tsB_rz, VF.sFor_k, VF.gsB_ok, VF.gsB_rz, VF.sDrop_k, VF.sRet_k, VF.sAsg_k, VF.sAsgT_k, VF.sRz_k, VF.esB_ok, VF.esB_rz, VF.put_int, VF.put_bool, VF.put_str, VF.put_none, VF.put_0, VF.put_listn, VF.put_list1, VF.put_tupn, VF.put_tup1, VF.sRetV_k, VF.retVK_ow, VF.retVK_fz, VF.sApp_k, VF.sAppK_k, VF.appD_k, VF.appK_n, VF.appK_s, VF.sAppV_k, VF.sAppVK_ow, VF.sAppVK_fz, VF.sSet_k, VF.sSetK_k, VF.setK_k, VF.setD_k, VF.setDK_n, VF.setDK_s, VF.sNx, VF.sBk, VF.sCt, VF.sTry_k, VF.tryK_nx, VF.drp_fz, VF.drp_no, VF.drp_ow, VF.excD_s, VF.excD_n, VF.lv0_exc, VF.isXD_none, List.map_cons, List.map_nil, VF.retR_rt, VF.retR_nx, VF.retR_rz, VF.retOf_0, VF.retOf_1, VF.retK_k, VF.arg0, VF.evS_0, VF.evS_1, VF.evSJ_k, VF.esK0_n, VF.esK0_s, VF.esK0_rz, VF.esK1_n, VF.esK1_s, VF.evT_0, VF.evT_1, VF.evTJ_k, VF.tsK0_k, VF.tsK0_rz, VF.tsK1_k, VF.evG_0, VF.evG_1, VF.evGJ_k, VF.gsK0_t, VF.gsK0_f, VF.gsK1_t, VF.frzF_cons, VF.frzF_nil, VF.envF_cons, VF.envF_nil, VF.fr1_false, VF.fr1_fz, VF.fr1_no, VF.fr1_ow, VF.en1_fz, VF.en1_no, VF.en1_ow, VF.en1_own, VF.erB_ok, VF.erB_rz, VF.arB_ok, VF.arB_rz, VF.irB_ok, VF.irB_rz, VF.trB_ok, VF.trB_rz, VF.obB_ok, VF.gaB_ok, VF.gaB_rz, VF.c1_k, VF.c2_k, VF.c2'_k, VF.c3_k, VF.c4_k, VF.c4'_k, VF.c5_k, VF.c6_k, VF.c7_k, VF.c8_k, VF.c9_k, VF.c10_k, VF.c11_k, VF.c11'_k, VF.c12_k, VF.c13_k, VF.c13'_k, VF.c13''_k, VF.c14_k, VF.c15_k, VF.c16_k, VF.c17_k, VF.c18_k, VF.c19_k, VF.c20_k, VF.c21_k, VF.c22_k, VF.c23_k, VF.c24_k, VF.c25_k, VF.k1_k, VF.k1'_k, VF.k2_k, VF.k3_k, VF.k4_k, VF.eVar_k, VF.varK_k, VF.eC_k, VF.eOp1_k, VF.eOp2_k, VF.erO_k, VF.eCall_k, VF.aNil_k, VF.aCons_k, VF.eLst_k, VF.eTup_k, VF.eIf_k, VF.eAnd_k, VF.eOr_k, VF.eNot_k, VF.andK_k, VF.orK_k, VF.notK_k, VF.eCh_k, VF.chK_k, VF.eBd_none, VF.eBd_some, VF.bdK_k, VF.eSl_k, VF.uNil_k, VF.uCons_k, VF.uIo_k, VF.uPerm_k, VF.permL, VF.eUser_k, VF.usrK_none, VF.usrK_some, VF.usrJ_k, eq_self, VF.sTest_k, VF.tBool_k, VF.sTru_k, VF.tTru_bool, VF.tTru_int, VF.tTru_list, VF.tTru_none, VF.sNot_k, VF.sAnd_k, VF.sOr_k, VF.sYes_k, VF.gIter_k, VF.gSeq_list, VF.gSeq_tuple, VF.gArgs_k, VF.gaK_k, VF.eLc_k, VF.lcK_k, VF.iiD_k, VF.icD_if, VF.ibD_k, VF.intD_int, VF.intD_bool, VF.addD_int, VF.negD_k, VF.cMod_k, VF.cDiv_k, VF.ixD_list, VF.ixD_tuple, VF.itD_k, VF.ixN_pos, VF.atI_pos, VF.lv0_int, VF.lv0_bool, VF.lv0_str, VF.lv0_none, VF.lv0_list, VF.lv0_tuple, VF.scal_int, VF.scal_bool, VF.scal_str, VF.scal_none, VF.scal_list, VF.scal_tuple, VF.neD_int, VF.eqD_int, VF.rng1_if, VF.rng2_if, VF.enumG_k, VF.zipG_k, Int.toNat_natCast, VF.notND_none, VF.notND_int, VF.notND_bool, VF.notND_str, VF.notND_list, VF.notND_tuple, VF.isND_none, VF.isND_int, VF.isND_list, VF.isND_tuple, VF.isND_exc, VF.eIsa_k, VF.lenD_list, VF.lenD_tuple, beq_self_eq_true, VF.slD_k, VF.cut_tail, VF.lzD_k, VF.wipeE, VF.lmin_nn, VF.up_n, VF.up_s, VF.lmin_ns, VF.lmin_sn, VF.lmin_ss, VF.owned_n, VF.owned_s, List.contains_cons, List.contains_nil, List.getElem?_cons_zero, List.getElem?_cons_succ, List.getElem?_nil, List.set_cons_zero, List.set_cons_succ, List.length_cons, List.length_nil, List.append_nil, List.cons_append, List.nil_append, List.replicate_succ, List.replicate_zero, Option.some.injEq, Bool.and_true, Bool.true_and, Bool.and_false, Bool.false_and, Bool.or_false, Bool.false_or, Bool.or_true, Bool.true_or, Bool.not_true, Bool.not_false, Nat.reduceBEq, Nat.reduceAdd, Nat.reduceSub, Nat.reduceLeDiff, Nat.reduceEqDiff, Nat.reduceLT, Int.reduceToNat, decide_true, decide_false, ↓reduceIte, reduceCtorEq, Bool.false_eq_true, Nat.zero_add]
end K04
end
section
set_option Elab.async false
set_option linter.all false
set_option maxRecDepth 100000
set_option maxHeartbeats 4000000
namespace K04
open PySem PySem.Spec L2 VF
open PyProof.Rows hiding St
theorem pw5 : cPowW 10 5 = true := by decide +kernel
theorem pw11 : cPowW 10 11 = true := by decide +kernel
theorem far_at (v : Int) : ∃ far, (0 ≤ far ∧ far ≤ 100000000000) ∧ [PyData.int 1, .int 1, .int (10 ^ 5), .int (10 ^ 11)][(v % 4).toNat]? = some (.int far) := by
  have : v % 4 = 0 ∨ v % 4 = 1 ∨ v % 4 = 2 ∨ v % 4 = 3 := by omega
  rcases this with q | q | q | q <;> rw [q]
  · exact ⟨1, by omega, rfl⟩
  · exact ⟨1, by omega, rfl⟩
  · exact ⟨10 ^ 5, by decide, rfl⟩
  · exact ⟨10 ^ 11, by decide, rfl⟩
theorem mul_bd {i far : Int} (h : -3 ≤ i ∧ i ≤ 8) (hf : 0 ≤ far ∧ far ≤ 100000000000) : (i * far).natAbs < 10 ^ 24 := by
  rw [Int.natAbs_mul]
  have h1 : i.natAbs ≤ 8 := by omega
  have h2 : far.natAbs ≤ 100000000000 := by omega
  exact Nat.lt_of_le_of_lt (Nat.mul_le_mul h1 h2) (by decide)
theorem sh_cell {o : Option Int} (h : ∀ i, o = some i → i.natAbs < 10 ^ 24) : ShOk (cellD o) 0 25 := by
  cases o with
  | none => exact sh_none.up (Nat.le_refl _) (by decide)
  | some i => exact sh_int (h i rfl)
theorem sh_web {n : Nat} {c : Nat → Nat → Option Int} (hn : n ≤ 8) (h : ∀ x y, x < n → y < n → ∀ i, c x y = some i → i.natAbs < 10 ^ 24) : ShOk (webD n c) 2 1762 := by
  have := sh_list (ds := (List.range n).map fun x => rowD n (c x)) (k := 1) (n := 218) (m := 8) (fun d hd => by
    obtain ⟨x, hx, rfl⟩ := List.mem_map.mp hd
    exact sh_list (ds := (List.range n).map fun y => cellD (c x y)) (k := 0) (n := 25) (m := 8) (fun e he => by
      obtain ⟨y, hy, rfl⟩ := List.mem_map.mp he
      exact sh_cell (h x y (List.mem_range.mp hx) (List.mem_range.mp hy))) (by rw [List.length_map, List.length_range]; exact hn)) (by rw [List.length_map, List.length_range]; exact hn)
  exact this
theorem sh_pl {ps : List Nat} {m : Nat} (h : ps.length ≤ m) (hp : ∀ p ∈ ps, p < 8) : ShOk (.list (plD ps)) 1 (m * 27 + 2) :=
  sh_list (ds := plD ps) (k := 0) (n := 25) (m := m) (fun d hd => by
    obtain ⟨p, hp', rfl⟩ := List.mem_map.mp hd
    have := hp p hp'
    exact sh_int (by omega)) (by rw [pl_len]; exact h)
theorem len_bound {c : Nat → Nat → Option Int} {n : Nat} {ps : List Nat} {M : Nat} (hw : IsWalk n c ps) (h : ∀ x y, x < n → y < n → ∀ i, c x y = some i → i.natAbs ≤ M) : (lenW c ps).natAbs ≤ ps.length * M := by
  have gen : ∀ l : List (Nat × Nat), (∀ p ∈ l, ((c p.1 p.2).getD 0).natAbs ≤ M) → ((l.map fun p => (c p.1 p.2).getD 0).sum).natAbs ≤ l.length * M := by
    intro l
    induction l with
    | nil => intro _; simp
    | cons p l ih =>
      intro hl
      have h1 := hl p List.mem_cons_self
      have h2 := ih fun q hq => hl q (List.mem_cons_of_mem _ hq)
      rw [List.map_cons, List.sum_cons, List.length_cons, Nat.succ_mul]
      omega
  have h1 := gen (stepsOf ps) fun p hp => by
    obtain ⟨a, b, l, e⟩ := hw.step hp
    rw [e]; exact h p.1 p.2 a b l e
  refine Nat.le_trans h1 (Nat.mul_le_mul_right _ ?_)
  unfold stepsOf
  rw [List.length_zip, List.length_tail]; omega
theorem scl_diag {n : Nat} {c : Nat → Nat → Option Int} {far : Int} (hb : IsWeb (-3) 8 n c) : ∀ x, x < n → scl far (c x) x = some 0 := by
  intro x hx
  unfold scl
  rw [(hb x x hx hx).1 rfl]
  show some (0 * far) = _
  rw [Int.zero_mul]
theorem scl_bd {n : Nat} {c : Nat → Nat → Option Int} {far : Int} (hb : IsWeb (-3) 8 n c) (hf : 0 ≤ far ∧ far ≤ 100000000000) : ∀ x y, x < n → y < n → ∀ i, scl far (c x) y = some i → i.natAbs ≤ 800000000000 := by
  intro x y hx hy i h
  unfold scl at h
  cases q : c x y with
  | none => rw [q] at h; cases h
  | some j =>
    rw [q] at h
    cases h
    have b := (hb x y hx hy).2 j q
    show (j * far).natAbs ≤ _
    rw [Int.natAbs_mul]
    exact Nat.mul_le_mul (show j.natAbs ≤ 8 by omega) (show far.natAbs ≤ 100000000000 by omega)
theorem cut_1 {qs : List Nat} {x : Nat} {y : Nat} (h : (qs ++ [x])[0]? = some y) : cutD (plD (qs ++ [x])) none (some 1) = plD [y] := by
  cases qs with
  | nil => cases h; rfl
  | cons a r =>
    cases h
    show ((plD ((y :: r) ++ [x])).drop (HT.sIx (plD ((y :: r) ++ [x])).length 0 none)).take (HT.sIx (plD ((y :: r) ++ [x])).length (plD ((y :: r) ++ [x])).length (some ((1 : Nat) : Int)) - HT.sIx (plD ((y :: r) ++ [x])).length 0 none) = _
    rw [HT.sIx_nat, HT.sIx_none, pl_len]
    simp [plD]
theorem IsWalk.head {n : Nat} {c : Nat → Nat → Option Int} {qs : List Nat} {x y : Nat} (hw : IsWalk n c (qs ++ [x])) (h : (qs ++ [x])[0]? = some y) : IsWalk n c [y] := IsWalk.one (hw.lt y (List.mem_of_getElem? h))
theorem len_one {c : Nat → Nat → Option Int} {y : Nat} : lenW c [y] = 0 := rfl
theorem gsK1_f {bor : List Nat} {j : Nat} {b0 : Bool} {ρ : Sl} {ds : List D} {d' : D} : gsK1 bor j b0 ρ (.ok false ds (some (none, d'))) = .ok false ds (frzF bor 0 (ρ.set j (.ow b0 none d'))) := rfl
theorem put_web {i n : Nat} {c : Nat → Nat → Option Int} {ρ : Sl} (hi : i < ρ.length) : put i none (webD n c) ρ = .nx (ρ.set i (.ow false none (webD n c))) := put_n rfl hi
theorem okEq_int {i : Int} : okEq (.int i) = true := (eq_int (i := i)).ok (by decide)
theorem v_right (A k : Int) (b : Bool) (hk : 0 ≤ k ∧ k ≤ 700000) : ∃ A' k', k ≤ k' ∧ k' ≤ k + 200 ∧
    fnM (some 0) 12 F__law_right [none] (some (none, drD A k b)) = .ok none (.bool true) (some (none, drD A' k' b)) := by
  obtain ⟨v0, A0, p0, e0⟩ := v_next A k b ⟨by omega, by omega⟩
  obtain ⟨n, hn⟩ := Int.eq_ofNat_of_zero_le (show 0 ≤ 1 + v0 % 8 by omega)
  have n1 : 1 ≤ n ∧ n ≤ 8 := by omega
  obtain ⟨c, A1, k1, hb, b1, b2, e1⟩ := v_any_web A0 (k + 1) b n ⟨by omega, by omega⟩ n1.2
  obtain ⟨v2, A2, p2, e2⟩ := v_next A1 k1 b ⟨by omega, by omega⟩
  obtain ⟨far, hf, hat⟩ := far_at v2
  obtain ⟨w, hwd⟩ : ∃ w, w = fun x => scl far (c x) := ⟨_, rfl⟩
  have hdg : ∀ x, x < n → w x x = some 0 := by rw [hwd]; exact scl_diag hb
  have hbd : ∀ x y, x < n → y < n → ∀ i, w x y = some i → i.natAbs ≤ 800000000000 := by rw [hwd]; exact scl_bd hb hf
  obtain ⟨qs, x, A3, k3, hw, hl, b3, b4, e3⟩ := v_path A2 (k1 + 1) b (c := w) n1.1 n1.2 ⟨by omega, by omega⟩
  obtain ⟨m5, ds, A4, hds, e4⟩ := v_bad_webs A3 k3 b ⟨by omega, by omega⟩
  refine ⟨A4, k3 + 1, by omega, by omega, fn_eq ?_⟩
  obtain ⟨ps, hps⟩ : ∃ ps, ps = qs ++ [x] := ⟨_, rfl⟩
  rw [← hps] at hw e3
  have hz : ps.length ≤ 111 := by rw [hps]; simp; omega
  have hz2 : ps.length ≤ 1000 := by omega
  have hne : ps ≠ [] := by rw [hps]; simp
  have hlast : ps.getLast? = some x := by rw [hps]; simp
  have hx : x < n := hw.lt x (by rw [hps]; simp)
  have m : atI (plD ps) (-1) = some (.int (x : Nat)) := by rw [hps, ← plD_snoc]; exact L2.atI_last _ _
  obtain ⟨y, hy⟩ : ∃ y, ps[0]? = some y := ⟨_, List.getElem?_eq_getElem (List.length_pos_iff.mpr hne)⟩
  have hcut : cutD (plD ps) none (some 1) = plD [y] := by rw [hps] at hy ⊢; exact cut_1 hy
  have hw1 : IsWalk n w [y] := by rw [hps] at hw hy; exact hw.head hy
  have g1 := v_length_of hdg hw hz2 hne
  have g2 := v_length_of hdg hw1 (show 1 ≤ 1000 by decide) (List.cons_ne_nil _ _)
  rw [len_one] at g2
  have g3 := v_long hw
  have sp : ShOk (.list [webD n w, .list (plD ps)]) 3 6004 := sh_list (ds := [webD n w, .list (plD ps)]) (k := 2) (n := 2999) (m := 2) (fun d hd => by
    rcases List.mem_cons.mp hd with rfl | hd
    · exact (sh_web n1.2 fun x y hx hy i h => Nat.lt_of_le_of_lt (hbd x y hx hy i h) (by decide)).up (Nat.le_refl _) (by decide)
    · rcases List.mem_cons.mp hd with rfl | hd
      · exact (sh_pl hz fun p hp => Nat.lt_of_lt_of_le (hw.lt p hp) n1.2).up (by decide) (by decide)
      · cases hd) (Nat.le_refl _)
  have lb : (lenW w ps).natAbs < 10 ^ 24 := Nat.lt_of_le_of_lt (Nat.le_trans (len_bound hw hbd) (Nat.mul_le_mul_right _ hz)) (by decide)
  have sl : ShOk (.list [.int (lenW w ps), .int (lenW w ps)]) 1 56 := sh_list (ds := [.int (lenW w ps), .int (lenW w ps)]) (k := 0) (n := 25) (m := 2) (fun d hd => by
    rcases List.mem_cons.mp hd with rfl | hd
    · exact sh_int lb
    · rcases List.mem_cons.mp hd with rfl | hd
      · exact sh_int lb
      · cases hd) (Nat.le_refl _)
  have ok1 := sp.ok (by decide) (by decide)
  have ok2 := sl.ok (by decide) (by decide)
  have nn1 := neD_same sp.cp
  have nn2 := neD_same sl.cp
  have sc := fun e0 e1 e4 e5 e6 e7 e8 e9 e10 e11 => scale_web (e0 := e0) (e1 := e1) (e4 := e4) (e5 := e5) (e6 := e6) (e7 := e7) (e8 := e8) (e9 := e9) (e10 := e10) (e11 := e11) hb hf
  have wd : PyData.list ((List.range n).map fun x => rowD n (scl far (c x))) = webD n w := by rw [hwd]; rfl
  have L1 : ∀ d ∈ ([.none, .tuple [], .tuple (plD ps), .list [], .dict [], .str "", .int 5] : List D), noWalk d = true := by
    intro d hd
    simp only [List.mem_cons, List.not_mem_nil, or_false] at hd
    rcases hd with rfl | rfl | rfl | rfl | rfl | rfl | rfl <;> rfl
  have bad : ∀ d : D, kindD d ≠ none → isPl d n = false → okEq d = true → BadAt n w ps d ∧ ∃ β, neD d (.int (x : Nat)) = some (none, .bool β) ∧ (β = true → kindD d ≠ none ∧ isPl d n = false) :=
    fun d h1 h2 h3 => ⟨.inl ⟨h1, h2⟩, _, neD_k h3 okEq_int, fun _ => ⟨h1, h2⟩⟩
  have L2 : ∀ d ∈ ([.int n, .int (-1), .none, .bool true, .str "0", .list [.int 0], .tuple [.int 0], .int (x : Nat)] : List D), BadAt n w ps d ∧ ∃ β, neD d (.int (x : Nat)) = some (none, .bool β) ∧ (β = true → kindD d ≠ none ∧ isPl d n = false) := by
    intro d hd
    simp only [List.mem_cons, List.not_mem_nil, or_false] at hd
    rcases hd with rfl | rfl | rfl | rfl | rfl | rfl | rfl | rfl
    · exact bad _ (fun z => by cases z) (by simp [isPl]) okEq_int
    · exact bad _ (fun z => by cases z) rfl rfl
    · exact bad _ (fun z => by cases z) rfl rfl
    · exact bad _ (fun z => by cases z) rfl rfl
    · exact bad _ (fun z => by cases z) rfl (by decide +kernel)
    · exact bad _ (fun z => by cases z) rfl (by decide +kernel)
    · exact bad _ (fun z => by cases z) rfl (by decide +kernel)
    · refine ⟨.inr ⟨x, x, rfl, hx, hne, hlast, by simp⟩, false, ?_, fun z => by cases z⟩
      rw [neD_int, beq_self_eq_true]; rfl
  have nr := fun e0 e2 e3 e4 e6 e7 e8 e9 e10 => nones_run (e0 := e0) (e2 := e2) (e3 := e3) (e4 := e4) (e6 := e6) (e7 := e7) (e8 := e8) (e9 := e9) (e10 := e10) hx m (c := w) (n := n)
  have smn : smallI n = true := smallI_b (by omega)
  obtain ⟨t8, f1⟩ := loop1 hdg L1 (s0 := .ow true none (drD A3 k3 b)) (s2 := .fz (.int far)) (s3 := .no) (s4 := .no) (s5 := .fz (.list (plD ps))) (s6 := .fz (.str (PyData.list [webD n w, .list (plD ps)]).shown)) (s7 := .fz (.int (lenW w ps))) (s8 := .no) (s9 := .no) (s10 := .no) (s11 := .no)
  obtain ⟨t9, f2⟩ := loop2 hdg hw hz2 hlast L2 (s0 := .ow true none (drD A3 k3 b)) (s2 := .fz (.int far)) (s3 := .no) (s4 := .no) (s6 := .fz (.str (PyData.list [webD n w, .list (plD ps)]).shown)) (s7 := .fz (.int (lenW w ps))) (s8 := t8) (s9 := .no) (s10 := .no) (s11 := .no)
  obtain ⟨t10, f3⟩ := loop3 hdg hw hz2 hlast (ys := nonesOf n w x) (fun y hy => nones_mem hy) (s0 := .ow true none (drD A3 k3 b)) (s2 := .fz (.int far)) (s3 := .no) (s4 := .no) (s6 := .fz (.str (PyData.list [webD n w, .list (plD ps)]).shown)) (s7 := .fz (.int (lenW w ps))) (s8 := t8) (s9 := t9) (s10 := .no) (s11 := .no)
  obtain ⟨u9, u11, f4⟩ := loop4 hds (s0 := .ow true none (drD A4 (k3 + 1) b)) (s1 := .fz (webD n w)) (s2 := .fz (.int far)) (s3 := .no) (s4 := .no) (s5 := .fz (.list (plD ps))) (s6 := .fz (.str (PyData.list [webD n w, .list (plD ps)]).shown)) (s7 := .fz (.int (lenW w ps))) (s8 := t8) (s9 := t9) (s10 := t10) (s11 := .no)
  simp (disch := (first | assumption | (simp only [VF.owned_n, VF.owned_s, VF.scal_int, VF.scal_bool, VF.scal_str, VF.scal_none, VF.scal_list, VF.scal_tuple, VF.SZ, List.length_cons, List.length_nil, List.length_set, List.length_append, List.length_map, List.length_range, Int.reduceToNat, Int.reduceLE, Int.reduceLT, Nat.reduceAdd, Nat.reduceLT, Nat.reduceLeDiff, Nat.reduceEqDiff, Nat.zero_add, Nat.zero_lt_succ, Int.toNat_natCast, ne_eq, reduceCtorEq, not_false_eq_true]; done) | (simp only [VF.owned_n, VF.owned_s, VF.scal_int, VF.scal_bool, VF.scal_str, VF.scal_none, VF.scal_list, VF.scal_tuple, VF.SZ, List.length_cons, List.length_nil, List.length_set, List.length_append, List.length_map, List.length_range, Int.reduceToNat, Int.reduceLE, Int.reduceLT, Nat.reduceAdd, Nat.reduceLT, Nat.reduceLeDiff, Nat.reduceEqDiff, Nat.zero_add, Nat.zero_lt_succ, Int.toNat_natCast, ne_eq, reduceCtorEq, not_false_eq_true]; first | assumption | omega) | decide | omega)) only [VF.sSq_k, VF.srB_nx, VF.srB_rt, VF.srB_rz, VF.srB_bk, VF.srB_ct, VF.sIf_k, VF.tsB_ok, VF.tsB_rz, VF.sFor_k, VF.gsB_ok, VF.gsB_rz, VF.sDrop_k, VF.sRet_k, VF.sAsg_k, VF.sAsgT_k, VF.sRz_k, VF.esB_ok, VF.esB_rz, VF.put_int, VF.put_bool, VF.put_str, VF.put_none, VF.put_0, VF.put_listn, VF.put_list1, VF.put_tupn, VF.put_tup1, VF.sRetV_k, VF.retVK_ow, VF.retVK_fz, VF.sApp_k, VF.sAppK_k, VF.appD_k, VF.appK_n, VF.appK_s, VF.sAppV_k, VF.sAppVK_ow, VF.sAppVK_fz, VF.sSet_k, VF.sSetK_k, VF.setK_k, VF.setD_k, VF.setDK_n, VF.setDK_s, VF.sNx, VF.sBk, VF.sCt, VF.sTry_k, VF.tryK_nx, VF.drp_fz, VF.drp_no, VF.drp_ow, VF.excD_s, VF.excD_n, VF.lv0_exc, VF.isXD_none, List.map_cons, List.map_nil, VF.retR_rt, VF.retR_nx, VF.retR_rz, VF.retOf_0, VF.retOf_1, VF.retK_k, VF.arg0, VF.evS_0, VF.evS_1, VF.evSJ_k, VF.esK0_n, VF.esK0_s, VF.esK0_rz, VF.esK1_n, VF.esK1_s, VF.evT_0, VF.evT_1, VF.evTJ_k, VF.tsK0_k, VF.tsK0_rz, VF.tsK1_k, VF.evG_0, VF.evG_1, VF.evGJ_k, VF.gsK0_t, VF.gsK0_f, VF.gsK1_t, VF.frzF_cons, VF.frzF_nil, VF.envF_cons, VF.envF_nil, VF.fr1_false, VF.fr1_fz, VF.fr1_no, VF.fr1_ow, VF.en1_fz, VF.en1_no, VF.en1_ow, VF.en1_own, VF.erB_ok, VF.erB_rz, VF.arB_ok, VF.arB_rz, VF.irB_ok, VF.irB_rz, VF.trB_ok, VF.trB_rz, VF.obB_ok, VF.gaB_ok, VF.gaB_rz, VF.c1_k, VF.c2_k, VF.c2'_k, VF.c3_k, VF.c4_k, VF.c4'_k, VF.c5_k, VF.c6_k, VF.c7_k, VF.c8_k, VF.c9_k, VF.c10_k, VF.c11_k, VF.c11'_k, VF.c12_k, VF.c13_k, VF.c13'_k, VF.c13''_k, VF.c14_k, VF.c15_k, VF.c16_k, VF.c17_k, VF.c18_k, VF.c19_k, VF.c20_k, VF.c21_k, VF.c22_k, VF.c23_k, VF.c24_k, VF.c25_k, VF.k1_k, VF.k1'_k, VF.k2_k, VF.k3_k, VF.k4_k, VF.eVar_k, VF.varK_k, VF.eC_k, VF.eOp1_k, VF.eOp2_k, VF.erO_k, VF.eCall_k, VF.aNil_k, VF.aCons_k, VF.eLst_k, VF.eTup_k, VF.eIf_k, VF.eAnd_k, VF.eOr_k, VF.eNot_k, VF.andK_k, VF.orK_k, VF.notK_k, VF.eCh_k, VF.chK_k, VF.eBd_none, VF.eBd_some, VF.bdK_k, VF.eSl_k, VF.uNil_k, VF.uCons_k, VF.uIo_k, VF.uPerm_k, VF.permL, VF.eUser_k, VF.usrK_none, VF.usrK_some, VF.usrJ_k, eq_self, VF.sTest_k, VF.tBool_k, VF.sTru_k, VF.tTru_bool, VF.tTru_int, VF.tTru_list, VF.tTru_none, VF.sNot_k, VF.sAnd_k, VF.sOr_k, VF.sYes_k, VF.gIter_k, VF.gSeq_list, VF.gSeq_tuple, VF.gArgs_k, VF.gaK_k, VF.eLc_k, VF.lcK_k, VF.iiD_k, VF.icD_if, VF.ibD_k, VF.intD_int, VF.intD_bool, VF.addD_int, VF.negD_k, VF.cMod_k, VF.cDiv_k, VF.ixD_list, VF.ixD_tuple, VF.itD_k, VF.ixN_pos, VF.atI_pos, VF.lv0_int, VF.lv0_bool, VF.lv0_str, VF.lv0_none, VF.lv0_list, VF.lv0_tuple, VF.scal_int, VF.scal_bool, VF.scal_str, VF.scal_none, VF.scal_list, VF.scal_tuple, VF.neD_int, VF.eqD_int, VF.rng1_if, VF.rng2_if, VF.enumG_k, VF.zipG_k, Int.toNat_natCast, VF.notND_none, VF.notND_int, VF.notND_bool, VF.notND_str, VF.notND_list, VF.notND_tuple, VF.isND_none, VF.isND_int, VF.isND_list, VF.isND_tuple, VF.isND_exc, VF.eIsa_k, VF.lenD_list, VF.lenD_tuple, beq_self_eq_true, VF.slD_k, VF.cut_tail, VF.lzD_k, VF.wipeE, VF.lmin_nn, VF.up_n, VF.up_s, VF.lmin_ns, VF.lmin_sn, VF.lmin_ss, VF.owned_n, VF.owned_s, List.contains_cons, List.contains_nil, List.getElem?_cons_zero, List.getElem?_cons_succ, List.getElem?_nil, List.set_cons_zero, List.set_cons_succ, List.length_cons, List.length_nil, List.append_nil, List.cons_append, List.nil_append, List.replicate_succ, List.replicate_zero, Option.some.injEq, Bool.and_true, Bool.true_and, Bool.and_false, Bool.false_and, Bool.or_false, Bool.false_or, Bool.or_true, Bool.true_or, Bool.not_true, Bool.not_false, Nat.reduceBEq, Nat.reduceAdd, Nat.reduceSub, Nat.reduceLeDiff, Nat.reduceEqDiff, Nat.reduceLT, Int.reduceToNat, decide_true, decide_false, ↓reduceIte, reduceCtorEq, Bool.false_eq_true, Nat.zero_add, F__law_right, gsK1_f, f1, f2, f3, f4, m, smn, nr, e4, put_web, e0, hn, e1, e2, pw5, pw11, hat, lv0_web, gSeq_web, sc, wd, e3, reprD_k ok1, reprD_k ok2, g1, g2, g3, nn1, nn2, hcut, lenD_web, eDic_k, tupD_list]
end K04
end
section
set_option Elab.async false
set_option linter.all false
set_option maxRecDepth 100000
set_option maxHeartbeats 4000000
namespace K04
open PySem PySem.Spec L2 VF
open PyProof.Rows hiding St
theorem v_draws0 (i : Int) : ∃ A b, fnM none 1 F__law_draws [some (.int i)] none = .ok none (drD A 0 b) none :=
  ⟨i % (((10 : Int) ^ 60) ^ 60) ^ 4, decide ((10 : Int) ^ 18 ≤ i), by kernel_rfl⟩
theorem put_dr {i : Nat} {A k : Int} {b : Bool} {ρ : Sl} (hi : i < ρ.length) : put i none (drD A k b) ρ = .nx (ρ.set i (.ow false none (drD A k b))) := put_n rfl hi
theorem v_turn {A k : Int} {b : Bool} (hk : 0 ≤ k ∧ k ≤ 700000) {s0 s1 s3 : Slot} : ∃ A' k', k ≤ k' ∧ k' ≤ k + 200 ∧
    B_law_1 [s0, s1, .ow false none (drD A k b), s3] = .nx [s0, s1, .ow false none (drD A' k' b), s3] := by
  obtain ⟨A', k', h1, h2, e⟩ := v_right A k b hk
  refine ⟨A', k', h1, h2, ?_⟩
  simp (disch := (first | assumption | (simp only [VF.owned_n, VF.owned_s, VF.scal_int, VF.scal_bool, VF.scal_str, VF.scal_none, VF.scal_list, VF.scal_tuple, VF.SZ, List.length_cons, List.length_nil, List.length_set, List.length_append, List.length_map, List.length_range, Int.reduceToNat, Int.reduceLE, Int.reduceLT, Nat.reduceAdd, Nat.reduceLT, Nat.reduceLeDiff, Nat.reduceEqDiff, Nat.zero_add, Nat.zero_lt_succ, Int.toNat_natCast, ne_eq, reduceCtorEq, not_false_eq_true]; done) | (simp only [VF.owned_n, VF.owned_s, VF.scal_int, VF.scal_bool, VF.scal_str, VF.scal_none, VF.scal_list, VF.scal_tuple, VF.SZ, List.length_cons, List.length_nil, List.length_set, List.length_append, List.length_map, List.length_range, Int.reduceToNat, Int.reduceLE, Int.reduceLT, Nat.reduceAdd, Nat.reduceLT, Nat.reduceLeDiff, Nat.reduceEqDiff, Nat.zero_add, Nat.zero_lt_succ, Int.toNat_natCast, ne_eq, reduceCtorEq, not_false_eq_true]; first | assumption | omega) | decide | omega)) only [VF.sSq_k, VF.srB_nx, VF.srB_rt, VF.srB_rz, VF.srB_bk, VF.srB_ct, VF.sIf_k, VF.tsB_ok, VF.tsB_rz, VF.sFor_k, VF.gsB_ok, VF.gsB_rz, VF.sDrop_k, VF.sRet_k, VF.sAsg_k, VF.sAsgT_k, VF.sRz_k, VF.esB_ok, VF.esB_rz, VF.put_int, VF.put_bool, VF.put_str, VF.put_none, VF.put_0, VF.put_listn, VF.put_list1, VF.put_tupn, VF.put_tup1, VF.sRetV_k, VF.retVK_ow, VF.retVK_fz, VF.sApp_k, VF.sAppK_k, VF.appD_k, VF.appK_n, VF.appK_s, VF.sAppV_k, VF.sAppVK_ow, VF.sAppVK_fz, VF.sSet_k, VF.sSetK_k, VF.setK_k, VF.setD_k, VF.setDK_n, VF.setDK_s, VF.sNx, VF.sBk, VF.sCt, VF.sTry_k, VF.tryK_nx, VF.drp_fz, VF.drp_no, VF.drp_ow, VF.excD_s, VF.excD_n, VF.lv0_exc, VF.isXD_none, List.map_cons, List.map_nil, VF.retR_rt, VF.retR_nx, VF.retR_rz, VF.retOf_0, VF.retOf_1, VF.retK_k, VF.arg0, VF.evS_0, VF.evS_1, VF.evSJ_k, VF.esK0_n, VF.esK0_s, VF.esK0_rz, VF.esK1_n, VF.esK1_s, VF.evT_0, VF.evT_1, VF.evTJ_k, VF.tsK0_k, VF.tsK0_rz, VF.tsK1_k, VF.evG_0, VF.evG_1, VF.evGJ_k, VF.gsK0_t, VF.gsK0_f, VF.gsK1_t, VF.frzF_cons, VF.frzF_nil, VF.envF_cons, VF.envF_nil, VF.fr1_false, VF.fr1_fz, VF.fr1_no, VF.fr1_ow, VF.en1_fz, VF.en1_no, VF.en1_ow, VF.en1_own, VF.erB_ok, VF.erB_rz, VF.arB_ok, VF.arB_rz, VF.irB_ok, VF.irB_rz, VF.trB_ok, VF.trB_rz, VF.obB_ok, VF.gaB_ok, VF.gaB_rz, VF.c1_k, VF.c2_k, VF.c2'_k, VF.c3_k, VF.c4_k, VF.c4'_k, VF.c5_k, VF.c6_k, VF.c7_k, VF.c8_k, VF.c9_k, VF.c10_k, VF.c11_k, VF.c11'_k, VF.c12_k, VF.c13_k, VF.c13'_k, VF.c13''_k, VF.c14_k, VF.c15_k, VF.c16_k, VF.c17_k, VF.c18_k, VF.c19_k, VF.c20_k, VF.c21_k, VF.c22_k, VF.c23_k, VF.c24_k, VF.c25_k, VF.k1_k, VF.k1'_k, VF.k2_k, VF.k3_k, VF.k4_k, VF.eVar_k, VF.varK_k, VF.eC_k, VF.eOp1_k, VF.eOp2_k, VF.erO_k, VF.eCall_k, VF.aNil_k, VF.aCons_k, VF.eLst_k, VF.eTup_k, VF.eIf_k, VF.eAnd_k, VF.eOr_k, VF.eNot_k, VF.andK_k, VF.orK_k, VF.notK_k, VF.eCh_k, VF.chK_k, VF.eBd_none, VF.eBd_some, VF.bdK_k, VF.eSl_k, VF.uNil_k, VF.uCons_k, VF.uIo_k, VF.uPerm_k, VF.permL, VF.eUser_k, VF.usrK_none, VF.usrK_some, VF.usrJ_k, eq_self, VF.sTest_k, VF.tBool_k, VF.sTru_k, VF.tTru_bool, VF.tTru_int, VF.tTru_list, VF.tTru_none, VF.sNot_k, VF.sAnd_k, VF.sOr_k, VF.sYes_k, VF.gIter_k, VF.gSeq_list, VF.gSeq_tuple, VF.gArgs_k, VF.gaK_k, VF.eLc_k, VF.lcK_k, VF.iiD_k, VF.icD_if, VF.ibD_k, VF.intD_int, VF.intD_bool, VF.addD_int, VF.negD_k, VF.cMod_k, VF.cDiv_k, VF.ixD_list, VF.ixD_tuple, VF.itD_k, VF.ixN_pos, VF.atI_pos, VF.lv0_int, VF.lv0_bool, VF.lv0_str, VF.lv0_none, VF.lv0_list, VF.lv0_tuple, VF.scal_int, VF.scal_bool, VF.scal_str, VF.scal_none, VF.scal_list, VF.scal_tuple, VF.neD_int, VF.eqD_int, VF.rng1_if, VF.rng2_if, VF.enumG_k, VF.zipG_k, Int.toNat_natCast, VF.notND_none, VF.notND_int, VF.notND_bool, VF.notND_str, VF.notND_list, VF.notND_tuple, VF.isND_none, VF.isND_int, VF.isND_list, VF.isND_tuple, VF.isND_exc, VF.eIsa_k, VF.lenD_list, VF.lenD_tuple, beq_self_eq_true, VF.slD_k, VF.cut_tail, VF.lzD_k, VF.wipeE, VF.lmin_nn, VF.up_n, VF.up_s, VF.lmin_ns, VF.lmin_sn, VF.lmin_ss, VF.owned_n, VF.owned_s, List.contains_cons, List.contains_nil, List.getElem?_cons_zero, List.getElem?_cons_succ, List.getElem?_nil, List.set_cons_zero, List.set_cons_succ, List.length_cons, List.length_nil, List.append_nil, List.cons_append, List.nil_append, List.replicate_succ, List.replicate_zero, Option.some.injEq, Bool.and_true, Bool.true_and, Bool.and_false, Bool.false_and, Bool.or_false, Bool.false_or, Bool.or_true, Bool.true_or, Bool.not_true, Bool.not_false, Nat.reduceBEq, Nat.reduceAdd, Nat.reduceSub, Nat.reduceLeDiff, Nat.reduceEqDiff, Nat.reduceLT, Int.reduceToNat, decide_true, decide_false, ↓reduceIte, reduceCtorEq, Bool.false_eq_true, Nat.zero_add, B_law_1, e]
theorem v_cell {i : Int} {s0 s2 s3 : Slot} : ∃ t2 t3, B_law_2 [s0, .fz (.int i), s2, s3] = .nx [s0, .fz (.int i), t2, t3] := by
  obtain ⟨A, b, e⟩ := v_draws0 i
  have loop : ∃ t2 t3, forR (tgN 3) B_law_1 (rngD 0 3) [s0, .fz (.int i), .ow false none (drD A 0 b), s3] = .nx [s0, .fz (.int i), t2, t3] := by
    refine forR_to (b := tgN 3) (F := B_law_1) (ds := rngD 0 3) (fun j ρ => ∃ A' k' t3, 0 ≤ k' ∧ k' ≤ 200 * (j : Int) ∧ ρ = [s0, .fz (.int i), .ow false none (drD A' k' b), t3]) ⟨A, 0, s3, by omega, by omega, rfl⟩ ?_ ?_
    · rintro j ρ d hd ⟨A', k', t3, g1, g2, rfl⟩
      obtain ⟨hj, rfl⟩ := rngD_get hd
      obtain ⟨A2, k2, h1, h2, e2⟩ := v_turn (A := A') (k := k') (b := b) ⟨g1, by omega⟩ (s0 := s0) (s1 := .fz (.int i)) (s3 := .fz (.int (j : Nat)))
      exact ⟨_, _, rfl, .inl e2, A2, k2, _, by omega, by omega, rfl⟩
    · rintro ρ' ⟨A', k', t3, _, _, rfl⟩ e
      exact ⟨_, _, e⟩
  obtain ⟨t2, t3, e2⟩ := loop
  refine ⟨t2, t3, ?_⟩
  have sm : smallI 3 = true := by decide +kernel
  simp (disch := (first | assumption | (simp only [VF.owned_n, VF.owned_s, VF.scal_int, VF.scal_bool, VF.scal_str, VF.scal_none, VF.scal_list, VF.scal_tuple, VF.SZ, List.length_cons, List.length_nil, List.length_set, List.length_append, List.length_map, List.length_range, Int.reduceToNat, Int.reduceLE, Int.reduceLT, Nat.reduceAdd, Nat.reduceLT, Nat.reduceLeDiff, Nat.reduceEqDiff, Nat.zero_add, Nat.zero_lt_succ, Int.toNat_natCast, ne_eq, reduceCtorEq, not_false_eq_true]; done) | (simp only [VF.owned_n, VF.owned_s, VF.scal_int, VF.scal_bool, VF.scal_str, VF.scal_none, VF.scal_list, VF.scal_tuple, VF.SZ, List.length_cons, List.length_nil, List.length_set, List.length_append, List.length_map, List.length_range, Int.reduceToNat, Int.reduceLE, Int.reduceLT, Nat.reduceAdd, Nat.reduceLT, Nat.reduceLeDiff, Nat.reduceEqDiff, Nat.zero_add, Nat.zero_lt_succ, Int.toNat_natCast, ne_eq, reduceCtorEq, not_false_eq_true]; first | assumption | omega) | decide | omega)) only [VF.sSq_k, VF.srB_nx, VF.srB_rt, VF.srB_rz, VF.srB_bk, VF.srB_ct, VF.sIf_k, VF.tsB_ok, VF.tsB_rz, VF.sFor_k, VF.gsB_ok, VF.gsB_rz, VF.sDrop_k, VF.sRet_k, VF.sAsg_k, VF.sAsgT_k, VF.sRz_k, VF.esB_ok, VF.esB_rz, VF.put_int, VF.put_bool, VF.put_str, VF.put_none, VF.put_0, VF.put_listn, VF.put_list1, VF.put_tupn, VF.put_tup1, VF.sRetV_k, VF.retVK_ow, VF.retVK_fz, VF.sApp_k, VF.sAppK_k, VF.appD_k, VF.appK_n, VF.appK_s, VF.sAppV_k, VF.sAppVK_ow, VF.sAppVK_fz, VF.sSet_k, VF.sSetK_k, VF.setK_k, VF.setD_k, VF.setDK_n, VF.setDK_s, VF.sNx, VF.sBk, VF.sCt, VF.sTry_k, VF.tryK_nx, VF.drp_fz, VF.drp_no, VF.drp_ow, VF.excD_s, VF.excD_n, VF.lv0_exc, VF.isXD_none, List.map_cons, List.map_nil, VF.retR_rt, VF.retR_nx, VF.retR_rz, VF.retOf_0, VF.retOf_1, VF.retK_k, VF.arg0, VF.evS_0, VF.evS_1, VF.evSJ_k, VF.esK0_n, VF.esK0_s, VF.esK0_rz, VF.esK1_n, VF.esK1_s, VF.evT_0, VF.evT_1, VF.evTJ_k, VF.tsK0_k, VF.tsK0_rz, VF.tsK1_k, VF.evG_0, VF.evG_1, VF.evGJ_k, VF.gsK0_t, VF.gsK0_f, VF.gsK1_t, VF.frzF_cons, VF.frzF_nil, VF.envF_cons, VF.envF_nil, VF.fr1_false, VF.fr1_fz, VF.fr1_no, VF.fr1_ow, VF.en1_fz, VF.en1_no, VF.en1_ow, VF.en1_own, VF.erB_ok, VF.erB_rz, VF.arB_ok, VF.arB_rz, VF.irB_ok, VF.irB_rz, VF.trB_ok, VF.trB_rz, VF.obB_ok, VF.gaB_ok, VF.gaB_rz, VF.c1_k, VF.c2_k, VF.c2'_k, VF.c3_k, VF.c4_k, VF.c4'_k, VF.c5_k, VF.c6_k, VF.c7_k, VF.c8_k, VF.c9_k, VF.c10_k, VF.c11_k, VF.c11'_k, VF.c12_k, VF.c13_k, VF.c13'_k, VF.c13''_k, VF.c14_k, VF.c15_k, VF.c16_k, VF.c17_k, VF.c18_k, VF.c19_k, VF.c20_k, VF.c21_k, VF.c22_k, VF.c23_k, VF.c24_k, VF.c25_k, VF.k1_k, VF.k1'_k, VF.k2_k, VF.k3_k, VF.k4_k, VF.eVar_k, VF.varK_k, VF.eC_k, VF.eOp1_k, VF.eOp2_k, VF.erO_k, VF.eCall_k, VF.aNil_k, VF.aCons_k, VF.eLst_k, VF.eTup_k, VF.eIf_k, VF.eAnd_k, VF.eOr_k, VF.eNot_k, VF.andK_k, VF.orK_k, VF.notK_k, VF.eCh_k, VF.chK_k, VF.eBd_none, VF.eBd_some, VF.bdK_k, VF.eSl_k, VF.uNil_k, VF.uCons_k, VF.uIo_k, VF.uPerm_k, VF.permL, VF.eUser_k, VF.usrK_none, VF.usrK_some, VF.usrJ_k, eq_self, VF.sTest_k, VF.tBool_k, VF.sTru_k, VF.tTru_bool, VF.tTru_int, VF.tTru_list, VF.tTru_none, VF.sNot_k, VF.sAnd_k, VF.sOr_k, VF.sYes_k, VF.gIter_k, VF.gSeq_list, VF.gSeq_tuple, VF.gArgs_k, VF.gaK_k, VF.eLc_k, VF.lcK_k, VF.iiD_k, VF.icD_if, VF.ibD_k, VF.intD_int, VF.intD_bool, VF.addD_int, VF.negD_k, VF.cMod_k, VF.cDiv_k, VF.ixD_list, VF.ixD_tuple, VF.itD_k, VF.ixN_pos, VF.atI_pos, VF.lv0_int, VF.lv0_bool, VF.lv0_str, VF.lv0_none, VF.lv0_list, VF.lv0_tuple, VF.scal_int, VF.scal_bool, VF.scal_str, VF.scal_none, VF.scal_list, VF.scal_tuple, VF.neD_int, VF.eqD_int, VF.rng1_if, VF.rng2_if, VF.enumG_k, VF.zipG_k, Int.toNat_natCast, VF.notND_none, VF.notND_int, VF.notND_bool, VF.notND_str, VF.notND_list, VF.notND_tuple, VF.isND_none, VF.isND_int, VF.isND_list, VF.isND_tuple, VF.isND_exc, VF.eIsa_k, VF.lenD_list, VF.lenD_tuple, beq_self_eq_true, VF.slD_k, VF.cut_tail, VF.lzD_k, VF.wipeE, VF.lmin_nn, VF.up_n, VF.up_s, VF.lmin_ns, VF.lmin_sn, VF.lmin_ss, VF.owned_n, VF.owned_s, List.contains_cons, List.contains_nil, List.getElem?_cons_zero, List.getElem?_cons_succ, List.getElem?_nil, List.set_cons_zero, List.set_cons_succ, List.length_cons, List.length_nil, List.append_nil, List.cons_append, List.nil_append, List.replicate_succ, List.replicate_zero, Option.some.injEq, Bool.and_true, Bool.true_and, Bool.and_false, Bool.false_and, Bool.or_false, Bool.false_or, Bool.or_true, Bool.true_or, Bool.not_true, Bool.not_false, Nat.reduceBEq, Nat.reduceAdd, Nat.reduceSub, Nat.reduceLeDiff, Nat.reduceEqDiff, Nat.reduceLT, Int.reduceToNat, decide_true, decide_false, ↓reduceIte, reduceCtorEq, Bool.false_eq_true, Nat.zero_add, B_law_2, e, put_dr, sm, e2]
theorem is_want : Want := by
  intro ns hl hb
  have l1 : (cutD (ns.map PyData.int) none (some 6)).length + 1 ≤ SZ := by
    have := cut_len (ds := ns.map PyData.int) (a := none) (b := some 6)
    rw [List.length_map] at this
    show _ ≤ 1000000; omega
  have loop : ∃ t1 t2 t3, forR (tgN 1) B_law_2 (cutD (ns.map PyData.int) none (some 6) ++ [.int 0]) [.fz (.list (ns.map PyData.int)), .no, .no, .no] = .nx [.fz (.list (ns.map PyData.int)), t1, t2, t3] := by
    refine forR_to (b := tgN 1) (F := B_law_2) (ds := cutD (ns.map PyData.int) none (some 6) ++ [.int 0]) (fun j ρ => ∃ t1 t2 t3, ρ = [.fz (.list (ns.map PyData.int)), t1, t2, t3]) ⟨.no, .no, .no, rfl⟩ ?_ ?_
    · rintro j ρ d hd ⟨t1, t2, t3, rfl⟩
      have : ∃ i, d = .int i := by
        rcases List.mem_append.mp (List.mem_of_getElem? hd) with h | h
        · obtain ⟨i, _, rfl⟩ := List.mem_map.mp (cut_mem h)
          exact ⟨i, rfl⟩
        · exact ⟨0, List.mem_singleton.mp h⟩
      obtain ⟨i, rfl⟩ := this
      obtain ⟨u2, u3, e⟩ := v_cell (i := i) (s0 := .fz (.list (ns.map PyData.int))) (s2 := t2) (s3 := t3)
      exact ⟨_, _, rfl, .inl e, _, _, _, rfl⟩
    · rintro ρ' ⟨t1, t2, t3, rfl⟩ e
      exact ⟨t1, t2, t3, e⟩
  obtain ⟨t1, t2, t3, e⟩ := loop
  refine ⟨none, none, fn_eq ?_⟩
  simp (disch := (first | assumption | (simp only [VF.owned_n, VF.owned_s, VF.scal_int, VF.scal_bool, VF.scal_str, VF.scal_none, VF.scal_list, VF.scal_tuple, VF.SZ, List.length_cons, List.length_nil, List.length_set, List.length_append, List.length_map, List.length_range, Int.reduceToNat, Int.reduceLE, Int.reduceLT, Nat.reduceAdd, Nat.reduceLT, Nat.reduceLeDiff, Nat.reduceEqDiff, Nat.zero_add, Nat.zero_lt_succ, Int.toNat_natCast, ne_eq, reduceCtorEq, not_false_eq_true]; done) | (simp only [VF.owned_n, VF.owned_s, VF.scal_int, VF.scal_bool, VF.scal_str, VF.scal_none, VF.scal_list, VF.scal_tuple, VF.SZ, List.length_cons, List.length_nil, List.length_set, List.length_append, List.length_map, List.length_range, Int.reduceToNat, Int.reduceLE, Int.reduceLT, Nat.reduceAdd, Nat.reduceLT, Nat.reduceLeDiff, Nat.reduceEqDiff, Nat.zero_add, Nat.zero_lt_succ, Int.toNat_natCast, ne_eq, reduceCtorEq, not_false_eq_true]; first | assumption | omega) | decide | omega)) only [VF.sSq_k, VF.srB_nx, VF.srB_rt, VF.srB_rz, VF.srB_bk, VF.srB_ct, VF.sIf_k, VF.tsB_ok, VF.tsB_rz, VF.sFor_k, VF.gsB_ok, VF.gsB_rz, VF.sDrop_k, VF.sRet_k, VF.sAsg_k, VF.sAsgT_k, VF.sRz_k, VF.esB_ok, VF.esB_rz, VF.put_int, VF.put_bool, VF.put_str, VF.put_none, VF.put_0, VF.put_listn, VF.put_list1, VF.put_tupn, VF.put_tup1, VF.sRetV_k, VF.retVK_ow, VF.retVK_fz, VF.sApp_k, VF.sAppK_k, VF.appD_k, VF.appK_n, VF.appK_s, VF.sAppV_k, VF.sAppVK_ow, VF.sAppVK_fz, VF.sSet_k, VF.sSetK_k, VF.setK_k, VF.setD_k, VF.setDK_n, VF.setDK_s, VF.sNx, VF.sBk, VF.sCt, VF.sTry_k, VF.tryK_nx, VF.drp_fz, VF.drp_no, VF.drp_ow, VF.excD_s, VF.excD_n, VF.lv0_exc, VF.isXD_none, List.map_cons, List.map_nil, VF.retR_rt, VF.retR_nx, VF.retR_rz, VF.retOf_0, VF.retOf_1, VF.retK_k, VF.arg0, VF.evS_0, VF.evS_1, VF.evSJ_k, VF.esK0_n, VF.esK0_s, VF.esK0_rz, VF.esK1_n, VF.esK1_s, VF.evT_0, VF.evT_1, VF.evTJ_k, VF.tsK0_k, VF.tsK0_rz, VF.tsK1_k, VF.evG_0, VF.evG_1, VF.evGJ_k, VF.gsK0_t, VF.gsK0_f, VF.gsK1_t, VF.frzF_cons, VF.frzF_nil, VF.envF_cons, VF.envF_nil, VF.fr1_false, VF.fr1_fz, VF.fr1_no, VF.fr1_ow, VF.en1_fz, VF.en1_no, VF.en1_ow, VF.en1_own, VF.erB_ok, VF.erB_rz, VF.arB_ok, VF.arB_rz, VF.irB_ok, VF.irB_rz, VF.trB_ok, VF.trB_rz, VF.obB_ok, VF.gaB_ok, VF.gaB_rz, VF.c1_k, VF.c2_k, VF.c2'_k, VF.c3_k, VF.c4_k, VF.c4'_k, VF.c5_k, VF.c6_k, VF.c7_k, VF.c8_k, VF.c9_k, VF.c10_k, VF.c11_k, VF.c11'_k, VF.c12_k, VF.c13_k, VF.c13'_k, VF.c13''_k, VF.c14_k, VF.c15_k, VF.c16_k, VF.c17_k, VF.c18_k, VF.c19_k, VF.c20_k, VF.c21_k, VF.c22_k, VF.c23_k, VF.c24_k, VF.c25_k, VF.k1_k, VF.k1'_k, VF.k2_k, VF.k3_k, VF.k4_k, VF.eVar_k, VF.varK_k, VF.eC_k, VF.eOp1_k, VF.eOp2_k, VF.erO_k, VF.eCall_k, VF.aNil_k, VF.aCons_k, VF.eLst_k, VF.eTup_k, VF.eIf_k, VF.eAnd_k, VF.eOr_k, VF.eNot_k, VF.andK_k, VF.orK_k, VF.notK_k, VF.eCh_k, VF.chK_k, VF.eBd_none, VF.eBd_some, VF.bdK_k, VF.eSl_k, VF.uNil_k, VF.uCons_k, VF.uIo_k, VF.uPerm_k, VF.permL, VF.eUser_k, VF.usrK_none, VF.usrK_some, VF.usrJ_k, eq_self, VF.sTest_k, VF.tBool_k, VF.sTru_k, VF.tTru_bool, VF.tTru_int, VF.tTru_list, VF.tTru_none, VF.sNot_k, VF.sAnd_k, VF.sOr_k, VF.sYes_k, VF.gIter_k, VF.gSeq_list, VF.gSeq_tuple, VF.gArgs_k, VF.gaK_k, VF.eLc_k, VF.lcK_k, VF.iiD_k, VF.icD_if, VF.ibD_k, VF.intD_int, VF.intD_bool, VF.addD_int, VF.negD_k, VF.cMod_k, VF.cDiv_k, VF.ixD_list, VF.ixD_tuple, VF.itD_k, VF.ixN_pos, VF.atI_pos, VF.lv0_int, VF.lv0_bool, VF.lv0_str, VF.lv0_none, VF.lv0_list, VF.lv0_tuple, VF.scal_int, VF.scal_bool, VF.scal_str, VF.scal_none, VF.scal_list, VF.scal_tuple, VF.neD_int, VF.eqD_int, VF.rng1_if, VF.rng2_if, VF.enumG_k, VF.zipG_k, Int.toNat_natCast, VF.notND_none, VF.notND_int, VF.notND_bool, VF.notND_str, VF.notND_list, VF.notND_tuple, VF.isND_none, VF.isND_int, VF.isND_list, VF.isND_tuple, VF.isND_exc, VF.eIsa_k, VF.lenD_list, VF.lenD_tuple, beq_self_eq_true, VF.slD_k, VF.cut_tail, VF.lzD_k, VF.wipeE, VF.lmin_nn, VF.up_n, VF.up_s, VF.lmin_ns, VF.lmin_sn, VF.lmin_ss, VF.owned_n, VF.owned_s, List.contains_cons, List.contains_nil, List.getElem?_cons_zero, List.getElem?_cons_succ, List.getElem?_nil, List.set_cons_zero, List.set_cons_succ, List.length_cons, List.length_nil, List.append_nil, List.cons_append, List.nil_append, List.replicate_succ, List.replicate_zero, Option.some.injEq, Bool.and_true, Bool.true_and, Bool.and_false, Bool.false_and, Bool.or_false, Bool.false_or, Bool.or_true, Bool.true_or, Bool.not_true, Bool.not_false, Nat.reduceBEq, Nat.reduceAdd, Nat.reduceSub, Nat.reduceLeDiff, Nat.reduceEqDiff, Nat.reduceLT, Int.reduceToNat, decide_true, decide_false, ↓reduceIte, reduceCtorEq, Bool.false_eq_true, Nat.zero_add, F_law, addD_list, l1, e]
end K04
end
theorem K04.want : K04.Want := K04.is_want
open PySem PySem.W PyProof.Rows
set_option maxHeartbeats 0 in
theorem PySem.Challenge.cw_looporder_k04_walks_and_their_lengths_holds : PySem.Challenge.rw_looporder_k04_walks_and_their_lengths.Holds := by
  w_on; o_law; k_head; (case hw => w_witness2)
  k_fill
  refine VF.walk_ofG (l := PySem.Challenge.rw_looporder_k04_walks_and_their_lengths) (n := 63) (k := 7) (x := "_law_script") rfl (by decide) rfl ⟨rfl, by decide, by decide⟩ (fun w h Y => PySem.W.kIn_of Y) ?F
  case F =>
    intro w mg fa h KX G hmg
    refine' K04.law_mk K04.want KX G hmg ?z_ValueError ?z_bool ?z_enumerate ?z_int ?z_isinstance ?z_len ?z_list ?z_range ?z_repr ?z_sum ?z_tuple ?z_zip ?zVE ?vVE ?g_InvalidWeb ?x_InvalidWeb ?sa_InvalidWeb ?no_InvalidWeb ?ex_InvalidWeb ?ty_InvalidWeb ?kc_InvalidWeb ?a_InvalidWeb ?l_InvalidWeb ?c_InvalidWeb ?k_InvalidWeb ?ti_InvalidWeb ?g_InvalidWalk ?x_InvalidWalk ?sa_InvalidWalk ?no_InvalidWalk ?ex_InvalidWalk ?ty_InvalidWalk ?kc_InvalidWalk ?a_InvalidWalk ?l_InvalidWalk ?c_InvalidWalk ?k_InvalidWalk ?ti_InvalidWalk ?ga_InvalidWalk ?gg_InvalidWalk ?hd_InvalidWalk ?cl_InvalidWalk ?ca_InvalidWalk ?cm_InvalidWalk ?se_InvalidWalk ?sn_InvalidWalkX ?s_InvalidWalk_InvalidWeb ?sb_InvalidWalk_ValueError ?ga_InvalidWeb ?gg_InvalidWeb ?hd_InvalidWeb ?cl_InvalidWeb ?ca_InvalidWeb ?cm_InvalidWeb ?se_InvalidWeb ?sn_InvalidWebX ?s_InvalidWeb_InvalidWalk ?sb_InvalidWeb_ValueError ?sn_ValueError ?xkn ?xkt ?a_is_whole ?l_is_whole ?c_is_whole ?k_is_whole ?a_is_place ?l_is_place ?c_is_place ?k_is_place ?a_has_edge ?l_has_edge ?c_has_edge ?k_has_edge ?a_check_web ?l_check_web ?c_check_web ?k_check_web ?a__is_row ?l__is_row ?c__is_row ?k__is_row ?a_check_walk ?l_check_walk ?c_check_walk ?k_check_walk ?a_length_of ?l_length_of ?c_length_of ?k_length_of ?a__law_draws ?l__law_draws ?c__law_draws ?k__law_draws ?a__law_next ?l__law_next ?c__law_next ?k__law_next ?a__law_any_web ?l__law_any_web ?c__law_any_web ?k__law_any_web ?a__law_steps ?l__law_steps ?c__law_steps ?k__law_steps ?a__law_long ?l__law_long ?c__law_long ?k__law_long ?a__law_bad_webs ?l__law_bad_webs ?c__law_bad_webs ?k__law_bad_webs ?a__law_told ?l__law_told ?c__law_told ?k__law_told ?a__law_path ?l__law_path ?c__law_path ?k__law_path ?a__law_right ?l__law_right ?c__law_right ?k__law_right ?a_law ?l_law ?c_law ?k_law
    (case z_ValueError => first | k_is | rfl | decide +kernel | exact ⟨_, rfl⟩)
    (case z_bool => first | k_is | rfl | decide +kernel | exact ⟨_, rfl⟩)
    (case z_enumerate => first | k_is | rfl | decide +kernel | exact ⟨_, rfl⟩)
    (case z_int => first | k_is | rfl | decide +kernel | exact ⟨_, rfl⟩)
    (case z_isinstance => first | k_is | rfl | decide +kernel | exact ⟨_, rfl⟩)
    (case z_len => first | k_is | rfl | decide +kernel | exact ⟨_, rfl⟩)
    (case z_list => first | k_is | rfl | decide +kernel | exact ⟨_, rfl⟩)
    (case z_range => first | k_is | rfl | decide +kernel | exact ⟨_, rfl⟩)
    (case z_repr => first | k_is | rfl | decide +kernel | exact ⟨_, rfl⟩)
    (case z_sum => first | k_is | rfl | decide +kernel | exact ⟨_, rfl⟩)
    (case z_tuple => first | k_is | rfl | decide +kernel | exact ⟨_, rfl⟩)
    (case z_zip => first | k_is | rfl | decide +kernel | exact ⟨_, rfl⟩)
    (case zVE => first | k_is | rfl | decide +kernel | exact ⟨_, rfl⟩)
    (case vVE => first | k_is | rfl | decide +kernel | exact ⟨_, rfl⟩)
    (case g_InvalidWeb => first | k_is | rfl | decide +kernel | exact ⟨_, rfl⟩)
    (case x_InvalidWeb => first | k_is | rfl | decide +kernel | exact ⟨_, rfl⟩)
    (case sa_InvalidWeb => first | k_is | rfl | decide +kernel | exact ⟨_, rfl⟩)
    (case no_InvalidWeb => first | k_is | rfl | decide +kernel | exact ⟨_, rfl⟩)
    (case ex_InvalidWeb => first | k_is | rfl | decide +kernel | exact ⟨_, rfl⟩)
    (case ty_InvalidWeb => first | k_is | rfl | decide +kernel | exact ⟨_, rfl⟩)
    (case kc_InvalidWeb => first | k_is | rfl | decide +kernel | exact ⟨_, rfl⟩)
    (case a_InvalidWeb => first | k_is | rfl | decide +kernel | exact ⟨_, rfl⟩)
    (case l_InvalidWeb => first | k_is | rfl | decide +kernel | exact ⟨_, rfl⟩)
    (case c_InvalidWeb => first | k_is | rfl | decide +kernel | exact ⟨_, rfl⟩)
    (case k_InvalidWeb => first | k_is | rfl | decide +kernel | exact ⟨_, rfl⟩)
    (case ti_InvalidWeb => first | k_is | rfl | decide +kernel | exact ⟨_, rfl⟩)
    (case g_InvalidWalk => first | k_is | rfl | decide +kernel | exact ⟨_, rfl⟩)
    (case x_InvalidWalk => first | k_is | rfl | decide +kernel | exact ⟨_, rfl⟩)
    (case sa_InvalidWalk => first | k_is | rfl | decide +kernel | exact ⟨_, rfl⟩)
    (case no_InvalidWalk => first | k_is | rfl | decide +kernel | exact ⟨_, rfl⟩)
    (case ex_InvalidWalk => first | k_is | rfl | decide +kernel | exact ⟨_, rfl⟩)
    (case ty_InvalidWalk => first | k_is | rfl | decide +kernel | exact ⟨_, rfl⟩)
    (case kc_InvalidWalk => first | k_is | rfl | decide +kernel | exact ⟨_, rfl⟩)
    (case a_InvalidWalk => first | k_is | rfl | decide +kernel | exact ⟨_, rfl⟩)
    (case l_InvalidWalk => first | k_is | rfl | decide +kernel | exact ⟨_, rfl⟩)
    (case c_InvalidWalk => first | k_is | rfl | decide +kernel | exact ⟨_, rfl⟩)
    (case k_InvalidWalk => first | k_is | rfl | decide +kernel | exact ⟨_, rfl⟩)
    (case ti_InvalidWalk => first | k_is | rfl | decide +kernel | exact ⟨_, rfl⟩)
    (case ga_InvalidWalk => first | k_is | rfl | decide +kernel | exact ⟨_, rfl⟩)
    (case gg_InvalidWalk => first | k_is | rfl | decide +kernel | exact ⟨_, rfl⟩)
    (case hd_InvalidWalk => first | k_is | rfl | decide +kernel | exact ⟨_, rfl⟩)
    (case cl_InvalidWalk => first | k_is | rfl | decide +kernel | exact ⟨_, rfl⟩)
    (case ca_InvalidWalk => first | k_is | rfl | decide +kernel | exact ⟨_, rfl⟩)
    (case cm_InvalidWalk => first | k_is | rfl | decide +kernel | exact ⟨_, rfl⟩)
    (case se_InvalidWalk => first | k_is | rfl | decide +kernel | exact ⟨_, rfl⟩)
    (case sn_InvalidWalkX => first | k_is | rfl | decide +kernel | exact ⟨_, rfl⟩)
    (case s_InvalidWalk_InvalidWeb => first | k_is | rfl | decide +kernel | exact ⟨_, rfl⟩)
    (case sb_InvalidWalk_ValueError => first | k_is | rfl | decide +kernel | exact ⟨_, rfl⟩)
    (case ga_InvalidWeb => first | k_is | rfl | decide +kernel | exact ⟨_, rfl⟩)
    (case gg_InvalidWeb => first | k_is | rfl | decide +kernel | exact ⟨_, rfl⟩)
    (case hd_InvalidWeb => first | k_is | rfl | decide +kernel | exact ⟨_, rfl⟩)
    (case cl_InvalidWeb => first | k_is | rfl | decide +kernel | exact ⟨_, rfl⟩)
    (case ca_InvalidWeb => first | k_is | rfl | decide +kernel | exact ⟨_, rfl⟩)
    (case cm_InvalidWeb => first | k_is | rfl | decide +kernel | exact ⟨_, rfl⟩)
    (case se_InvalidWeb => first | k_is | rfl | decide +kernel | exact ⟨_, rfl⟩)
    (case sn_InvalidWebX => first | k_is | rfl | decide +kernel | exact ⟨_, rfl⟩)
    (case s_InvalidWeb_InvalidWalk => first | k_is | rfl | decide +kernel | exact ⟨_, rfl⟩)
    (case sb_InvalidWeb_ValueError => first | k_is | rfl | decide +kernel | exact ⟨_, rfl⟩)
    (case sn_ValueError => first | k_is | rfl | decide +kernel | exact ⟨_, rfl⟩)
    (case xkn => first | k_is | rfl | decide +kernel | exact ⟨_, rfl⟩)
    (case xkt => first | k_is | rfl | decide +kernel | exact ⟨_, rfl⟩)
    (case a_is_whole => first | k_is | rfl | decide +kernel | exact ⟨_, rfl⟩)
    (case l_is_whole => first | k_is | rfl | decide +kernel | exact ⟨_, rfl⟩)
    (case c_is_whole => first | k_is | rfl | decide +kernel | exact ⟨_, rfl⟩)
    (case k_is_whole => first | k_is | rfl | decide +kernel | exact ⟨_, rfl⟩)
    (case a_is_place => first | k_is | rfl | decide +kernel | exact ⟨_, rfl⟩)
    (case l_is_place => first | k_is | rfl | decide +kernel | exact ⟨_, rfl⟩)
    (case c_is_place => first | k_is | rfl | decide +kernel | exact ⟨_, rfl⟩)
    (case k_is_place => first | k_is | rfl | decide +kernel | exact ⟨_, rfl⟩)
    (case a_has_edge => first | k_is | rfl | decide +kernel | exact ⟨_, rfl⟩)
    (case l_has_edge => first | k_is | rfl | decide +kernel | exact ⟨_, rfl⟩)
    (case c_has_edge => first | k_is | rfl | decide +kernel | exact ⟨_, rfl⟩)
    (case k_has_edge => first | k_is | rfl | decide +kernel | exact ⟨_, rfl⟩)
    (case a_check_web => first | k_is | rfl | decide +kernel | exact ⟨_, rfl⟩)
    (case l_check_web => first | k_is | rfl | decide +kernel | exact ⟨_, rfl⟩)
    (case c_check_web => first | k_is | rfl | decide +kernel | exact ⟨_, rfl⟩)
    (case k_check_web => first | k_is | rfl | decide +kernel | exact ⟨_, rfl⟩)
    (case a__is_row => first | k_is | rfl | decide +kernel | exact ⟨_, rfl⟩)
    (case l__is_row => first | k_is | rfl | decide +kernel | exact ⟨_, rfl⟩)
    (case c__is_row => first | k_is | rfl | decide +kernel | exact ⟨_, rfl⟩)
    (case k__is_row => first | k_is | rfl | decide +kernel | exact ⟨_, rfl⟩)
    (case a_check_walk => first | k_is | rfl | decide +kernel | exact ⟨_, rfl⟩)
    (case l_check_walk => first | k_is | rfl | decide +kernel | exact ⟨_, rfl⟩)
    (case c_check_walk => first | k_is | rfl | decide +kernel | exact ⟨_, rfl⟩)
    (case k_check_walk => first | k_is | rfl | decide +kernel | exact ⟨_, rfl⟩)
    (case a_length_of => first | k_is | rfl | decide +kernel | exact ⟨_, rfl⟩)
    (case l_length_of => first | k_is | rfl | decide +kernel | exact ⟨_, rfl⟩)
    (case c_length_of => first | k_is | rfl | decide +kernel | exact ⟨_, rfl⟩)
    (case k_length_of => first | k_is | rfl | decide +kernel | exact ⟨_, rfl⟩)
    (case a__law_draws => first | k_is | rfl | decide +kernel | exact ⟨_, rfl⟩)
    (case l__law_draws => first | k_is | rfl | decide +kernel | exact ⟨_, rfl⟩)
    (case c__law_draws => first | k_is | rfl | decide +kernel | exact ⟨_, rfl⟩)
    (case k__law_draws => first | k_is | rfl | decide +kernel | exact ⟨_, rfl⟩)
    (case a__law_next => first | k_is | rfl | decide +kernel | exact ⟨_, rfl⟩)
    (case l__law_next => first | k_is | rfl | decide +kernel | exact ⟨_, rfl⟩)
    (case c__law_next => first | k_is | rfl | decide +kernel | exact ⟨_, rfl⟩)
    (case k__law_next => first | k_is | rfl | decide +kernel | exact ⟨_, rfl⟩)
    (case a__law_any_web => first | k_is | rfl | decide +kernel | exact ⟨_, rfl⟩)
    (case l__law_any_web => first | k_is | rfl | decide +kernel | exact ⟨_, rfl⟩)
    (case c__law_any_web => first | k_is | rfl | decide +kernel | exact ⟨_, rfl⟩)
    (case k__law_any_web => first | k_is | rfl | decide +kernel | exact ⟨_, rfl⟩)
    (case a__law_steps => first | k_is | rfl | decide +kernel | exact ⟨_, rfl⟩)
    (case l__law_steps => first | k_is | rfl | decide +kernel | exact ⟨_, rfl⟩)
    (case c__law_steps => first | k_is | rfl | decide +kernel | exact ⟨_, rfl⟩)
    (case k__law_steps => first | k_is | rfl | decide +kernel | exact ⟨_, rfl⟩)
    (case a__law_long => first | k_is | rfl | decide +kernel | exact ⟨_, rfl⟩)
    (case l__law_long => first | k_is | rfl | decide +kernel | exact ⟨_, rfl⟩)
    (case c__law_long => first | k_is | rfl | decide +kernel | exact ⟨_, rfl⟩)
    (case k__law_long => first | k_is | rfl | decide +kernel | exact ⟨_, rfl⟩)
    (case a__law_bad_webs => first | k_is | rfl | decide +kernel | exact ⟨_, rfl⟩)
    (case l__law_bad_webs => first | k_is | rfl | decide +kernel | exact ⟨_, rfl⟩)
    (case c__law_bad_webs => first | k_is | rfl | decide +kernel | exact ⟨_, rfl⟩)
    (case k__law_bad_webs => first | k_is | rfl | decide +kernel | exact ⟨_, rfl⟩)
    (case a__law_told => first | k_is | rfl | decide +kernel | exact ⟨_, rfl⟩)
    (case l__law_told => first | k_is | rfl | decide +kernel | exact ⟨_, rfl⟩)
    (case c__law_told => first | k_is | rfl | decide +kernel | exact ⟨_, rfl⟩)
    (case k__law_told => first | k_is | rfl | decide +kernel | exact ⟨_, rfl⟩)
    (case a__law_path => first | k_is | rfl | decide +kernel | exact ⟨_, rfl⟩)
    (case l__law_path => first | k_is | rfl | decide +kernel | exact ⟨_, rfl⟩)
    (case c__law_path => first | k_is | rfl | decide +kernel | exact ⟨_, rfl⟩)
    (case k__law_path => first | k_is | rfl | decide +kernel | exact ⟨_, rfl⟩)
    (case a__law_right => first | k_is | rfl | decide +kernel | exact ⟨_, rfl⟩)
    (case l__law_right => first | k_is | rfl | decide +kernel | exact ⟨_, rfl⟩)
    (case c__law_right => first | k_is | rfl | decide +kernel | exact ⟨_, rfl⟩)
    (case k__law_right => first | k_is | rfl | decide +kernel | exact ⟨_, rfl⟩)
    (case a_law => first | k_is | rfl | decide +kernel | exact ⟨_, rfl⟩)
    (case l_law => first | k_is | rfl | decide +kernel | exact ⟨_, rfl⟩)
    (case c_law => first | k_is | rfl | decide +kernel | exact ⟨_, rfl⟩)
    (case k_law => first | k_is | rfl | decide +kernel | exact ⟨_, rfl⟩)
