import PyProof.Rows.All
import Wide.All
import OpenK.AllK
import Wide.FinOn
import HandS.ExcIs
import KE.KExcIs
import HandS.ExcField
import HandS.ForMost
import HandS.Exc
import HandS.Defaults
import HandS.Lambda
import HandS.TupMul
import HandS.Wide
import HandS.TupAny
import HandS.TupLe
import HandS.IsInst
import HandS.Conv
import HandS.Gcd
import HandS.Style
import HandS.SortInts
import HandS.Text
import KE.KStateDown
import HandS.Head0
import HandS.Head1
import HandS.Head2
import HandS.Head3
import HandS.HeadEnd
import HandS.HeadHook1
import HandS.HeadHook2
import HandS.OwnEq
import HandS.Zip
import HandS.NoneIn
import KE.GoesMore
import KE.GoesEnum
import HandS.Deep
import HandS.ClsMeth
import HandS.MakeKw
import HandS.HeadNt
import KE.KCallOwn
import PyProof.InstSpecial
import HandS.StrMore
import HandS.ExcCtx
import HandS.ExcInit
import HandS.CallSlots
import HandS.HeadHook3
import HandS.HeadHook4
import HandS.HeadWalk
import HandS.FStr
import HandS.SetFor
import PyProof.LongRange
import HandS.WideBits
import PyProof.NoPylong
import HandS.Steps
import HandS.Iter
import HandS.Flow
import HandS.SetKeys
import PyProof.ListStr
import PyProof.StrOps2
import KE.KIndexOf
import PySem.Challenge.RW_anyseven_k07_least_and_greatest_sums
set_option Elab.async false
set_option linter.all false
set_option maxRecDepth 100000
set_option maxHeartbeats 4000000
section
/-! A layer of our own: what a body does to deep data. D: data; Rp: a value stands for a datum; Env: what the slots hold; We, Wt, Wa, Ws: what an expression, a test, arguments, statements do to data. -/
namespace Z
open PySem L2

inductive D where
  | non
  | bl (b : Bool)
  | int (i : Int)
  | str (x : Str)
  | lst (ds : List D)
  | tup (ds : List D)
  | ob (C : Addr) (fs : List (Str × D))
  | ad (a : Addr)
  | ty (n : String)
  | scr (ns : List Int)
  | ex (C : Addr) (fs : List (Str × D))
  | dk (kvs : List (Key × D))
  | st (S : Int → Bool) (n : Nat)
  | px (φ : Addr → HO → Prop)
  deriving Inhabited
/-- what is known of a kept error's place -/
abbrev kept (a : Addr) (oe : Obj) : HO := .ext fun h => h.get? a = some oe

def Ex (H H' : Hp) : Prop := ∀ a o, H a = some o → H' a = some o
theorem Ex.refl (H : Hp) : Ex H H := fun _ _ h => h
theorem Ex.trans {H H1 H2 : Hp} (a : Ex H H1) (b : Ex H1 H2) : Ex H H2 := fun x o h => b x o (a x o h)
theorem Ex.new {H : Hp} {p : Addr} {o : HO} (h : H p = none) : Ex H (upd H p o) := fun a u e => by
  rw [upd_ne (ne_of_none e h)]
  exact e
theorem Ex.rd {H H' : Hp} {a : Addr} {u : HO} (e : Ex H H') (h : Rd H a u) : Rd H' a u := by
  rcases h with h | ⟨o, h⟩
  · exact Or.inl (e a _ h)
  · exact Or.inr ⟨o, e a _ h⟩
theorem Ex.l {K : PySem.W.Frag} {H H' : Hp} {a : Addr} {xs : List V} (e : Ex H H') (h : SqL K H a xs) : SqL K H' a xs := by
  rcases h with h | h
  · exact Or.inl (e.rd h)
  · exact Or.inr h
theorem Ex.t {K : PySem.W.Frag} {H H' : Hp} {a : Addr} {xs : List V} (e : Ex H H') (h : SqT K H a xs) : SqT K H' a xs := by
  rcases h with h | h
  · exact Or.inl (e.rd h)
  · exact Or.inr h
theorem Ex.free {H H' : Hp} (e : Ex H H') {p : Addr} (h : H' p = none) : H p = none := by
  cases q : H p with
  | none => rfl
  | some o => rw [e p o q] at h; cases h

mutual
inductive Rp (K : PySem.W.Frag) (G : Hp) : V → D → Prop
  | non : Rp K G .non .non
  | bl (b : Bool) : Rp K G (.bl b) (.bl b)
  | int (i : Int) : Rp K G (.int i) (.int i)
  | str (x : Str) : Rp K G (.str x) (.str x)
  | lst {a : Addr} {vs : List V} {ds : List D} : G a = some (.lst vs) → Rps K G vs ds → Rp K G (.ref a) (.lst ds)
  | tup {a : Addr} {vs : List V} {ds : List D} : SqT K G a vs → Rps K G vs ds → Rp K G (.ref a) (.tup ds)
  | ob {a C dx : Addr} {vs : List (Str × V)} {fs : List (Str × D)} : G a = some (.ins C dx vs) → Rpf K G vs fs → Rp K G (.ref a) (.ob C fs)
  | ad (a : Addr) : Rp K G (.ref a) (.ad a)
  | ty (n : String) : Rp K G (.ty n) (.ty n)
  | scr {a : Addr} {ns : List Int} : SqL K G a (ns.map V.int) → Rp K G (.ref a) (.scr ns)
  | ex {a C dd : Addr} {oe : Obj} {vs : List (Str × V)} {fs : List (Str × D)} : G a = some (kept a oe) → Zc (.ref C) (some dd) oe → (∃ us, oe.data = .fields us) → G dd = some (.xd vs) → Rpf K G vs fs → Rp K G (.ref a) (.ex C fs)
  | dk {a : Addr} {vs : List (Key × V)} {ds : List (Key × D)} : G a = some (.dK vs) → Rpk K G vs ds → Rp K G (.ref a) (.dk ds)
  | st {a : Addr} {S : Int → Bool} {n : Nat} : G a = some (.set S n) → Rp K G (.ref a) (.st S n)
  | px {a : Addr} {o : HO} {φ : Addr → HO → Prop} : G a = some o → φ a o → Rp K G (.ref a) (.px φ)
inductive Rps (K : PySem.W.Frag) (G : Hp) : List V → List D → Prop
  | nil : Rps K G [] []
  | cons {v : V} {d : D} {vs : List V} {ds : List D} : Rp K G v d → Rps K G vs ds → Rps K G (v :: vs) (d :: ds)
inductive Rpf (K : PySem.W.Frag) (G : Hp) : List (Str × V) → List (Str × D) → Prop
  | nil : Rpf K G [] []
  | cons {k : Str} {v : V} {d : D} {vs : List (Str × V)} {ds : List (Str × D)} : Rp K G v d → Rpf K G vs ds → Rpf K G ((k, v) :: vs) ((k, d) :: ds)
inductive Rpk (K : PySem.W.Frag) (G : Hp) : List (Key × V) → List (Key × D) → Prop
  | nil : Rpk K G [] []
  | cons {k : Key} {v : V} {d : D} {vs : List (Key × V)} {ds : List (Key × D)} : Rp K G v d → Rpk K G vs ds → Rpk K G ((k, v) :: vs) ((k, d) :: ds)
end
section
variable {K : PySem.W.Frag} {G G' : Hp}
mutual
theorem Rp.mono (e : Ex G G') : ∀ {v : V} {d : D}, Rp K G v d → Rp K G' v d
  | _, _, .non => .non
  | _, _, .bl b => .bl b
  | _, _, .int i => .int i
  | _, _, .str x => .str x
  | _, _, .lst h r => .lst (e _ _ h) (Rps.mono e r)
  | _, _, .tup h r => .tup (e.t h) (Rps.mono e r)
  | _, _, .ob h r => .ob (e _ _ h) (Rpf.mono e r)
  | _, _, .ad a => .ad a
  | _, _, .ty n => .ty n
  | _, _, .scr h => .scr (e.l h)
  | _, _, .ex h z u k r => .ex (e _ _ h) z u (e _ _ k) (Rpf.mono e r)
  | _, _, .dk h r => .dk (e _ _ h) (Rpk.mono e r)
  | _, _, .st h => .st (e _ _ h)
  | _, _, .px h r => .px (e _ _ h) r
theorem Rps.mono (e : Ex G G') : ∀ {vs : List V} {ds : List D}, Rps K G vs ds → Rps K G' vs ds
  | _, _, .nil => .nil
  | _, _, .cons h r => .cons (Rp.mono e h) (Rps.mono e r)
theorem Rpf.mono (e : Ex G G') : ∀ {vs : List (Str × V)} {ds : List (Str × D)}, Rpf K G vs ds → Rpf K G' vs ds
  | _, _, .nil => .nil
  | _, _, .cons h r => .cons (Rp.mono e h) (Rpf.mono e r)
theorem Rpk.mono (e : Ex G G') : ∀ {vs : List (Key × V)} {ds : List (Key × D)}, Rpk K G vs ds → Rpk K G' vs ds
  | _, _, .nil => .nil
  | _, _, .cons h r => .cons (Rp.mono e h) (Rpk.mono e r)
end
theorem Rps.length : ∀ {vs : List V} {ds : List D}, Rps K G vs ds → vs.length = ds.length
  | _, _, .nil => rfl
  | _, _, .cons _ r => by rw [List.length_cons, List.length_cons, Rps.length r]
theorem Rps.get : ∀ {vs : List V} {ds : List D} {i : Nat} {d : D}, Rps K G vs ds → ds[i]? = some d → ∃ v, vs[i]? = some v ∧ Rp K G v d
  | _, _, _, _, .nil, e => by simp at e
  | _, _, 0, _, .cons r _, e => by simp at e; subst e; exact ⟨_, rfl, r⟩
  | _, _, i + 1, d, .cons _ t, e => by
    obtain ⟨u, h1, h2⟩ := Rps.get (i := i) (d := d) t (by simpa using e)
    exact ⟨u, by simpa using h1, h2⟩
theorem Rps.append : ∀ {vs ws : List V} {ds es : List D}, Rps K G vs ds → Rps K G ws es → Rps K G (vs ++ ws) (ds ++ es)
  | _, _, _, _, .nil, s => s
  | _, _, _, _, .cons r t, s => .cons r (Rps.append t s)
theorem Rps.take : ∀ {vs : List V} {ds : List D} (n : Nat), Rps K G vs ds → Rps K G (vs.take n) (ds.take n)
  | _, _, 0, _ => .nil
  | _, _, _ + 1, .nil => .nil
  | _, _, n + 1, .cons r t => .cons r (Rps.take n t)
theorem Rps.drop : ∀ {vs : List V} {ds : List D} (n : Nat), Rps K G vs ds → Rps K G (vs.drop n) (ds.drop n)
  | _, _, 0, r => r
  | _, _, _ + 1, .nil => .nil
  | _, _, n + 1, .cons _ t => Rps.drop n t
theorem Rps.set {v : V} {d : D} (r : Rp K G v d) : ∀ {vs : List V} {ds : List D} (i : Nat), Rps K G vs ds → Rps K G (vs.set i v) (ds.set i d)
  | _, _, _, .nil => .nil
  | _, _, 0, .cons _ t => .cons r t
  | _, _, i + 1, .cons q t => .cons q (Rps.set r i t)
theorem Rps.reverse {vs : List V} {ds : List D} (r : Rps K G vs ds) : Rps K G vs.reverse ds.reverse := by
  induction vs generalizing ds with
  | nil => cases r; exact .nil
  | cons v vs ih =>
    cases r with
    | cons h t =>
      rw [List.reverse_cons, List.reverse_cons]
      exact (ih t).append (.cons h .nil)
theorem Rpf.look : ∀ {vs : List (Str × V)} {fs : List (Str × D)} {f : Str} {d : D}, Rpf K G vs fs → fs.lookup f = some d → ∃ v, vs.lookup f = some v ∧ Rp K G v d
  | _, _, _, _, .nil, e => by simp at e
  | _, _, f, d, .cons (k := k) r t, e => by
    by_cases h : f = k
    · subst h
      simp [List.lookup] at e ⊢
      subst e
      exact r
    · have hb : (f == k) = false := by simpa using h
      simp only [List.lookup, hb] at e ⊢
      exact Rpf.look t e
theorem Rpf.nolook : ∀ {vs : List (Str × V)} {fs : List (Str × D)} {f : Str}, Rpf K G vs fs → fs.lookup f = none → vs.lookup f = none
  | _, _, _, .nil, e => rfl
  | _, _, f, .cons (k := k) r t, e => by
    by_cases h : f = k
    · subst h
      simp [List.lookup] at e
    · have hb : (f == k) = false := by simpa using h
      simp only [List.lookup, hb] at e ⊢
      exact Rpf.nolook t e
theorem Rpf.length : ∀ {vs : List (Str × V)} {fs : List (Str × D)}, Rpf K G vs fs → vs.length = fs.length
  | _, _, .nil => rfl
  | _, _, .cons _ r => by rw [List.length_cons, List.length_cons, Rpf.length r]
def putD (f : Str) (v : D) : List (Str × D) → List (Str × D)
  | [] => [(f, v)]
  | (k, u) :: r => if k = f then (k, v) :: r else (k, u) :: putD f v r
theorem Rpf.put {f : Str} {v : V} {d : D} (r : Rp K G v d) : ∀ {vs : List (Str × V)} {fs : List (Str × D)}, Rpf K G vs fs → Rpf K G (putF f v vs) (putD f d fs)
  | _, _, .nil => .cons r .nil
  | _, _, .cons (k := k) h t => by
    show Rpf K G (if k = f then _ else _) (if k = f then _ else _)
    by_cases q : k = f
    · rw [if_pos q, if_pos q]
      exact .cons r t
    · rw [if_neg q, if_neg q]
      exact .cons h (Rpf.put r t)
end

/-! ### the context of a call, the slots, the state -/
structure Cn where
  F : Option Addr
  B : Hp
  G0 : Hp
  ca : Addr
  cells : List Int
  T : List (Addr × Str)
inductive Sl where
  | no
  | d (x : D)
  | own (ds : List D)
  | slf (x C : Addr) (fs : List (Str × D))
structure Env where
  sl : List Sl
  n : Nat
def Env.set (E : Env) (i : Nat) (x : Sl) : Env := ⟨E.sl.set i x, E.n⟩
def Env.at (E : Env) (n : Nat) : Env := ⟨E.sl, n⟩
def Env.up (E : Env) (m : Nat) : Env := ⟨E.sl, E.n + m⟩
def isOwn : Sl → Prop
  | .own _ => True
  | .slf _ _ _ => True
  | _ => False
/-- what a step may not touch where tables of code objects (T) may grow -/
def Kp (T : List (Addr × Str)) (o : HO) : Prop := T ≠ [] → ∀ ps, o ≠ .tbl ps
theorem kp0 {o : HO} : Kp [] o := fun h => absurd rfl h
theorem kp_lst {T : List (Addr × Str)} {vs : List V} : Kp T (.lst vs) := fun _ _ e => by cases e
theorem kp_ins {T : List (Addr × Str)} {C d : Addr} {vs : List (Str × V)} : Kp T (.ins C d vs) := fun _ _ e => by cases e
theorem tabs_keep {T : List (Addr × Str)} {H H' : Hp} (t : LamX.Tabs T H) (k : ∀ a o, H a = some o → (∀ vs, o ≠ .lst vs) → H' a = some o) : LamX.Tabs T H' := fun p hp => by
  obtain ⟨ps, h1, h2, h3⟩ := t p hp
  refine ⟨ps, k _ _ h1 (fun _ e => by cases e), h2, fun pos cv hc => ?_⟩
  obtain ⟨c, e1, e2⟩ := h3 pos cv hc
  exact ⟨c, e1, k _ _ e2 (fun _ e => by cases e)⟩
theorem tabs_lst {T : List (Addr × Str)} {H : Hp} {p : Addr} {vs : List V} {o : HO} (t : LamX.Tabs T H) (hp : H p = some (.lst vs)) : LamX.Tabs T (upd H p o) := tabs_keep t fun a u e n => by
  rw [upd_ne (fun z => by subst z; rw [hp] at e; cases e; exact n _ rfl)]; exact e
theorem tabs_ins {T : List (Addr × Str)} {H : Hp} {p C d : Addr} {fs : List (Str × V)} {o : HO} (t : LamX.Tabs T H) (hp : H p = some (.ins C d fs)) : LamX.Tabs T (upd H p o) := fun q hq => by
  obtain ⟨ps, h1, h2, h3⟩ := t q hq
  refine ⟨ps, by rw [upd_ne (fun z => by rw [z, hp] at h1; cases h1)]; exact h1, h2, fun pos cv hc => ?_⟩
  obtain ⟨c, e1, e2⟩ := h3 pos cv hc
  exact ⟨c, e1, by rw [upd_ne (fun z => by rw [z, hp] at e2; cases e2)]; exact e2⟩
def SlOk (K : PySem.W.Frag) (c : Cn) (G H : Hp) (v : Option V) : Sl → Prop
  | .no => True
  | .d x => ∃ u, v = some u ∧ Rp K G u x
  | .own ds => ∃ p vs, v = some (.ref p) ∧ G p = none ∧ c.B p = none ∧ H p = some (.lst vs) ∧ Rps K G vs ds
  | .slf p C fs => ∃ dx vs, v = some (.ref p) ∧ G p = none ∧ c.B p = none ∧ H p = some (.ins C dx vs) ∧ Rpf K G vs fs
/-- the tap at t: what draws; its cells at a -/
def TapAt (t a : Addr) (n : Nat) (H : Hp) : Prop := ∃ (spot left : Int), H t = some (.lst [.ref a, .int spot, .int left]) ∧ 0 ≤ spot ∧ spot ≤ (n : Int) ∧ 0 ≤ left
def TapOk (c : Cn) (n : Nat) (H : Hp) : Prop := match c.F with
  | none => True
  | some t => TapAt t c.ca n H
structure As (K : PySem.W.Frag) (c : Cn) (G : Hp) (σ : St) (E : Env) (H : Hp) : Prop where
  ex : Ex G H
  g0 : Ex c.G0 G
  keep : ∀ (a : Addr) (o : HO), c.B a = some o → c.F ≠ some a → Kp c.T o → H a = some o
  sep : ∀ (a : Addr), c.B a ≠ none → c.G0 a = none → G a = none
  tB : ∀ t, c.F = some t → c.B t ≠ none ∧ c.G0 t = none ∧ c.G0 c.ca = some (.lst (c.cells.map V.int)) ∧ c.cells.length ≤ 63
  len : σ.length = E.sl.length
  sl : ∀ (i : Nat) (s : Sl), E.sl[i]? = some s → SlOk K c G H ((σ[i]?).join) s
  ne : ∀ (i j : Nat) (s u : Sl) (p : Addr), E.sl[i]? = some s → E.sl[j]? = some u → isOwn s → isOwn u → σ[i]? = some (some (.ref p)) → σ[j]? = some (some (.ref p)) → i = j
  tap : TapOk c E.n H
  gt : ∀ a ps, G a = some (.tbl ps) → c.G0 a = some (.tbl ps)
  st : c.T ≠ [] → (∀ a ps, c.G0 a ≠ some (.tbl ps)) ∧ ∀ a ps, c.B a ≠ some (.tbl ps)
  tb : LamX.Tabs c.T H
theorem As.kB {K : PySem.W.Frag} {c : Cn} {G : Hp} {σ : St} {E : Env} {H : Hp} (A : As K c G σ E H) {a : Addr} {o : HO} (e : c.B a = some o) : Kp c.T o := fun hT ps z => (A.st hT).2 a ps (z ▸ e)
theorem As.gtU {K : PySem.W.Frag} {c : Cn} {G : Hp} {σ : St} {E : Env} {H : Hp} (A : As K c G σ E H) {p : Addr} {o : HO} (ho : ∀ ps, o ≠ .tbl ps) : ∀ a ps, upd G p o a = some (.tbl ps) → c.G0 a = some (.tbl ps) := fun a ps e => by
  by_cases z : a = p
  · subst z; rw [upd_same] at e; exact absurd (Option.some_inj.mp e) (ho ps)
  · rw [upd_ne z] at e; exact A.gt a ps e
/-- what a step leaves of the heap: all but the tap's list; what is new of what is known is new -/
structure Mv (c : Cn) (G H G' H' : Hp) : Prop where
  ex : Ex G G'
  ext : Ex G' H'
  keep : ∀ a o, H a = some o → c.F ≠ some a → Kp c.T o → H' a = some o
  new : ∀ a o, H a = some o → Kp c.T o → G a = none → G' a = none
  gt : ∀ a ps, G' a = some (.tbl ps) → G a = some (.tbl ps)
theorem Mv.refl {c : Cn} {G H : Hp} (h : Ex G H) : Mv c G H G H := ⟨Ex.refl _, h, fun _ _ h _ _ => h, fun _ _ _ _ h => h, fun _ _ h => h⟩
/-- a new object is laid and known -/
theorem Mv.laid {c : Cn} {G H : Hp} {p : Addr} {o : HO} (h : Ex G H) (hp : H p = none) (ho : ∀ ps, o ≠ .tbl ps := by exact fun _ e => by cases e) : Mv c G H (upd G p o) (upd H p o) where
  ex := Ex.new (h.free hp)
  ext := fun a u e => by
    by_cases q : a = p
    · subst q; rw [upd_same] at e ⊢; exact e
    · rw [upd_ne q] at e ⊢; exact h a u e
  keep := fun a u e _ _ => by rw [upd_ne (ne_of_none e hp)]; exact e
  new := fun a u e _ g => by
    by_cases q : a = p
    · subst q; rw [hp] at e; cases e
    · rw [upd_ne q]; exact g
  gt := fun a ps e => by
    by_cases q : a = p
    · subst q; rw [upd_same] at e; exact absurd (Option.some_inj.mp e) (ho ps)
    · rw [upd_ne q] at e; exact e
/-- a new object is laid, not known -/
theorem Mv.hid {c : Cn} {G H : Hp} {p : Addr} {o : HO} (h : Ex G H) (hp : H p = none) : Mv c G H G (upd H p o) where
  ex := Ex.refl _
  ext := h.trans (Ex.new hp)
  keep := fun a u e _ _ => by rw [upd_ne (ne_of_none e hp)]; exact e
  new := fun _ _ _ _ g => g
  gt := fun _ _ e => e
section
variable {K : PySem.W.Frag} {c : Cn} {G H G' H' : Hp} {σ : St} {E : Env}
theorem SlOk.move {v : Option V} {s : Sl} (m : Mv c G H G' H') (hF : ∀ t, c.F = some t → c.B t ≠ none) (h : SlOk K c G H v s) : SlOk K c G' H' v s := by
  cases s with
  | no => trivial
  | d x => obtain ⟨u, e, r⟩ := h; exact ⟨u, e, r.mono m.ex⟩
  | own ds =>
    obtain ⟨p, vs, e, g, b, hp, r⟩ := h
    exact ⟨p, vs, e, m.new p _ hp kp_lst g, b, m.keep p _ hp (fun q => hF p q b) kp_lst, r.mono m.ex⟩
  | slf p C fs =>
    obtain ⟨dx, vs, e, g, b, hp, r⟩ := h
    exact ⟨dx, vs, e, m.new p _ hp kp_ins g, b, m.keep p _ hp (fun q => hF p q b) kp_ins, r.mono m.ex⟩
theorem TapOk.keep {n : Nat} (h : TapOk c n H) (k : ∀ a o, H a = some o → H' a = some o) : TapOk c n H' := by
  unfold TapOk at h ⊢
  cases q : c.F with
  | none => trivial
  | some t =>
    rw [q] at h
    obtain ⟨spot, left, h1, h2⟩ := h
    exact ⟨spot, left, k _ _ h1, h2⟩
/-- a step of the heap under the same slots -/
theorem As.move (A : As K c G σ E H) {n : Nat} (m : Mv c G H G' H') (t : TapOk c n H') (tb : LamX.Tabs c.T H') : As K c G' σ (E.at n) H' where
  ex := m.ext
  g0 := A.g0.trans m.ex
  keep := fun a o b f k => m.keep a o (A.keep a o b f k) f k
  sep := fun a b g => by
    cases e : c.B a with
    | none => exact absurd e b
    | some o =>
      by_cases f : c.F = some a
      · have := A.tap
        unfold TapOk at this
        rw [f] at this
        obtain ⟨_, _, h1, _⟩ := this
        exact m.new a _ h1 kp_lst (A.sep a b g)
      · exact m.new a o (A.keep a o e f (A.kB e)) (A.kB e) (A.sep a b g)
  tB := A.tB
  len := A.len
  sl := fun i s e => (A.sl i s e).move m fun t q => (A.tB t q).1
  ne := A.ne
  tap := t
  gt := fun a ps e => A.gt a ps (m.gt a ps e)
  st := A.st
  tb := tb
theorem As.move0 (A : As K c G σ E H) (m : Mv c G H G' H') (k : ∀ a o, H a = some o → H' a = some o) : As K c G' σ E H' := A.move m (A.tap.keep k) (A.tb.ext k)
end
end Z
end
section
namespace Z
open PySem L2

structure Mw (c : Cn) (G H G' H' : Hp) : Prop where
  ex : Ex G G'
  keep : ∀ a o, H a = some o → c.F ≠ some a → Kp c.T o → H' a = some o
theorem Mw.refl {c : Cn} {G H : Hp} : Mw c G H G H := ⟨Ex.refl _, fun _ _ h _ _ => h⟩
theorem Mw.trans {c : Cn} {G H G1 H1 G2 H2 : Hp} (a : Mw c G H G1 H1) (b : Mw c G1 H1 G2 H2) : Mw c G H G2 H2 :=
  ⟨a.ex.trans b.ex, fun x o h f k => b.keep x o (a.keep x o h f k) f k⟩
theorem Mv.mw {c : Cn} {G H G' H' : Hp} (m : Mv c G H G' H') : Mw c G H G' H' := ⟨m.ex, m.keep⟩

/-- what a def's body may do besides: draw from the tap at F, leave by an exception -/
structure Fx where
  F : Option Addr
  EX : XK
  xp : Addr → List (Str × D) → Nat → Prop
  cells : List Int := []
  T : List (Addr × Str) := []
def XOk (K : PySem.W.Frag) (c : Cn) (fx : Fx) : Prop := (c.F = fx.F ∧ c.cells = fx.cells) ∧ (∀ (C : Addr) (fs : List (Str × V)) (fds : List (Str × D)) (d : Addr) (G' : Hp) (σ' : St) (E' : Env) (H' : Hp), fx.xp C fds E'.n → As K c G' σ' E' H' → H' d = some (.xd fs) → Rpf K G' fs fds → c.B d = none → fx.EX (.ref C) (some d) H') ∧ c.T = fx.T
/-- no exception leaves -/
def fx0 (F : Option Addr) : Fx := ⟨F, fun _ _ _ => False, fun _ _ _ => False, [], []⟩

/-- p is a list in hand: none knows it, no slot has it -/
def Frs (c : Cn) (G : Hp) (σ : St) (E : Env) (p : Addr) : Prop := G p = none ∧ c.B p = none ∧ ∀ (i : Nat), σ[i]? = some (some (V.ref p)) → ∀ s, E.sl[i]? = some s → ¬ isOwn s

def We (K : PySem.W.Frag) (fx : Fx) (te : TE) (E : Env) (Q : D → Env → Prop) : Prop :=
  ∀ (c : Cn) (G : Hp) (σ : St) (H : Hp), XOk K c fx → As K c G σ E H → ∀ P : VK, (∀ v d E' G' H', Q d E' → As K c G' σ E' H' → Mw c G H G' H' → Rp K G' v d → P v H') → te σ H P
def Wo (K : PySem.W.Frag) (fx : Fx) (te : TE) (E : Env) (Q : List D → Env → Prop) : Prop :=
  ∀ (c : Cn) (G : Hp) (σ : St) (H : Hp), XOk K c fx → As K c G σ E H → ∀ P : VK, (∀ p vs ds E' G' H', Q ds E' → As K c G' σ E' H' → Mw c G H G' H' → Frs c G' σ E' p → H' p = some (.lst vs) → Rps K G' vs ds → P (.ref p) H') → te σ H P
def Wt (K : PySem.W.Frag) (fx : Fx) (tt : TT) (E : Env) (Q : Bool → Env → Prop) : Prop :=
  ∀ (c : Cn) (G : Hp) (σ : St) (H : Hp), XOk K c fx → As K c G σ E H → ∀ P : Bool → Hp → Prop, (∀ b E' G' H', Q b E' → As K c G' σ E' H' → Mw c G H G' H' → P b H') → tt σ H P
def Wa (K : PySem.W.Frag) (fx : Fx) (ta : TA) (E : Env) (Q : List D → Env → Prop) : Prop :=
  ∀ (c : Cn) (G : Hp) (σ : St) (H : Hp), XOk K c fx → As K c G σ E H → ∀ P : List V → Hp → Prop, (∀ vs ds E' G' H', Q ds E' → As K c G' σ E' H' → Mw c G H G' H' → Rps K G' vs ds → P vs H') → ta σ H P
/-- a two-place operation on values; a call on values -/
def Rop (K : PySem.W.Frag) (fx : Fx) (r : R2) (x y : D) (E : Env) (Q : D → Env → Prop) : Prop :=
  ∀ (c : Cn) (G : Hp) (σ : St) (H : Hp), XOk K c fx → As K c G σ E H → ∀ v u, Rp K G v x → Rp K G u y → ∀ P : VK, (∀ v d E' G' H', Q d E' → As K c G' σ E' H' → Mw c G H G' H' → Rp K G' v d → P v H') → r v u H P
def Roo (K : PySem.W.Frag) (fx : Fx) (r : R2) (x y : D) (E : Env) (Q : List D → Env → Prop) : Prop :=
  ∀ (c : Cn) (G : Hp) (σ : St) (H : Hp), XOk K c fx → As K c G σ E H → ∀ v u, Rp K G v x → Rp K G u y → ∀ P : VK, (∀ p vs ds E' G' H', Q ds E' → As K c G' σ E' H' → Mw c G H G' H' → Frs c G' σ E' p → H' p = some (.lst vs) → Rps K G' vs ds → P (.ref p) H') → r v u H P
abbrev RC := List V → Hp → VK → Prop
def Rcb (K : PySem.W.Frag) (fx : Fx) (r : RC) (xs : List D) (E : Env) (Q : D → Env → Prop) : Prop :=
  ∀ (c : Cn) (G : Hp) (σ : St) (H : Hp), XOk K c fx → As K c G σ E H → ∀ vs, Rps K G vs xs → ∀ P : VK, (∀ v d E' G' H', Q d E' → As K c G' σ E' H' → Mw c G H G' H' → Rp K G' v d → P v H') → r vs H P
def Rco (K : PySem.W.Frag) (fx : Fx) (r : RC) (xs : List D) (E : Env) (Q : List D → Env → Prop) : Prop :=
  ∀ (c : Cn) (G : Hp) (σ : St) (H : Hp), XOk K c fx → As K c G σ E H → ∀ vs, Rps K G vs xs → ∀ P : VK, (∀ p vs ds E' G' H', Q ds E' → As K c G' σ E' H' → Mw c G H G' H' → Frs c G' σ E' p → H' p = some (.lst vs) → Rps K G' vs ds → P (.ref p) H') → r vs H P

section
variable {K : PySem.W.Frag} {fx : Fx} {E : Env} {te ta tb : TE} {tt tu : TT} {c : Cn} {G H : Hp} {σ : St}
theorem get_join {σ : St} {i : Nat} {v : V} : (σ[i]?).join = some v ↔ σ[i]? = some (some v) := by
  cases h : σ[i]? with
  | none => simp
  | some o => cases o <;> simp
theorem As.var (A : As K c G σ E H) {i : Nat} {x : D} (h : E.sl[i]? = some (.d x)) : ∃ v, σ[i]? = some (some v) ∧ Rp K G v x := by
  obtain ⟨u, e, r⟩ := A.sl i _ h
  exact ⟨u, get_join.mp e, r⟩
theorem As.own (A : As K c G σ E H) {i : Nat} {ds : List D} (h : E.sl[i]? = some (.own ds)) : ∃ p vs, σ[i]? = some (some (.ref p)) ∧ G p = none ∧ c.B p = none ∧ H p = some (.lst vs) ∧ Rps K G vs ds := by
  obtain ⟨p, vs, e, r⟩ := A.sl i _ h
  exact ⟨p, vs, get_join.mp e, r⟩
theorem As.slf (A : As K c G σ E H) {i : Nat} {p C : Addr} {fs : List (Str × D)} (h : E.sl[i]? = some (.slf p C fs)) : ∃ dx vs, σ[i]? = some (some (.ref p)) ∧ G p = none ∧ c.B p = none ∧ H p = some (.ins C dx vs) ∧ Rpf K G vs fs := by
  obtain ⟨dx, vs, e, r⟩ := A.sl i _ h
  exact ⟨dx, vs, get_join.mp e, r⟩
theorem We.mono {Q Q' : D → Env → Prop} (h : We K fx te E Q) (m : ∀ d E', Q d E' → Q' d E') : We K fx te E Q' := fun c G σ H X A P k =>
  h c G σ H X A P fun v d E' G' H' q => k v d E' G' H' (m d E' q)
theorem Wt.mono {Q Q' : Bool → Env → Prop} (h : Wt K fx tt E Q) (m : ∀ d E', Q d E' → Q' d E') : Wt K fx tt E Q' := fun c G σ H X A P k =>
  h c G σ H X A P fun b E' G' H' q => k b E' G' H' (m b E' q)
theorem Wo.mono {Q Q' : List D → Env → Prop} (h : Wo K fx te E Q) (m : ∀ d E', Q d E' → Q' d E') : Wo K fx te E Q' := fun c G σ H X A P k =>
  h c G σ H X A P fun p vs ds E' G' H' q => k p vs ds E' G' H' (m ds E' q)
theorem Wa.mono {ta : TA} {Q Q' : List D → Env → Prop} (h : Wa K fx ta E Q) (m : ∀ d E', Q d E' → Q' d E') : Wa K fx ta E Q' := fun c G σ H X A P k =>
  h c G σ H X A P fun vs ds E' G' H' q => k vs ds E' G' H' (m ds E' q)

/-! slots of the state -/
theorem set_join {α : Type} {σ : List (Option α)} {i j : Nat} {v : Option α} : ((σ.set i v)[j]?).join = if i = j ∧ i < σ.length then v else (σ[j]?).join := by
  rw [List.getElem?_set]
  by_cases h : i = j
  · subst h
    by_cases l : i < σ.length
    · simp [l]
    · have : σ[i]? = none := List.getElem?_eq_none_iff.mpr (by omega)
      simp [l]
  · simp [h]
theorem set_get {σ : St} {i j : Nat} {v : Option V} {u : Option V} (h : (σ.set i v)[j]? = some u) : (i = j ∧ i < σ.length ∧ u = v) ∨ (¬ (i = j ∧ i < σ.length) ∧ σ[j]? = some u) := by
  rw [List.getElem?_set] at h
  by_cases e : i = j
  · subst e
    by_cases l : i < σ.length
    · simp [l] at h; exact .inl ⟨rfl, l, h.symm⟩
    · simp [l] at h
  · simp [e] at h; exact .inr ⟨fun q => e q.1, h⟩
theorem setS_get {L : List Sl} {i j : Nat} {v u : Sl} (h : (L.set i v)[j]? = some u) : (i = j ∧ i < L.length ∧ u = v) ∨ (¬ (i = j ∧ i < L.length) ∧ L[j]? = some u) := by
  rw [List.getElem?_set] at h
  by_cases e : i = j
  · subst e
    by_cases l : i < L.length
    · simp [l] at h; exact .inl ⟨rfl, l, h.symm⟩
    · simp [l] at h
  · simp [e] at h; exact .inr ⟨fun q => e q.1, h⟩
/-- a slot is stored: a value s.t. its slot's word holds, and, if it is of its own, in no other slot -/
theorem As.put (A : As K c G σ E H) (i : Nat) (v : Option V) (s : Sl) (h : SlOk K c G H v s) (hn : isOwn s → ∀ p, v = some (.ref p) → ∀ j, j ≠ i → σ[j]? = some (some (.ref p)) → ∀ u, E.sl[j]? = some u → ¬ isOwn u) : As K c G (σ.set i v) (E.set i s) H where
  ex := A.ex
  g0 := A.g0
  keep := A.keep
  sep := A.sep
  tB := A.tB
  len := by simp [Env.set, A.len]
  sl := fun j u e => by
    rw [set_join]
    rcases setS_get e with ⟨q, l, z⟩ | ⟨q, z⟩
    · rw [if_pos ⟨q, by rw [A.len]; exact l⟩, z]; exact h
    · rw [if_neg (by rw [A.len]; exact q)]; exact A.sl j u z
  ne := fun j k s1 s2 p e1 e2 o1 o2 g1 g2 => by
    rcases setS_get e1 with ⟨q1, l1, z1⟩ | ⟨q1, z1⟩
    · rcases setS_get e2 with ⟨q2, l2, z2⟩ | ⟨q2, z2⟩
      · omega
      · rcases set_get g1 with ⟨_, _, y1⟩ | ⟨y1, _⟩
        · rcases set_get g2 with ⟨y2, y3, _⟩ | ⟨_, y2⟩
          · exact absurd ⟨y2, by rw [A.len] at y3; exact y3⟩ q2
          · by_cases hk : k = i
            · subst hk; exact absurd ⟨rfl, l1⟩ q2
            · exact absurd o2 (hn (z1 ▸ o1) p y1.symm k hk y2 s2 z2)
        · exact absurd ⟨q1, by rw [A.len]; exact l1⟩ y1
    · rcases setS_get e2 with ⟨q2, l2, z2⟩ | ⟨q2, z2⟩
      · rcases set_get g2 with ⟨_, _, y2⟩ | ⟨y2, _⟩
        · rcases set_get g1 with ⟨y1, y3, _⟩ | ⟨_, y1⟩
          · exact absurd ⟨y1, by rw [A.len] at y3; exact y3⟩ q1
          · by_cases hk : j = i
            · subst hk; exact absurd ⟨rfl, l2⟩ q1
            · exact absurd o1 (hn (z2 ▸ o2) p y2.symm j hk y1 s1 z1)
        · exact absurd ⟨q2, by rw [A.len]; exact l2⟩ y2
      · rcases set_get g1 with ⟨y1, y3, _⟩ | ⟨_, y1⟩
        · exact absurd ⟨y1, by rw [A.len] at y3; exact y3⟩ q1
        · rcases set_get g2 with ⟨y2, y3, _⟩ | ⟨_, y2⟩
          · exact absurd ⟨y2, by rw [A.len] at y3; exact y3⟩ q2
          · exact A.ne j k s1 s2 p z1 z2 o1 o2 y1 y2
  tap := A.tap
  gt := A.gt
  st := A.st
  tb := A.tb
theorem As.putD (A : As K c G σ E H) (i : Nat) {v : V} {x : D} (r : Rp K G v x) : As K c G (σ.set i (some v)) (E.set i (.d x)) H := A.put i _ _ ⟨v, rfl, r⟩ fun z => z.elim
theorem As.drop (A : As K c G σ E H) (i : Nat) (v : Option V) : As K c G (σ.set i v) (E.set i .no) H := A.put i _ _ trivial fun z => z.elim
/-- a slot is forgotten -/
theorem As.forget (A : As K c G σ E H) (i : Nat) : As K c G σ (E.set i .no) H := by
  have h := A.put i (σ[i]?).join .no trivial fun z => z.elim
  have e : σ.set i (σ[i]?).join = σ := by
    apply List.ext_getElem?
    intro j
    rw [List.getElem?_set]
    by_cases q : i = j
    · subst q
      by_cases l : i < σ.length
      · simp [l]
      · simp [l]
    · simp [q]
  rw [e] at h
  exact h
/-- the list of a slot of its own becomes known -/
theorem As.freeze (A : As K c G σ E H) {i : Nat} {ds : List D} (h : E.sl[i]? = some (.own ds)) : ∃ p vs, σ[i]? = some (some (.ref p)) ∧ Rps K G vs ds ∧ As K c (upd G p (.lst vs)) σ (E.set i (.d (.lst ds))) H ∧ Mw c G H (upd G p (.lst vs)) H ∧ (upd G p (.lst vs)) p = some (.lst vs) := by
  obtain ⟨p, vs, e, g, b, hp, r⟩ := A.own h
  have x : Ex G (upd G p (.lst vs)) := Ex.new g
  refine ⟨p, vs, e, r, ?_, ⟨x, fun _ _ h _ _ => h⟩, upd_same⟩
  refine ⟨fun a o q => ?_, A.g0.trans x, A.keep, fun a q z => ?_, A.tB, by simp [Env.set, A.len], fun j s q => ?_, fun j k s1 s2 y e1 e2 o1 o2 g1 g2 => ?_, A.tap, A.gtU (fun _ e => by cases e), A.st, A.tb⟩
  · by_cases z : a = p
    · subst z; rw [upd_same] at q; cases q; exact hp
    · rw [upd_ne z] at q; exact A.ex a o q
  · by_cases y : a = p
    · subst y; exact absurd b q
    · rw [upd_ne y]; exact A.sep a q z
  · rcases setS_get q with ⟨q1, l, z⟩ | ⟨q1, z⟩
    · subst q1 z
      exact ⟨.ref p, by rw [e]; rfl, .lst upd_same (r.mono x)⟩
    · have w := A.sl j s z
      cases s with
      | no => trivial
      | d y => obtain ⟨u, a1, a2⟩ := w; exact ⟨u, a1, a2.mono x⟩
      | own es =>
        obtain ⟨p', vs', a1, a2, a3, a4, a5⟩ := w
        refine ⟨p', vs', a1, ?_, a3, a4, a5.mono x⟩
        have : p' ≠ p := fun y => by
          subst y
          exact q1 ⟨A.ne i j _ _ p' h z trivial trivial e (get_join.mp a1), (List.getElem?_eq_some_iff.mp h).1⟩
        rw [upd_ne this]; exact a2
      | slf p' C fs =>
        obtain ⟨dx, vs', a1, a2, a3, a4, a5⟩ := w
        refine ⟨dx, vs', a1, ?_, a3, a4, a5.mono x⟩
        have : p' ≠ p := fun y => by subst y; rw [hp] at a4; cases a4
        rw [upd_ne this]; exact a2
  · rcases setS_get e1 with ⟨_, _, z1⟩ | ⟨_, z1⟩
    · subst z1; exact o1.elim
    · rcases setS_get e2 with ⟨_, _, z2⟩ | ⟨_, z2⟩
      · subst z2; exact o2.elim
      · exact A.ne j k s1 s2 y z1 z2 o1 o2 g1 g2

/-! ### expressions -/
theorem we_non {Q : D → Env → Prop} (h : Q .non E) : We K fx (tC .non) E Q := fun c G σ H X A P k => k _ _ _ _ _ h A Mw.refl .non
theorem we_bl {b : Bool} {Q : D → Env → Prop} (h : Q (.bl b) E) : We K fx (tC (.bl b)) E Q := fun c G σ H X A P k => k _ _ _ _ _ h A Mw.refl (.bl b)
theorem we_int {i : Int} {Q : D → Env → Prop} (h : Q (.int i) E) : We K fx (tC (.int i)) E Q := fun c G σ H X A P k => k _ _ _ _ _ h A Mw.refl (.int i)
theorem we_str {x : Str} {Q : D → Env → Prop} (h : Q (.str x) E) : We K fx (tC (.str x)) E Q := fun c G σ H X A P k => k _ _ _ _ _ h A Mw.refl (.str x)
theorem we_adr {a : Addr} {Q : D → Env → Prop} (h : Q (.ad a) E) : We K fx (tC (.ref a)) E Q := fun c G σ H X A P k => k _ _ _ _ _ h A Mw.refl (.ad a)
theorem we_ty {n : String} {Q : D → Env → Prop} (h : Q (.ty n) E) : We K fx (tC (.ty n)) E Q := fun c G σ H X A P k => k _ _ _ _ _ h A Mw.refl (.ty n)
theorem we_var {i : Nat} {x : D} {Q : D → Env → Prop} (e : E.sl[i]? = some (.d x)) (h : Q x E) : We K fx (tVar i) E Q := fun c G σ H X A P k => by
  obtain ⟨v, e1, r⟩ := A.var e
  exact ⟨v, e1, k _ _ _ _ _ h A Mw.refl r⟩
theorem we_own {i : Nat} {ds : List D} {Q : D → Env → Prop} (e : E.sl[i]? = some (.own ds)) (h : Q (.lst ds) (E.set i (.d (.lst ds)))) : We K fx (tVar i) E Q := fun c G σ H X A P k => by
  obtain ⟨p, vs, e1, r, A', m, q⟩ := A.freeze e
  exact ⟨.ref p, e1, k _ _ _ _ _ h A' m (.lst q (r.mono m.ex))⟩
theorem we_of {Q : D → Env → Prop} (h : Wo K fx te E fun ds E' => Q (.lst ds) E') : We K fx te E Q := fun c G σ H X A P k => by
  refine h c G σ H X A P fun p vs ds E' G' H' q A' m ⟨g, b, n⟩ hp r => ?_
  have x : Ex G' (upd G' p (.lst vs)) := Ex.new g
  refine k (.ref p) (.lst ds) E' (upd G' p (.lst vs)) H' q ?_ ⟨m.ex.trans x, m.keep⟩ (.lst upd_same (r.mono x))
  refine ⟨fun a o z => ?_, A'.g0.trans x, A'.keep, fun a q z => ?_, A'.tB, A'.len, fun j s q => ?_, A'.ne, A'.tap, A'.gtU (fun _ e => by cases e), A'.st, A'.tb⟩
  · by_cases y : a = p
    · subst y; rw [upd_same] at z; cases z; exact hp
    · rw [upd_ne y] at z; exact A'.ex a o z
  · by_cases y : a = p
    · subst y; exact absurd b q
    · rw [upd_ne y]; exact A'.sep a q z
  · have w := A'.sl j s q
    cases s with
    | no => trivial
    | d y => obtain ⟨u, a1, a2⟩ := w; exact ⟨u, a1, a2.mono x⟩
    | own es =>
      obtain ⟨p', vs', a1, a2, a3, a4, a5⟩ := w
      have : p' ≠ p := fun y => by
        subst y
        exact n j (get_join.mp a1) _ q trivial
      exact ⟨p', vs', a1, by rw [upd_ne this]; exact a2, a3, a4, a5.mono x⟩
    | slf p' C fs =>
      obtain ⟨dx, vs', a1, a2, a3, a4, a5⟩ := w
      have : p' ≠ p := fun y => by subst y; rw [hp] at a4; cases a4
      exact ⟨dx, vs', a1, by rw [upd_ne this]; exact a2, a3, a4, a5.mono x⟩
theorem we_op {r : R2} {Q : D → Env → Prop} (h : We K fx ta E fun x E1 => We K fx tb E1 fun y E2 => Rop K fx r x y E2 Q) : We K fx (tOp r ta tb) E Q := fun c G σ H X A P k => by
  refine h c G σ H X A _ fun v x E1 G1 H1 q A1 m1 r1 => q c G1 σ H1 X A1 _ fun u y E2 G2 H2 q2 A2 m2 r2 => ?_
  exact q2 c G2 σ H2 X A2 v u (r1.mono m2.ex) r2 P fun z d E3 G3 H3 q3 A3 m3 r3 => k z d E3 G3 H3 q3 A3 ((m1.trans m2).trans m3) r3
theorem wo_op {r : R2} {Q : List D → Env → Prop} (h : We K fx ta E fun x E1 => We K fx tb E1 fun y E2 => Roo K fx r x y E2 Q) : Wo K fx (tOp r ta tb) E Q := fun c G σ H X A P k => by
  refine h c G σ H X A _ fun v x E1 G1 H1 q A1 m1 r1 => q c G1 σ H1 X A1 _ fun u y E2 G2 H2 q2 A2 m2 r2 => ?_
  exact q2 c G2 σ H2 X A2 v u (r1.mono m2.ex) r2 P fun z vs d E3 G3 H3 q3 A3 m3 => k z vs d E3 G3 H3 q3 A3 ((m1.trans m2).trans m3)
theorem we_un {r : V → Hp → VK → Prop} {Q : D → Env → Prop} (h : We K fx ta E fun x E1 => Rcb K fx (fun vs H P => ∃ v, vs = [v] ∧ r v H P) [x] E1 Q) : We K fx (tUn r ta) E Q := fun c G σ H X A P k => by
  refine h c G σ H X A _ fun v x E1 G1 H1 q A1 m1 r1 => ?_
  obtain ⟨v', e, z⟩ := q c G1 σ H1 X A1 [v] (.cons r1 .nil) P fun z d E3 G3 H3 q3 A3 m3 r3 => k z d E3 G3 H3 q3 A3 (m1.trans m3) r3
  cases e
  exact z
theorem we_cb {r : RC} {ta : TA} {Q : D → Env → Prop} (h : Wa K fx ta E fun xs E1 => Rcb K fx r xs E1 Q) : We K fx (tCB r ta) E Q := fun c G σ H X A P k => by
  refine h c G σ H X A _ fun vs xs E1 G1 H1 q A1 m1 r1 => ?_
  exact q c G1 σ H1 X A1 vs r1 P fun z d E3 G3 H3 q3 A3 m3 r3 => k z d E3 G3 H3 q3 A3 (m1.trans m3) r3
theorem wo_cb {r : RC} {ta : TA} {Q : List D → Env → Prop} (h : Wa K fx ta E fun xs E1 => Rco K fx r xs E1 Q) : Wo K fx (tCB r ta) E Q := fun c G σ H X A P k => by
  refine h c G σ H X A _ fun vs xs E1 G1 H1 q A1 m1 r1 => ?_
  exact q c G1 σ H1 X A1 vs r1 P fun z vs d E3 G3 H3 q3 A3 m3 => k z vs d E3 G3 H3 q3 A3 (m1.trans m3)
theorem wa_nil {Q : List D → Env → Prop} (h : Q [] E) : Wa K fx tNil E Q := fun c G σ H X A P k => k _ _ _ _ _ h A Mw.refl .nil
theorem wa_cons {tr : TA} {Q : List D → Env → Prop} (h : We K fx ta E fun x E1 => Wa K fx tr E1 fun xs E2 => Q (x :: xs) E2) : Wa K fx (tCons ta tr) E Q := fun c G σ H X A P k =>
  h c G σ H X A _ fun v x E1 G1 H1 q A1 m1 r1 => q c G1 σ H1 X A1 _ fun vs xs E2 G2 H2 q2 A2 m2 r2 => k _ _ _ _ _ q2 A2 (m1.trans m2) (.cons (r1.mono m2.ex) r2)
theorem we_tup {ta : TA} {Q : D → Env → Prop} (h : Wa K fx ta E fun xs E1 => xs.length ≤ 1000 ∧ Q (.tup xs) E1) : We K fx (tTup ta) E Q := fun c G σ H X A P k =>
  h c G σ H X A _ fun vs xs E1 G1 H1 q A1 m1 r1 => by
    refine ⟨Nat.le_trans (by rw [r1.length]; exact q.1) (by decide), fun p hp => ?_⟩
    have m := Mv.laid (c := c) (o := .tup vs) A1.ex hp
    exact k (.ref p) _ _ _ _ q.2 (A1.move0 m (fun a u e => by rw [upd_ne (ne_of_none e hp)]; exact e)) (m1.trans m.mw) (.tup (.inl (.inl upd_same)) (r1.mono m.ex))
theorem B_free (A : As K c G σ E H) {p : Addr} (hp : H p = none) : c.B p = none := by
  cases e : c.B p with
  | none => rfl
  | some o =>
    by_cases f : c.F = some p
    · have := A.tap
      unfold TapOk at this
      rw [f] at this
      obtain ⟨_, _, h1, _⟩ := this
      rw [hp] at h1; cases h1
    · rw [A.keep p o e f (A.kB e)] at hp; cases hp
theorem own_free (A : As K c G σ E H) {p : Addr} (hp : H p = none) : ∀ (i : Nat), σ[i]? = some (some (V.ref p)) → ∀ s, E.sl[i]? = some s → ¬ isOwn s := fun i e s h o => by
  cases s with
  | no => exact o
  | d x => exact o
  | own ds =>
    obtain ⟨q, vs, e1, _, _, h1, _⟩ := A.own h
    rw [e] at e1; cases e1
    rw [hp] at h1; cases h1
  | slf q C fs =>
    obtain ⟨dx, vs, e1, _, _, h1, _⟩ := A.slf h
    rw [e] at e1; cases e1
    rw [hp] at h1; cases h1
theorem wo_lst {ta : TA} {Q : List D → Env → Prop} (h : Wa K fx ta E fun xs E1 => xs.length ≤ 1000 ∧ Q xs E1) : Wo K fx (tLst ta) E Q := fun c G σ H X A P k =>
  h c G σ H X A _ fun vs xs E1 G1 H1 q A1 m1 r1 => by
    refine ⟨Nat.le_trans (by rw [r1.length]; exact q.1) (by decide), fun p hp => ?_⟩
    have m := Mv.hid (c := c) (o := .lst vs) A1.ex hp
    exact k p vs _ _ _ _ q.2 (A1.move0 m (fun a u e => by rw [upd_ne (ne_of_none e hp)]; exact e)) (m1.trans m.mw) ⟨A1.ex.free hp, B_free A1 hp, own_free A1 hp⟩ upd_same r1
/-! ### tests -/
theorem wt_test {Q : Bool → Env → Prop} (h : We K fx te E fun d E' => ∃ b, d = .bl b ∧ Q b E') : Wt K fx (tTest te) E Q := fun c G σ H X A P k =>
  h c G σ H X A _ fun v d E1 G1 H1 q A1 m1 r1 => by
    obtain ⟨b, e, q⟩ := q
    subst e
    cases r1
    exact ⟨b, rfl, k _ _ _ _ q A1 m1⟩
theorem wt_B {Q : Bool → Env → Prop} (h : We K fx te E fun d E' => ∃ b, d = .bl b ∧ Q b E') : Wt K fx (tB te) E Q := fun c G σ H X A P k =>
  h c G σ H X A _ fun v d E1 G1 H1 q A1 m1 r1 => by
    obtain ⟨b, e, q⟩ := q
    subst e
    cases r1
    exact ⟨b, rfl, k _ _ _ _ q A1 m1⟩
theorem wt_and {Q : Bool → Env → Prop} (h : Wt K fx tt E fun b E1 => (b = true → Wt K fx tu E1 Q) ∧ (b = false → Q false E1)) : Wt K fx (tAnd tt tu) E Q := fun c G σ H X A P k =>
  h c G σ H X A _ fun b E1 G1 H1 q A1 m1 => by
    cases b with
    | true => exact q.1 rfl c G1 σ H1 X A1 P fun b E2 G2 H2 q2 A2 m2 => k _ _ _ _ q2 A2 (m1.trans m2)
    | false => exact k _ _ _ _ (q.2 rfl) A1 m1
theorem wt_or {Q : Bool → Env → Prop} (h : Wt K fx tt E fun b E1 => (b = true → Q true E1) ∧ (b = false → Wt K fx tu E1 Q)) : Wt K fx (tOr tt tu) E Q := fun c G σ H X A P k =>
  h c G σ H X A _ fun b E1 G1 H1 q A1 m1 => by
    cases b with
    | true => exact k _ _ _ _ (q.1 rfl) A1 m1
    | false => exact q.2 rfl c G1 σ H1 X A1 P fun b E2 G2 H2 q2 A2 m2 => k _ _ _ _ q2 A2 (m1.trans m2)
theorem wt_not {Q : Bool → Env → Prop} (h : Wt K fx tt E fun b E1 => Q (!b) E1) : Wt K fx (tNot tt) E Q := fun c G σ H X A P k =>
  h c G σ H X A _ fun b E1 G1 H1 q A1 m1 => k _ _ _ _ q A1 m1
theorem we_andV {Q : D → Env → Prop} (h : We K fx ta E fun d E1 => ∃ b, d = .bl b ∧ (b = true → We K fx tb E1 Q) ∧ (b = false → Q (.bl false) E1)) : We K fx (tAndV ta tb) E Q := fun c G σ H X A P k =>
  h c G σ H X A _ fun v d E1 G1 H1 q A1 m1 r1 => by
    obtain ⟨b, e, q1, q2⟩ := q
    subst e
    cases r1
    refine ⟨b, rfl, ?_⟩
    cases b with
    | true => exact q1 rfl c G1 σ H1 X A1 P fun v d E2 G2 H2 z A2 m2 r2 => k _ _ _ _ _ z A2 (m1.trans m2) r2
    | false => exact k _ _ _ _ _ (q2 rfl) A1 m1 (.bl false)
theorem we_orV {Q : D → Env → Prop} (h : We K fx ta E fun d E1 => ∃ b, d = .bl b ∧ (b = true → Q (.bl true) E1) ∧ (b = false → We K fx tb E1 Q)) : We K fx (tOrV ta tb) E Q := fun c G σ H X A P k =>
  h c G σ H X A _ fun v d E1 G1 H1 q A1 m1 r1 => by
    obtain ⟨b, e, q1, q2⟩ := q
    subst e
    cases r1
    refine ⟨b, rfl, ?_⟩
    cases b with
    | true => exact k _ _ _ _ _ (q1 rfl) A1 m1 (.bl true)
    | false => exact q2 rfl c G1 σ H1 X A1 P fun v d E2 G2 H2 z A2 m2 r2 => k _ _ _ _ _ z A2 (m1.trans m2) r2
theorem we_notV {Q : D → Env → Prop} (h : We K fx ta E fun d E1 => ∃ b, d = .bl b ∧ Q (.bl (!b)) E1) : We K fx (tNotV ta) E Q := fun c G σ H X A P k =>
  h c G σ H X A _ fun v d E1 G1 H1 q A1 m1 r1 => by
    obtain ⟨b, e, q⟩ := q
    subst e
    cases r1
    exact ⟨b, rfl, k _ _ _ _ _ q A1 m1 (.bl _)⟩
theorem we_if {Q : D → Env → Prop} (h : Wt K fx tt E fun b E1 => (b = true → We K fx ta E1 Q) ∧ (b = false → We K fx tb E1 Q)) : We K fx (tIf tt ta tb) E Q := fun c G σ H X A P k =>
  h c G σ H X A _ fun b E1 G1 H1 q A1 m1 => by
    cases b with
    | true => exact q.1 rfl c G1 σ H1 X A1 P fun v d E2 G2 H2 z A2 m2 r2 => k _ _ _ _ _ z A2 (m1.trans m2) r2
    | false => exact q.2 rfl c G1 σ H1 X A1 P fun v d E2 G2 H2 z A2 m2 r2 => k _ _ _ _ _ z A2 (m1.trans m2) r2
theorem wo_if {Q : List D → Env → Prop} (h : Wt K fx tt E fun b E1 => (b = true → Wo K fx ta E1 Q) ∧ (b = false → Wo K fx tb E1 Q)) : Wo K fx (tIf tt ta tb) E Q := fun c G σ H X A P k =>
  h c G σ H X A _ fun b E1 G1 H1 q A1 m1 => by
    cases b with
    | true => exact q.1 rfl c G1 σ H1 X A1 P fun p vs d E2 G2 H2 z A2 m2 => k _ _ _ _ _ _ z A2 (m1.trans m2)
    | false => exact q.2 rfl c G1 σ H1 X A1 P fun p vs d E2 G2 H2 z A2 m2 => k _ _ _ _ _ _ z A2 (m1.trans m2)
end
end Z
end
section
namespace Z
open PySem L2

structure Po where
  nx : Env → Prop
  rt : D → Env → Prop := fun _ _ => False
  ro : List D → Env → Prop := fun _ _ => False
  bk : Env → Prop := fun _ => False
  ct : Env → Prop := fun _ => False
structure Conts (K : PySem.W.Frag) (c : Cn) (G : Hp) (P : Po) (Z : Ends) : Prop where
  nx : ∀ E' G' σ' H', P.nx E' → As K c G' σ' E' H' → Ex G G' → Z.nx σ' H'
  rt : ∀ v d E' G' σ' H', P.rt d E' → As K c G' σ' E' H' → Rp K G' v d → Z.rt v H'
  ro : ∀ p vs ds E' G' σ' H', P.ro ds E' → As K c G' σ' E' H' → G' p = none → c.B p = none → H' p = some (.lst vs) → Rps K G' vs ds → Z.rt (.ref p) H'
  bk : ∀ E' G' σ' H', P.bk E' → As K c G' σ' E' H' → Ex G G' → Z.bk σ' H'
  ct : ∀ E' G' σ' H', P.ct E' → As K c G' σ' E' H' → Ex G G' → Z.ct σ' H'
theorem Conts.up {K : PySem.W.Frag} {c : Cn} {G G1 : Hp} {P : Po} {Z : Ends} (k : Conts K c G P Z) (x : Ex G G1) : Conts K c G1 P Z :=
  ⟨fun E' G' σ' H' q A y => k.nx E' G' σ' H' q A (x.trans y), k.rt, k.ro, fun E' G' σ' H' q A y => k.bk E' G' σ' H' q A (x.trans y), fun E' G' σ' H' q A y => k.ct E' G' σ' H' q A (x.trans y)⟩
def Ws (K : PySem.W.Frag) (fx : Fx) (t : TS) (E : Env) (P : Po) : Prop :=
  ∀ (c : Cn) (G : Hp) (σ : St) (H : Hp) (Z : Ends), XOk K c fx → As K c G σ E H → Conts K c G P Z → t Z σ H
/-- an assignment's target -/
def Wg (K : PySem.W.Frag) (fx : Fx) (js : List Nat) (g : TG) (d : D) (E : Env) (Q : Env → Prop) : Prop :=
  ∀ (c : Cn) (G : Hp) (σ : St) (H : Hp), XOk K c fx → As K c G σ E H → ∀ x, Rp K G x d → ∀ P : St → Hp → Prop, (∀ E' G' σ' H', Q E' → As K c G' σ' E' H' → Mw c G H G' H' → (∀ vs, (∀ j ∈ js, j ∈ vs) → wipe σ' vs = wipe σ vs) → P σ' H') → g x σ H P
/-- what is walked: its items -/
def Walk (K : PySem.W.Frag) (G : Hp) (its : List D) (J : It) : Prop :=
  ∀ (H : Hp) (i : Nat), Ex G H → (i < its.length → J.go i H ∧ ∀ x H', J.yld i H x H' → ∃ d, its[i]? = some d ∧ ((H' = H ∧ Rp K G x d) ∨ ∃ T vs ds, x = .ref T ∧ H T = none ∧ H' = upd H T (.tup vs) ∧ d = .tup ds ∧ Rps K G vs ds)) ∧ (its.length ≤ i → J.stop i H)
def Wi (K : PySem.W.Frag) (fx : Fx) (wi : TI) (E : Env) (Q : List D → Env → Prop) : Prop :=
  ∀ (c : Cn) (G : Hp) (σ : St) (H : Hp), XOk K c fx → As K c G σ E H → ∀ R : It → Hp → Prop, (∀ J its E' G' H', Q its E' → As K c G' σ E' H' → Mw c G H G' H' → Walk K G' its J → R J H') → wi σ H R

section
variable {K : PySem.W.Frag} {fx : Fx} {E : Env} {te ta tb : TE} {tt : TT} {t u : TS} {c : Cn} {G H : Hp} {σ : St} {P : Po}
theorem ws_seq (h : Ws K fx t E { P with nx := fun E' => Ws K fx u E' P }) : Ws K fx (tSeq t u) E P := fun c G σ H Z X A k =>
  h c G σ H { Z with nx := u Z } X A ⟨fun E' G' σ' H' q A' x => q c G' σ' H' Z X A' (k.up x), k.rt, k.ro, k.bk, k.ct⟩
theorem ws_next (h : P.nx E) : Ws K fx tNext E P := fun c G σ H Z X A k => k.nx _ _ _ _ h A (Ex.refl _)
theorem ws_break (h : P.bk E) : Ws K fx tBreak E P := fun c G σ H Z X A k => k.bk _ _ _ _ h A (Ex.refl _)
theorem ws_cont (h : P.ct E) : Ws K fx tCont E P := fun c G σ H Z X A k => k.ct _ _ _ _ h A (Ex.refl _)
theorem ws_asg {js : List Nat} {g : TG} (h : We K fx te E fun d E' => Wg K fx js g d E' P.nx) : Ws K fx (tAsg te g) E P := fun c G σ H Z X A k =>
  h c G σ H X A _ fun v d E' G' H' q A' m r => q c G' σ H' X A' v r _ fun E2 G2 σ2 H2 q2 A2 m2 _ => k.nx _ _ _ _ q2 A2 (m.ex.trans m2.ex)
/-- x = e, e a new list: x has it of its own -/
theorem ws_own {i : Nat} (h : Wo K fx te E fun ds E' => P.nx (E'.set i (.own ds))) : Ws K fx (tAsg te (gName i)) E P := fun c G σ H Z X A k =>
  h c G σ H X A _ fun p vs ds E' G' H' q A' m ⟨g, b, n⟩ hp r => k.nx _ _ _ _ q (A'.put i _ _ ⟨p, vs, rfl, g, b, hp, r⟩ fun _ y e j _ s => by cases e; exact n j s) m.ex
theorem ws_drop (h : We K fx te E fun _ E' => P.nx E') : Ws K fx (tDrop te) E P := fun c G σ H Z X A k =>
  h c G σ H X A _ fun v d E' G' H' q A' m r => k.nx _ _ _ _ q A' m.ex
theorem ws_ret (h : We K fx te E P.rt) : Ws K fx (tRet te) E P := fun c G σ H Z X A k =>
  h c G σ H X A _ fun v d E' G' H' q A' m r => k.rt _ _ _ _ _ _ q A' r
theorem ws_reto (h : Wo K fx te E P.ro) : Ws K fx (tRet te) E P := fun c G σ H Z X A k =>
  h c G σ H X A _ fun p vs ds E' G' H' q A' m n hp r => k.ro _ _ _ _ _ _ _ q A' n.1 n.2.1 hp r
theorem ws_retv {i : Nat} {ds : List D} (e : E.sl[i]? = some (.own ds)) (h : P.ro ds E) : Ws K fx (tRet (tVar i)) E P := fun c G σ H Z X A k => by
  obtain ⟨p, vs, e1, g, b, hp, r⟩ := A.own e
  exact ⟨.ref p, e1, k.ro _ _ _ _ _ _ _ h A g b hp r⟩
theorem ws_retN (h : P.rt .non E) : Ws K fx tRetN E P := fun c G σ H Z X A k => k.rt _ _ _ _ _ _ h A .non
theorem ws_if (h : Wt K fx tt E fun b E' => (b = true → Ws K fx t E' P) ∧ (b = false → Ws K fx u E' P)) : Ws K fx (tIfS tt t u) E P := fun c G σ H Z X A k =>
  h c G σ H X A _ fun b E' G' H' q A' m => by
    cases b with
    | true => exact q.1 rfl c G' σ H' Z X A' (k.up m.ex)
    | false => exact q.2 rfl c G' σ H' Z X A' (k.up m.ex)
/-- what follows from a weaker word -/
theorem Ws.mono {P' : Po} (h : Ws K fx t E P) (nx : ∀ E', P.nx E' → P'.nx E') (rt : ∀ d E', P.rt d E' → P'.rt d E') (ro : ∀ d E', P.ro d E' → P'.ro d E') (bk : ∀ E', P.bk E' → P'.bk E') (ct : ∀ E', P.ct E' → P'.ct E') : Ws K fx t E P' := fun c G σ H Z X A k =>
  h c G σ H Z X A ⟨fun E' G' σ' H' q => k.nx _ _ _ _ (nx _ q), fun v d E' G' σ' H' q => k.rt _ _ _ _ _ _ (rt _ _ q), fun p vs d E' G' σ' H' q => k.ro _ _ _ _ _ _ _ (ro _ _ q), fun E' G' σ' H' q => k.bk _ _ _ _ (bk _ q), fun E' G' σ' H' q => k.ct _ _ _ _ (ct _ q)⟩
/-- a cut: what holds between -/
theorem ws_cut {u : TS} (M : Env → Prop) (h : Ws K fx t E { P with nx := M }) (h2 : ∀ E', M E' → Ws K fx u E' P) : Ws K fx (tSeq t u) E P :=
  ws_seq (h.mono (fun E' q => h2 E' q) (fun _ _ q => q) (fun _ _ q => q) (fun _ q => q) (fun _ q => q))

/-! ### targets -/
theorem wipe_set {σ : St} {j : Nat} {v : Option V} : ∀ {vs : List Nat}, j ∈ vs → wipe (σ.set j v) vs = wipe σ vs
  | w :: vs, h => by
    show (wipe (σ.set j v) vs).set w none = (wipe σ vs).set w none
    by_cases q : j ∈ vs
    · rw [wipe_set q]
    · have e : j = w := by
        rcases List.mem_cons.mp h with e | e
        · exact e
        · exact absurd e q
      subst e
      have : ∀ (us : List Nat), j ∉ us → wipe (σ.set j v) us = (wipe σ us).set j v := by
        intro us
        induction us with
        | nil => intro _; rfl
        | cons a us ih =>
          intro hn
          show (wipe (σ.set j v) us).set a none = ((wipe σ us).set a none).set j v
          rw [ih (fun z => hn (List.mem_cons_of_mem _ z))]
          exact List.set_comm _ _ (fun z => hn (by rw [← z]; exact List.mem_cons_self))
      rw [this vs q, List.set_set]
theorem wg_name {i : Nat} {d : D} {Q : Env → Prop} (h : Q (E.set i (.d d))) : Wg K fx [i] (gName i) d E Q := fun c G σ H X A x r P k =>
  k _ _ _ _ h (A.putD i r) Mw.refl fun vs hv => wipe_set (hv i List.mem_cons_self)
def Wgs (K : PySem.W.Frag) (fx : Fx) (js : List Nat) (g : TGs) (ds : List D) (E : Env) (Q : Env → Prop) : Prop :=
  ∀ (c : Cn) (G : Hp) (σ : St) (H : Hp), XOk K c fx → As K c G σ E H → ∀ xs, Rps K G xs ds → ∀ P : St → Hp → Prop, (∀ E' G' σ' H', Q E' → As K c G' σ' E' H' → Mw c G H G' H' → (∀ vs, (∀ j ∈ js, j ∈ vs) → wipe σ' vs = wipe σ vs) → P σ' H') → g xs σ H P
theorem wgs_nil {Q : Env → Prop} (h : Q E) : Wgs K fx [] gNil [] E Q := fun c G σ H X A xs r P k => by
  cases r
  exact ⟨rfl, k _ _ _ _ h A Mw.refl fun _ _ => rfl⟩
theorem wgs_cons {g : TG} {gs : TGs} {js ks : List Nat} {d : D} {ds : List D} {Q : Env → Prop} (h : Wg K fx js g d E fun E1 => Wgs K fx ks gs ds E1 Q) : Wgs K fx (js ++ ks) (gCons g gs) (d :: ds) E Q := fun c G σ H X A xs r P k => by
  cases r with
  | cons r rs =>
    refine ⟨_, _, rfl, h c G σ H X A _ r _ fun E1 G1 σ1 H1 q A1 m1 w1 => ?_⟩
    exact q c G1 σ1 H1 X A1 _ (rs.mono m1.ex) P fun E2 G2 σ2 H2 q2 A2 m2 w2 => k _ _ _ _ q2 A2 (m1.trans m2) fun vs hv =>
      (w2 vs fun j hj => hv j (List.mem_append_right _ hj)).trans (w1 vs fun j hj => hv j (List.mem_append_left _ hj))
theorem wg_tup {n : Nat} {gs : TGs} {js : List Nat} {ds : List D} {Q : Env → Prop} (e : ds.length = n) (h : Wgs K fx js gs ds E Q) : Wg K fx js (gTup K n gs) (.tup ds) E Q := fun c G σ H X A x r P k => by
  cases r with
  | tup hq rs => exact ⟨_, _, rfl, A.ex.t hq, by rw [rs.length]; exact e, h c G σ H X A _ rs P k⟩
theorem Wg.to {js : List Nat} {g : TG} {d : D} {Q Q' : Env → Prop} (h : Wg K fx js g d E Q) (m : ∀ E', Q E' → Q' E') : Wg K fx js g d E Q' := fun c G σ H X A x r P k =>
  h c G σ H X A x r P fun E' G' σ' H' q => k E' G' σ' H' (m _ q)
/-- a, b = e1, e2 -/
theorem ws_par {i j : Nat} {ta : TA} (h : Wa K fx ta E fun ds E' => ∃ x y, ds = [x, y] ∧ P.nx ((E'.set i (.d x)).set j (.d y))) : Ws K fx (tPar i j ta) E P := fun c G σ H Z X A k =>
  h c G σ H X A _ fun vs ds E' G' H' q A' m r => by
    obtain ⟨x, y, e, q⟩ := q
    subst e
    cases r with
    | cons r1 r =>
      cases r with
      | cons r2 r =>
        cases r
        exact ⟨_, _, rfl, k.nx _ _ _ _ q ((A'.putD i r1).putD j r2) m.ex⟩

/-! ### lists of their own -/
theorem As.change (A : As K c G σ E H) {i : Nat} {ds : List D} (h : E.sl[i]? = some (.own ds)) {p : Addr} (hp : σ[i]? = some (some (.ref p))) {vs : List V} {es : List D} (r : Rps K G vs es) : As K c G σ (E.set i (.own es)) (upd H p (.lst vs)) := by
  obtain ⟨q, ws, e, g, b, hq, _⟩ := A.own h
  rw [hp] at e
  cases e
  have hw : ∀ a o, H a = some o → a ≠ p → upd H p (.lst vs) a = some o := fun a o z y => by rw [upd_ne y]; exact z
  refine ⟨fun a o z => ?_, A.g0, fun a o z f kk => ?_, A.sep, A.tB, by simp [Env.set, A.len], fun j s z => ?_, fun j k s1 s2 y e1 e2 o1 o2 g1 g2 => ?_, ?_, A.gt, A.st, tabs_lst A.tb hq⟩
  · exact hw a o (A.ex a o z) fun y => by subst y; rw [g] at z; cases z
  · exact hw a o (A.keep a o z f kk) fun y => by subst y; rw [b] at z; cases z
  · rcases setS_get z with ⟨z1, l, z2⟩ | ⟨z1, z2⟩
    · subst z1 z2
      exact ⟨p, vs, get_join.mpr hp, g, b, upd_same, r⟩
    · have w := A.sl j s z2
      cases s with
      | no => trivial
      | d y => exact w
      | own fs =>
        obtain ⟨p', vs', a1, a2, a3, a4, a5⟩ := w
        have : p' ≠ p := fun y => by
          subst y
          exact z1 ⟨A.ne i j _ _ p' h z2 trivial trivial hp (get_join.mp a1), (List.getElem?_eq_some_iff.mp h).1⟩
        exact ⟨p', vs', a1, a2, a3, hw _ _ a4 this, a5⟩
      | slf p' C fs =>
        obtain ⟨dx, vs', a1, a2, a3, a4, a5⟩ := w
        have : p' ≠ p := fun y => by subst y; rw [hq] at a4; cases a4
        exact ⟨dx, vs', a1, a2, a3, hw _ _ a4 this, a5⟩
  · rcases setS_get e1 with ⟨q1, l1, z1⟩ | ⟨q1, z1⟩
    · subst q1
      rcases setS_get e2 with ⟨q2, l2, z2⟩ | ⟨q2, z2⟩
      · exact q2
      · exact A.ne _ _ _ _ _ h z2 trivial o2 g1 g2
    · rcases setS_get e2 with ⟨q2, l2, z2⟩ | ⟨q2, z2⟩
      · subst q2
        exact A.ne _ _ _ _ _ z1 h o1 trivial g1 g2
      · exact A.ne _ _ _ _ _ z1 z2 o1 o2 g1 g2
  · have T := A.tap
    unfold TapOk at T ⊢
    cases f : c.F with
    | none => trivial
    | some t =>
      rw [f] at T
      obtain ⟨spot, left, h1, h2⟩ := T
      exact ⟨spot, left, hw _ _ h1 (fun y => by subst y; exact (A.tB t f).1 b), h2⟩
/-- an expression keeps a slot's list where the slots stay -/
theorem ws_app {i : Nat} {ds : List D} (h0 : E.sl[i]? = some (.own ds)) (h : We K fx te E fun d E' => E'.sl = E.sl ∧ ds.length < 100000 ∧ P.nx (E'.set i (.own (ds ++ [d])))) : Ws K fx (tDrop (tBM K "list" rAppend (tVar i) (tCons te tNil))) E P := fun c G σ H Z X A k => by
  obtain ⟨p, vs, e, g, b, hp, r⟩ := A.own h0
  refine ⟨.ref p, e, .inl ⟨rfl, vs, .inl (.inl hp)⟩, h c G σ H X A _ fun v d E' G' H' q A' m rv => ?_⟩
  obtain ⟨q1, q2, q3⟩ := q
  have h1 : E'.sl[i]? = some (.own ds) := by rw [q1]; exact h0
  obtain ⟨p', vs', e', g', b', hp', r'⟩ := A'.own h1
  rw [e] at e'
  cases e'
  refine ⟨p, vs', v, rfl, rfl, hp', Nat.lt_of_lt_of_le (by rw [r'.length]; exact q2) (by decide), ?_⟩
  exact k.nx _ _ _ _ q3 (A'.change h1 e (r'.append (.cons rv .nil))) m.ex
/-- xs[k] = e -/
theorem ws_set {i : Nat} {ds : List D} (h0 : E.sl[i]? = some (.own ds)) (h : We K fx te E fun d E' => We K fx tb E' fun z E2 => E2.sl = E.sl ∧ ∃ (n : Int) (j : Nat), z = .int n ∧ ixN ds.length n = some j ∧ P.nx (E2.set i (.own (ds.set j d)))) : Ws K fx (tAsg te (gSub (tVar i) tb rSetL)) E P := fun c G σ H Z X A k => by
  obtain ⟨p, vs, e, g, b, hp, r⟩ := A.own h0
  refine h c G σ H X A _ fun v d E' G' H' q A' m rv => ⟨.ref p, e, q c G' σ H' X A' _ fun u z E2 G2 H2 q2 A2 m2 ru => ?_⟩
  obtain ⟨q1, n, j, e1, e2, q3⟩ := q2
  subst e1
  cases ru
  have h1 : E2.sl[i]? = some (.own ds) := by rw [q1]; exact h0
  obtain ⟨p', vs', e', g', b', hp', r'⟩ := A2.own h1
  rw [e] at e'
  cases e'
  refine ⟨p, vs', n, j, rfl, rfl, hp', by rw [r'.length]; exact e2, ?_⟩
  exact k.nx _ _ _ _ q3 (A2.change h1 e (r'.set (rv.mono m2.ex) j)) (m.ex.trans m2.ex)
end
end Z
end
section
namespace Z
open PySem L2
/-! ### what is walked -/
def iAny (K : PySem.W.Frag) (tl : TE) : TI := fun σ H R => tl σ H fun x H1 => (∃ a, x = .ref a ∧ (∃ xs, SqL K H1 a xs) ∧ R (Itl K a) H1) ∨ (∃ a, x = .ref a ∧ (∃ xs, SqT K H1 a xs) ∧ R (Itt K a) H1)
open PyProof.Rows in
theorem pi_any {X : Cx} {tg l : Expr} {tl : TE} (hl : PE X l tl) : PI X tg l (iAny X.K tl) := by
  refine ⟨fun pins s σ H R I h => ?_⟩
  refine thn (hl.run pins s σ H _ I h) fun v s1 ⟨x, H1, I1, r1, q1⟩ => ?_
  rcases q1 with ⟨a, e, ⟨xs, hq⟩, q⟩ | ⟨a, e, ⟨xs, hq⟩, q⟩
  · subst e
    cases r1
    obtain ⟨its, rv, p, hz⟩ := I1.list hq
    refine wpAny_pyIter_list p.isList ?_
    refine ⟨s1.heap.objs.size, [s1.heap.objs.size], _, _, H1, rfl, I1.kept (t' := s1.toks) fun b o e => Heap.get?_push_of_some _ e, turn_list a _, ⟨_, Heap.get?_push_size _ rfl, rfl, rfl⟩, fun b hb => ?_, q⟩
    have e : b = s1.heap.objs.size := by simpa using hb
    subst e
    exact I1.fpOk (Nat.le_refl _) (I1.hok.fresh (Nat.le_refl _))
  · subst e
    cases r1
    obtain ⟨its, rv, p, hz⟩ := I1.tuple hq
    refine wpAny_pyIter_tuple (show s1.heap.IsTuple a its.toArray from p) ?_
    refine ⟨s1.heap.objs.size, [s1.heap.objs.size], _, _, H1, rfl, I1.kept (t' := s1.toks) fun b o e => Heap.get?_push_of_some _ e, turn_tuple a _, ⟨_, Heap.get?_push_size _ rfl, rfl, rfl⟩, fun b hb => ?_, q⟩
    have e : b = s1.heap.objs.size := by simpa using hb
    subst e
    exact I1.fpOk (Nat.le_refl _) (I1.hok.fresh (Nat.le_refl _))

section
variable {K : PySem.W.Frag} {fx : Fx} {E : Env} {te ta tb : TE} {tt : TT} {t u : TS} {c : Cn} {G H : Hp} {σ : St} {P : Po}
def isSeq (d : D) (its : List D) : Prop := d = .lst its ∨ d = .tup its
theorem sql_one {xs ys : List V} {H : Hp} {a : Addr} (h : H a = some (.lst xs)) (h' : Rd H a (.lst ys)) : ys = xs := by
  rcases h' with h' | ⟨o, h'⟩
  · rw [h] at h'; cases h'; rfl
  · rw [h] at h'; cases h'
theorem walk_l {a : Addr} {vs : List V} {its : List D} (hk : K.lookup a = none ∨ True) (h : G a = some (.lst vs)) (r : Rps K G vs its) : Walk K G its (Itl K a) := by
  intro H i x
  have hH := x a _ h
  refine ⟨fun hi => ?_, fun hi => ⟨vs, .inl (.inl hH), by rw [r.length]; exact hi⟩⟩
  obtain ⟨v, e1, e2⟩ := r.get (List.getElem?_eq_getElem hi)
  refine ⟨⟨vs, v, .inl (.inl hH), e1⟩, fun y H' ⟨e, q⟩ => ⟨_, List.getElem?_eq_getElem hi, .inl ⟨e, ?_⟩⟩⟩
  have := q vs (.inl (.inl hH))
  rw [e1] at this
  cases this
  exact e2
theorem walk_t {a : Addr} {vs : List V} {its : List D} (h : SqT K G a vs) (r : Rps K G vs its) : Walk K G its (Itt K a) := by
  intro H i x
  have hH := x.t h
  refine ⟨fun hi => ?_, fun hi => ⟨vs, hH, by rw [r.length]; exact hi⟩⟩
  obtain ⟨v, e1, e2⟩ := r.get (List.getElem?_eq_getElem hi)
  refine ⟨⟨vs, v, hH, e1⟩, fun y H' ⟨e, q⟩ => ⟨_, List.getElem?_eq_getElem hi, .inl ⟨e, ?_⟩⟩⟩
  have := q vs hH
  rw [e1] at this
  cases this
  exact e2
theorem wi_any {Q : List D → Env → Prop} (h : We K fx te E fun d E' => ∃ its, isSeq d its ∧ Q its E') : Wi K fx (iAny K te) E Q := fun c G σ H X A R k =>
  h c G σ H X A _ fun v d E' G' H' q A' m r => by
    obtain ⟨its, e, q⟩ := q
    rcases e with e | e
    · subst e
      cases r with
      | lst hl rs => exact .inl ⟨_, rfl, ⟨_, .inl (.inl (A'.ex _ _ hl))⟩, k _ _ _ _ _ q A' m (walk_l (.inr trivial) hl rs)⟩
    · subst e
      cases r with
      | tup hl rs => exact .inr ⟨_, rfl, ⟨_, A'.ex.t hl⟩, k _ _ _ _ _ q A' m (walk_t hl rs)⟩
def rangeD (lo : Int) (n : Nat) : List D := (List.range n).map fun (i : Nat) => D.int (lo + i)
theorem rangeD_length (lo : Int) (n : Nat) : (rangeD lo n).length = n := by simp [rangeD]
theorem rangeD_get {lo : Int} {n i : Nat} (h : i < n) : (rangeD lo n)[i]? = some (.int (lo + i)) := by simp [rangeD, h]
theorem walk_r (lo : Int) (n : Nat) : Walk K G (rangeD lo n) (Itr lo n) := by
  intro H i x
  rw [rangeD_length]
  exact ⟨fun hi => ⟨hi, fun y H' ⟨e, q⟩ => ⟨_, rangeD_get hi, .inl ⟨e, by subst q; exact .int _⟩⟩⟩, fun hi => hi⟩
theorem wi_r1 {ta : TA} {Q : List D → Env → Prop} (h : Wa K fx ta E fun ds E' => ∃ j : Int, ds = [.int j] ∧ (-1000000 ≤ j ∧ j ≤ 1000000) ∧ Q (rangeD 0 j.toNat) E') : Wi K fx (iRng1 ta) E Q := fun c G σ H X A R k =>
  h c G σ H X A _ fun vs ds E' G' H' q A' m r => by
    obtain ⟨j, e, hj, q⟩ := q
    subst e
    cases r with
    | cons r rr =>
      cases rr
      cases r
      exact ⟨j, rfl, by omega, by omega, k _ _ _ _ _ q A' m (walk_r 0 _)⟩
theorem wi_r2 {ta : TA} {Q : List D → Env → Prop} (h : Wa K fx ta E fun ds E' => ∃ i j : Int, ds = [.int i, .int j] ∧ (-1000000 ≤ i ∧ i ≤ 1000000 ∧ -1000000 ≤ j ∧ j ≤ 1000000) ∧ Q (rangeD i (j - i).toNat) E') : Wi K fx (iRng2 ta) E Q := fun c G σ H X A R k =>
  h c G σ H X A _ fun vs ds E' G' H' q A' m r => by
    obtain ⟨i, j, e, hj, q⟩ := q
    subst e
    cases r with
    | cons r rr =>
      cases rr with
      | cons r' rr =>
        cases rr
        cases r
        cases r'
        exact ⟨i, j, rfl, by omega, k _ _ _ _ _ q A' m (walk_r i _)⟩

/-! ### for -/
theorem take_tup {H : Hp} {G : Hp} {T : Addr} {vs : List V} {c : Cn} (h : Ex G H) (hp : H T = none) : Mv c G H (upd G T (.tup vs)) (upd H T (.tup vs)) := Mv.laid h hp
theorem ws_for {wi : TI} {g : TG} {js : List Nat} (h : Wi K fx wi E fun its E1 => ∃ Inv : Nat → Env → Prop, Inv 0 E1 ∧
    (∀ i d E', its[i]? = some d → Inv i E' → Wg K fx js g d E' fun E2 => Ws K fx t E2 { nx := Inv (i + 1), rt := P.rt, ro := P.ro, bk := P.nx, ct := Inv (i + 1) }) ∧ ∀ E', Inv its.length E' → P.nx E') :
    Ws K fx (tFor wi g t) E P := fun c G σ H Z X A k =>
  h c G σ H X A _ fun J its E1 G1 H1 q A1 m1 w => by
    obtain ⟨Inv, h0, hs, hd⟩ := q
    refine ⟨fun i m σ' H' => m = its.length - i ∧ i ≤ its.length ∧ ∃ E' G', Inv i E' ∧ As K c G' σ' E' H' ∧ Ex G1 G', ⟨_, rfl, Nat.zero_le _, E1, G1, h0, A1, Ex.refl _⟩, ?_⟩
    rintro i m σ' H' ⟨rfl, hi, E', G', hI, A', x⟩
    obtain ⟨w1, w2⟩ := w H' i (x.trans A'.ex)
    by_cases hlt : i < its.length
    · obtain ⟨go, yl⟩ := w1 hlt
      refine .inr ⟨go, fun σ2 H2 => ∃ E2 G2, Inv (i + 1) E2 ∧ As K c G2 σ2 E2 H2 ∧ Ex G1 G2, fun σ2 H2 ⟨E2, G2, a, b, d⟩ => ⟨its.length - (i + 1), by omega, rfl, hlt, E2, G2, a, b, d⟩, fun v H2 y => ?_⟩
      obtain ⟨d, ed, y⟩ := yl v H2 y
      have go2 : ∀ G2 H2, As K c G2 σ' E' H2 → Ex G' G2 → Rp K G2 v d → g v σ' H2 fun σ3 H3 => t { Z with nx := fun σ2 H2 => ∃ E2 G2, Inv (i + 1) E2 ∧ As K c G2 σ2 E2 H2 ∧ Ex G1 G2, ct := fun σ2 H2 => ∃ E2 G2, Inv (i + 1) E2 ∧ As K c G2 σ2 E2 H2 ∧ Ex G1 G2, bk := Z.nx } σ3 H3 := by
        intro G2 H2 A2 x2 r2
        refine hs i d E' ed hI c G2 σ' H2 X A2 v r2 _ fun E3 G3 σ3 H3 q3 A3 m3 _ => ?_
        refine q3 c G3 σ3 H3 _ X A3 ⟨fun E4 G4 σ4 H4 q4 A4 x4 => ⟨E4, G4, q4, A4, (x.trans x2).trans (m3.ex.trans x4)⟩, k.rt, k.ro, fun E4 G4 σ4 H4 q4 A4 x4 => k.nx _ _ _ _ q4 A4 (m1.ex.trans ((x.trans x2).trans (m3.ex.trans x4))), fun E4 G4 σ4 H4 q4 A4 x4 => ⟨E4, G4, q4, A4, (x.trans x2).trans (m3.ex.trans x4)⟩⟩
      rcases y with ⟨e, r⟩ | ⟨T, vs, ds, e1, e2, e3, e4, r⟩
      · subst e
        exact go2 G' H2 A' (Ex.refl _) (r.mono x)
      · subst e1 e3 e4
        have mv := Mv.laid (c := c) (o := .tup vs) A'.ex e2
        exact go2 _ _ (A'.move0 mv (fun a u e => by rw [upd_ne (ne_of_none e e2)]; exact e)) mv.ex (.tup (.inl (.inl upd_same)) (r.mono (x.trans mv.ex)))
    · have e : i = its.length := by omega
      subst e
      exact .inl ⟨w2 (Nat.le_refl _), k.nx _ _ _ _ (hd E' hI) A' (m1.ex.trans x)⟩
/-! ### while -/
theorem ws_while (Inv : Nat → Env → Prop) (m0 : Nat) (h0 : Inv m0 E)
    (hs : ∀ m E', Inv m E' → Wt K fx tt E' fun b E2 => (b = true → ∃ N : Env → Prop, (∀ E3, N E3 → ∃ m', m' < m ∧ Inv m' E3) ∧ Ws K fx t E2 { nx := N, rt := P.rt, ro := P.ro, bk := P.nx, ct := N }) ∧ (b = false → P.nx E2)) : Ws K fx (tWhile tt t) E P := fun c G σ H Z X A k => by
  refine ⟨fun m σ' H' => ∃ E' G', Inv m E' ∧ As K c G' σ' E' H' ∧ Ex G G', ⟨m0, E, G, h0, A, Ex.refl _⟩, ?_⟩
  rintro m σ' H' ⟨E', G', hI, A', x⟩
  refine hs m E' hI c G' σ' H' X A' _ fun b E2 G2 H2 q A2 m2 => ?_
  cases b with
  | true =>
    obtain ⟨N, hN, hb⟩ := q.1 rfl
    show ∃ N : St → Hp → Prop, _
    refine ⟨fun σ3 H3 => ∃ E3 G3, N E3 ∧ As K c G3 σ3 E3 H3 ∧ Ex G G3, fun σ3 H3 ⟨E3, G3, a, b, d⟩ => ?_, ?_⟩
    · obtain ⟨m', l, i⟩ := hN E3 a
      exact ⟨m', l, E3, G3, i, b, d⟩
    · exact hb c G2 σ' H2 _ X A2 ⟨fun E4 G4 σ4 H4 q4 A4 x4 => ⟨E4, G4, q4, A4, (x.trans m2.ex).trans x4⟩, k.rt, k.ro, fun E4 G4 σ4 H4 q4 A4 x4 => k.nx _ _ _ _ q4 A4 ((x.trans m2.ex).trans x4), fun E4 G4 σ4 H4 q4 A4 x4 => ⟨E4, G4, q4, A4, (x.trans m2.ex).trans x4⟩⟩
  | false => exact k.nx _ _ _ _ (q.2 rfl) A2 (x.trans m2.ex)

/-! ### comprehensions -/
def wipeL (L : List Sl) : List Nat → List Sl
  | [] => L
  | v :: vs => (wipeL L vs).set v .no
theorem As.wipe (A : As K c G σ E H) : ∀ vs : List Nat, As K c G (L2.wipe σ vs) ⟨wipeL E.sl vs, E.n⟩ H
  | [] => A
  | v :: vs => (As.wipe A vs).drop v none
/-- the list that a comprehension makes is kept by what runs in it -/
def Cn.with (c : Cn) (D : Addr) (o : HO) : Cn := ⟨c.F, upd c.B D o, c.G0, c.ca, c.cells, c.T⟩
theorem As.within (A : As K c G σ E H) {D : Addr} {o : HO} (hD : H D = some o) (hB : c.B D = none) (hG : G D = none) (hot : ∀ ps, o ≠ .tbl ps) (ho : ∀ (i : Nat), σ[i]? = some (some (V.ref D)) → ∀ s, E.sl[i]? = some s → ¬ isOwn s) : As K (c.with D o) G σ E H where
  ex := A.ex
  g0 := A.g0
  keep := fun a u e f kk => by
    by_cases q : a = D
    · subst q
      have e' : upd c.B a o a = some u := e
      rw [upd_same] at e'; cases e'; exact hD
    · have e' : upd c.B D o a = some u := e
      rw [upd_ne q] at e'; exact A.keep a u e' f kk
  sep := fun a e g => by
    by_cases q : a = D
    · subst q; exact hG
    · have e' : upd c.B D o a ≠ none := e
      rw [upd_ne q] at e'; exact A.sep a e' g
  tB := fun t f => by
    refine ⟨fun e => ?_, (A.tB t f).2⟩
    have e' : upd c.B D o t = none := e
    by_cases q : t = D
    · subst q; rw [upd_same] at e'; cases e'
    · rw [upd_ne q] at e'; exact (A.tB t f).1 e'
  len := A.len
  sl := fun i s e => by
    have w := A.sl i s e
    cases s with
    | no => trivial
    | d x => exact w
    | own ds =>
      obtain ⟨p, vs, a1, a2, a3, a4, a5⟩ := w
      have : p ≠ D := fun q => by subst q; exact ho i (get_join.mp a1) _ e trivial
      exact ⟨p, vs, a1, a2, by show upd c.B D o p = none; rw [upd_ne this]; exact a3, a4, a5⟩
    | slf p C fs =>
      obtain ⟨dx, vs, a1, a2, a3, a4, a5⟩ := w
      have : p ≠ D := fun q => by subst q; exact ho i (get_join.mp a1) _ e trivial
      exact ⟨dx, vs, a1, a2, by show upd c.B D o p = none; rw [upd_ne this]; exact a3, a4, a5⟩
  ne := A.ne
  tap := A.tap
  gt := A.gt
  st := fun hT => ⟨(A.st hT).1, fun a ps e => by
    have e' : upd c.B D o a = some (.tbl ps) := e
    by_cases q : a = D
    · subst q; rw [upd_same] at e'; exact hot ps (Option.some_inj.mp e')
    · rw [upd_ne q] at e'; exact (A.st hT).2 a ps e'⟩
  tb := A.tb
theorem As.out {D : Addr} {o : HO} (A : As K (c.with D o) G σ E H) (hB : c.B D = none) (hF : c.F ≠ some D) (tb : ∀ t, c.F = some t → c.B t ≠ none ∧ c.G0 t = none ∧ c.G0 c.ca = some (.lst (c.cells.map V.int)) ∧ c.cells.length ≤ 63) : As K c G σ E H where
  ex := A.ex
  g0 := A.g0
  keep := fun a u e f kk => A.keep a u (by
    show upd c.B D o a = some u
    rw [upd_ne (fun q => by subst q; rw [hB] at e; cases e)]; exact e) f kk
  sep := fun a e g => A.sep a (by
    show upd c.B D o a ≠ none
    rw [upd_ne (fun q => by subst q; exact e hB)]; exact e) g
  tB := tb
  len := A.len
  sl := fun i s e => by
    have w := A.sl i s e
    cases s with
    | no => trivial
    | d x => exact w
    | own ds =>
      obtain ⟨p, vs, a1, a2, a3, a4, a5⟩ := w
      have a3' : upd c.B D o p = none := a3
      have : p ≠ D := fun q => by subst q; rw [upd_same] at a3'; cases a3'
      rw [upd_ne this] at a3'
      exact ⟨p, vs, a1, a2, a3', a4, a5⟩
    | slf p C fs =>
      obtain ⟨dx, vs, a1, a2, a3, a4, a5⟩ := w
      have a3' : upd c.B D o p = none := a3
      have : p ≠ D := fun q => by subst q; rw [upd_same] at a3'; cases a3'
      rw [upd_ne this] at a3'
      exact ⟨dx, vs, a1, a2, a3', a4, a5⟩
  ne := A.ne
  tap := A.tap
  gt := A.gt
  st := fun hT => ⟨(A.st hT).1, fun a ps e => (A.st hT).2 a ps (by
    show upd c.B D o a = some (.tbl ps)
    rw [upd_ne (fun q => by subst q; rw [hB] at e; cases e)]; exact e)⟩
  tb := A.tb
theorem XOk.within {D : Addr} {o : HO} (X : XOk K c fx) (hB : c.B D = none) (hF : c.F ≠ some D) (tb : ∀ t, c.F = some t → c.B t ≠ none ∧ c.G0 t = none ∧ c.G0 c.ca = some (.lst (c.cells.map V.int)) ∧ c.cells.length ≤ 63) : XOk K (c.with D o) fx := ⟨X.1, fun C fs fds d G' σ' E' H' h A hd rf hb => X.2.1 C fs fds d G' σ' E' H' h (A.out hB hF tb) hd rf (by
    have hb' : upd c.B D o d = none := hb
    by_cases q : d = D
    · subst q; rw [upd_same] at hb'; cases hb'
    · rw [upd_ne q] at hb'; exact hb'), X.2.2⟩
/-- a list is changed that no slot has -/
theorem As.side (A : As K c G σ E H) {D : Addr} {o : HO} {xs : List V} (hd : H D = some (.lst xs)) (hB : c.B D = none) (hG : G D = none) (hF : c.F ≠ some D) (ho : ∀ (i : Nat), σ[i]? = some (some (V.ref D)) → ∀ s, E.sl[i]? = some s → ¬ isOwn s) : As K c G σ E (upd H D o) := by
  have hw : ∀ a u, H a = some u → a ≠ D → upd H D o a = some u := fun a u z y => by rw [upd_ne y]; exact z
  refine ⟨fun a u z => hw a u (A.ex a u z) fun y => (by subst y; rw [hG] at z; cases z), A.g0, fun a u z f kk => hw a u (A.keep a u z f kk) fun y => (by subst y; rw [hB] at z; cases z), A.sep, A.tB, A.len, fun i s e => ?_, A.ne, ?_, A.gt, A.st, tabs_lst A.tb hd⟩
  · have w := A.sl i s e
    cases s with
    | no => trivial
    | d x => exact w
    | own ds =>
      obtain ⟨p, vs, a1, a2, a3, a4, a5⟩ := w
      have : p ≠ D := fun q => by subst q; exact ho i (get_join.mp a1) _ e trivial
      exact ⟨p, vs, a1, a2, a3, hw _ _ a4 this, a5⟩
    | slf p C fs =>
      obtain ⟨dx, vs, a1, a2, a3, a4, a5⟩ := w
      have : p ≠ D := fun q => by subst q; exact ho i (get_join.mp a1) _ e trivial
      exact ⟨dx, vs, a1, a2, a3, hw _ _ a4 this, a5⟩
  · have T := A.tap
    unfold TapOk at T ⊢
    cases f : c.F with
    | none => trivial
    | some t =>
      rw [f] at T
      obtain ⟨spot, left, h1, h2⟩ := T
      exact ⟨spot, left, hw _ _ h1 (fun y => by subst y; exact hF f), h2⟩
/-- what ran over other slots is behind: the slots ahead of it stand -/
theorem As.restore {G' H' : Hp} {σ' : St} {E' : Env} (A0 : As K c G σ E H) (A1 : As K c G' σ' E' H') (m : Mw c G H G' H') (same : ∀ (i : Nat) (s : Sl), E.sl[i]? = some s → isOwn s → E'.sl[i]? = some s ∧ σ'[i]? = σ[i]?) : As K c G' σ (E.at E'.n) H' where
  ex := A1.ex
  g0 := A1.g0
  keep := A1.keep
  sep := A1.sep
  tB := A1.tB
  len := A0.len
  sl := fun i s e => by
    have w := A0.sl i s e
    cases s with
    | no => trivial
    | d x => obtain ⟨u, a1, a2⟩ := w; exact ⟨u, a1, a2.mono m.ex⟩
    | own ds =>
      obtain ⟨p, vs, a1, a2, a3, a4, a5⟩ := w
      obtain ⟨b1, b2⟩ := same i _ e trivial
      obtain ⟨q, ws, c1, c2, _⟩ := A1.own b1
      rw [b2, get_join.mp a1] at c1
      cases c1
      exact ⟨p, vs, a1, c2, a3, m.keep _ _ a4 (fun f => (A0.tB p f).1 a3) kp_lst, a5.mono m.ex⟩
    | slf p C fs =>
      obtain ⟨dx, vs, a1, a2, a3, a4, a5⟩ := w
      obtain ⟨b1, b2⟩ := same i _ e trivial
      obtain ⟨dy, ws, c1, c2, _⟩ := A1.slf b1
      exact ⟨dx, vs, a1, c2, a3, m.keep _ _ a4 (fun f => (A0.tB p f).1 a3) kp_ins, a5.mono m.ex⟩
  ne := A0.ne
  tap := A1.tap
  gt := A1.gt
  st := A1.st
  tb := A1.tb
theorem wipeL_out {L : List Sl} {i : Nat} : ∀ {vs : List Nat}, i ∉ vs → (wipeL L vs)[i]? = L[i]?
  | [], _ => rfl
  | v :: vs, h => by
    show ((wipeL L vs).set v .no)[i]? = _
    rw [List.getElem?_set_ne (fun e => h (by rw [e]; exact List.mem_cons_self))]
    exact wipeL_out fun q => h (List.mem_cons_of_mem _ q)
/-- no slot of these is of its own -/
def noOwn (L : List Sl) (vs : List Nat) : Prop := ∀ i ∈ vs, ∀ s, L[i]? = some s → ¬ isOwn s
theorem wo_lc {wi : TI} {g : TG} {vs js : List Nat} {Q : List D → Env → Prop} (h : Wi K fx wi E fun its E1 => (∀ j ∈ js, j ∈ vs) ∧ its.length ≤ 100000 ∧ noOwn E1.sl vs ∧ ∃ Inv : Nat → List D → Nat → Prop, Inv 0 [] E1.n ∧
    (∀ i d acc n, its[i]? = some d → acc.length ≤ i → Inv i acc n → Wg K fx js g d ⟨wipeL E1.sl vs, n⟩ fun E2 => Wt K fx tt E2 fun b E3 =>
      (b = true → We K fx te E3 fun y E4 => wipeL E4.sl vs = wipeL E1.sl vs ∧ Inv (i + 1) (acc ++ [y]) E4.n) ∧ (b = false → wipeL E3.sl vs = wipeL E1.sl vs ∧ Inv (i + 1) acc E3.n)) ∧
    ∀ acc n, acc.length ≤ its.length → Inv its.length acc n → Q acc (E1.at n)) : Wo K fx (tLc wi g tt te vs) E Q := fun c G σ H X A P k =>
  h c G σ H X A _ fun J its E1 G1 H1 q A1 m1 w => by
    obtain ⟨hj, hlen, hno, Inv, h0, hs, hd⟩ := q
    intro Dl hD
    have hB := B_free A1 hD
    have hF : c.F ≠ some Dl := fun f => (A1.tB Dl f).1 hB
    have hG1 : G1 Dl = none := A1.ex.free hD
    have hG0 : c.G0 Dl = none := A1.g0.free hG1
    have ho := own_free A1 hD
    have mv := Mv.hid (c := c) (o := HO.lst []) A1.ex hD
    refine ⟨fun i m H' => m = its.length - i ∧ i ≤ its.length ∧ ∃ acc accV n G', Inv i acc n ∧ acc.length ≤ i ∧ As K c G' σ (E1.at n) H' ∧ Mw c G1 H1 G' H' ∧ G' Dl = none ∧ H' Dl = some (.lst accV) ∧ Rps K G' accV acc,
      ⟨_, rfl, Nat.zero_le _, [], [], E1.n, G1, h0, Nat.le_refl _, A1.move0 mv (fun a u e => by rw [upd_ne (ne_of_none e hD)]; exact e), mv.mw, hG1, upd_same, .nil⟩, ?_⟩
    rintro i m H' ⟨rfl, hi, acc, accV, n, G', hI, hl, A', m', gD, hH', rA⟩
    obtain ⟨w1, w2⟩ := w H' i (m'.ex.trans A'.ex)
    by_cases hlt : i < its.length
    · obtain ⟨go, yl⟩ := w1 hlt
      refine .inr ⟨go, fun H2 => ∃ acc accV n G', Inv (i + 1) acc n ∧ acc.length ≤ i + 1 ∧ As K c G' σ (E1.at n) H2 ∧ Mw c G1 H1 G' H2 ∧ G' Dl = none ∧ H2 Dl = some (.lst accV) ∧ Rps K G' accV acc, fun H2 z => ⟨its.length - (i + 1), by omega, rfl, hlt, z⟩, fun v H2 y => ?_⟩
      obtain ⟨d, ed, y⟩ := yl v H2 y
      have go2 : ∀ G2 H2, As K c G2 σ (E1.at n) H2 → Mw c G' H' G2 H2 → G2 Dl = none → H2 Dl = some (.lst accV) → Rp K G2 v d → g v (L2.wipe σ vs) H2 fun σ2 H3 => L2.wipe σ2 vs = L2.wipe σ vs ∧ tt σ2 H3 fun b H4 =>
          if b = true then te σ2 H4 fun y H5 => ∃ acc, H5 Dl = some (.lst acc) ∧ acc.length < sizeLine ∧ (∃ acc2 accV n G', Inv (i + 1) acc2 n ∧ acc2.length ≤ i + 1 ∧ As K c G' σ (E1.at n) (upd H5 Dl (.lst (acc ++ [y]))) ∧ Mw c G1 H1 G' (upd H5 Dl (.lst (acc ++ [y]))) ∧ G' Dl = none ∧ (upd H5 Dl (.lst (acc ++ [y]))) Dl = some (.lst accV) ∧ Rps K G' accV acc2)
          else (∃ acc accV n G', Inv (i + 1) acc n ∧ acc.length ≤ i + 1 ∧ As K c G' σ (E1.at n) H4 ∧ Mw c G1 H1 G' H4 ∧ G' Dl = none ∧ H4 Dl = some (.lst accV) ∧ Rps K G' accV acc) := by
        intro G2 H2 A2 m2 gD2 hD2 r2
        have Aw := (A2.within (o := .lst accV) hD2 hB gD2 (fun _ e => by cases e) ho).wipe vs
        have Xw := X.within (D := Dl) (o := .lst accV) hB hF A2.tB
        have same : ∀ (σ3 : St) (E3 : Env), L2.wipe σ3 vs = L2.wipe σ vs → wipeL E3.sl vs = wipeL E1.sl vs → ∀ (i : Nat) (s : Sl), (E1.at n).sl[i]? = some s → isOwn s → E3.sl[i]? = some s ∧ σ3[i]? = σ[i]? := by
          intro σ3 E3 e1 e2 i s e o
          have hv : i ∉ vs := fun z => hno i z s e o
          refine ⟨?_, ?_⟩
          · rw [← wipeL_out (L := E3.sl) hv, e2, wipeL_out hv]; exact e
          · rw [← wipe_out (σ := σ3) hv, e1, wipe_out hv]
        have cm : ∀ {Ga Ha Gb Hb : Hp}, Mw (c.with Dl (.lst accV)) Ga Ha Gb Hb → Mw c Ga Ha Gb Hb := fun z => ⟨z.ex, z.keep⟩
        refine hs i d acc n ed hl hI _ G2 _ H2 Xw Aw v r2 _ fun E3 G3 σ3 H3 q3 A3 m3 w3 => ⟨(w3 vs hj).trans (by
          have : ∀ us : List Nat, (∀ j ∈ us, j ∈ vs) → L2.wipe (L2.wipe σ us) vs = L2.wipe σ vs := by
            intro us
            induction us with
            | nil => intro _; rfl
            | cons a us ih =>
              intro z
              show L2.wipe ((L2.wipe σ us).set a none) vs = _
              rw [wipe_set (z a List.mem_cons_self)]
              exact ih fun j hj => z j (List.mem_cons_of_mem _ hj)
          exact this vs fun j hj => hj), ?_⟩
        have hw3 : L2.wipe σ3 vs = L2.wipe σ vs := (w3 vs hj).trans (by
          have : ∀ us : List Nat, (∀ j ∈ us, j ∈ vs) → L2.wipe (L2.wipe σ us) vs = L2.wipe σ vs := by
            intro us
            induction us with
            | nil => intro _; rfl
            | cons a us ih =>
              intro z
              show L2.wipe ((L2.wipe σ us).set a none) vs = _
              rw [wipe_set (z a List.mem_cons_self)]
              exact ih fun j hj => z j (List.mem_cons_of_mem _ hj)
          exact this vs fun j hj => hj)
        refine q3 _ G3 σ3 H3 Xw A3 _ fun b E4 G4 H4 q4 A4 m4 => ?_
        cases b with
        | true =>
          show te σ3 H4 _
          refine q4.1 rfl _ G4 σ3 H4 Xw A4 _ fun u y E5 G5 H5 q5 A5 m5 r5 => ?_
          have hH5 : H5 Dl = some (.lst accV) := A5.keep Dl _ upd_same hF kp_lst
          have gD5 : G5 Dl = none := A5.sep Dl (by show upd c.B Dl _ Dl ≠ none; rw [upd_same]; simp) hG0
          have mm : Mw c G2 H2 G5 H5 := (cm m3).trans ((cm m4).trans (cm m5))
          have A6 := A2.restore (A5.out hB hF A2.tB) mm (same σ3 E5 hw3 q5.1)
          have hlv : accV.length < sizeLine := Nat.lt_of_lt_of_le (m := 100001) (by rw [rA.length]; omega) (by decide)
          refine ⟨accV, hH5, hlv, acc ++ [y], accV ++ [u], E5.n, G5, q5.2, by rw [List.length_append]; simp; omega, A6.side hH5 hB gD5 hF ho, ⟨m'.ex.trans (m2.ex.trans mm.ex), fun a o e f kk => ?_⟩, gD5, upd_same, (rA.mono (m2.ex.trans mm.ex)).append (.cons r5 .nil)⟩
          rw [upd_ne (ne_of_none e hD)]
          exact mm.keep a o (m2.keep a o (m'.keep a o e f kk) f kk) f kk
        | false =>
          show ∃ acc accV n G', _
          have q5 := q4.2 rfl
          have hH4 : H4 Dl = some (.lst accV) := A4.keep Dl _ upd_same hF kp_lst
          have gD4 : G4 Dl = none := A4.sep Dl (by show upd c.B Dl _ Dl ≠ none; rw [upd_same]; simp) hG0
          have mm : Mw c G2 H2 G4 H4 := (cm m3).trans (cm m4)
          have A6 := A2.restore (A4.out hB hF A2.tB) mm (same σ3 E4 hw3 q5.1)
          exact ⟨acc, accV, E4.n, G4, q5.2, by omega, A6, m'.trans (m2.trans mm), gD4, hH4, rA.mono (m2.ex.trans mm.ex)⟩
      rcases y with ⟨e, r⟩ | ⟨T, us, ds, e1, e2, e3, e4, r⟩
      · subst e
        exact go2 G' H2 A' Mw.refl gD hH' (r.mono m'.ex)
      · subst e1 e3 e4
        have mv := Mv.laid (c := c) (o := .tup us) A'.ex e2
        have nT : Dl ≠ T := fun z => by subst z; rw [hH'] at e2; cases e2
        exact go2 _ _ (A'.move0 mv (fun a u e => by rw [upd_ne (ne_of_none e e2)]; exact e)) mv.mw (by rw [upd_ne nT]; exact gD) (by rw [upd_ne nT]; exact hH') (.tup (.inl (.inl upd_same)) (r.mono (m'.ex.trans mv.ex)))
    · have e : i = its.length := by omega
      subst e
      exact .inl ⟨w2 (Nat.le_refl _), k Dl accV acc (E1.at n) G' H' (hd acc n hl hI) A' (m1.trans m') ⟨gD, hB, ho⟩ hH' rA⟩
end
end Z
end
section
namespace Z
open PySem L2
/-! ### promises -/
/-- the field f of an instance, or of a kept error -/
def tFldU (K : PySem.W.Frag) (te : TE) (f : Str) : TE := fun σ H Q => te σ H fun x H1 =>
  (∃ a C dx fs v, x = V.ref a ∧ H1 a = some (.ins C dx fs) ∧ Cls K C ∧ NoAttr K C f ∧ fs.lookup f = some v ∧ Q v H1) ∨
  ∃ (a : Addr) (oe : Obj) (C dd : Addr) (fs : List (Str × V)) (v : V), x = .ref a ∧ H1 a = some (kept a oe) ∧ Zc (.ref C) (some dd) oe ∧ (∃ vs, oe.data = .fields vs) ∧ XfC K C ∧ PySem.W.findIn K (.ref C) f = some none ∧ H1 dd = some (.xd fs) ∧ fs.lookup f = some v ∧ Q v H1
theorem pe_fldU {X : Cx} {e : Expr} {te : TE} {pos : Pos} {n : Str} (he : PE X e te) (hb : attributeBase e n X.env (eval e X.env) = eval e X.env := by rfl) : PE X (.Attribute e n pos) (tFldU X.K te n) :=
  ⟨fun pins s σ H Q I h => attr_of hb (thn (he.run pins s σ H _ I h) fun u s1 hh => by
    obtain ⟨x, H1, I1, rx, q⟩ := hh
    rcases q with ⟨a, C, dx, fs, v, ex, ea, c, n, l, q⟩ | ⟨a, oe, C, dd, fs, v, ex, ea, hz, ⟨vs, hd⟩, T, hno, ed, l, q⟩
    · subst ex
      cases (rx : u = Value.ref a)
      exact getattr_ok I1 ea c n l fun u' s2 I2 ru => ⟨v, H1, I2, ru, q⟩
    · subst ex
      cases (rx : u = Value.ref a)
      have ha : s1.heap.get? a = some oe := (show ObjOk X.prog X.w H1 s1.heap a (kept a oe) from I1.hok a _ ea).1
      obtain ⟨mA, hns, hr⟩ : ObjOk X.prog X.w H1 s1.heap dd (.xd fs) := I1.hok dd _ ed
      rcases lookIn_ns hns with ⟨od, ho, hl⟩
      obtain ⟨w, hw, rw'⟩ := RelO.some_of (v := v) (o := mA n) (by rw [← l]; exact hr n)
      exact HandSPX.exc_get I1.kIn (od := od) ⟨ha, hz.1, by unfold PySem.W.notCls; rw [hd] <;> rfl, by rw [hz.2]; exact ho⟩ T.ga T.gg T.exC (PySem.W.findObj_own T.hdC hno rfl (by rw [hl, hw])) (handed_of rw') ⟨v, H1, I1.tok _, rw', q⟩)⟩
structure Pm (α : Type) where
  args : α → List D
  pre : α → Option Addr → Nat → Prop
  T : List (Addr × Str) := []
  post : α → Nat → D → Nat → Prop := fun _ _ _ _ => False
  own : α → Nat → List D → Nat → Prop := fun _ _ _ _ => False
  exc : α → Nat → Addr → List (Str × D) → Nat → Prop := fun _ _ _ _ _ => False
/-- H without its tables, where they may grow -/
def ntb (T : List (Addr × Str)) (H : Hp) : Hp := fun a => if T.isEmpty then H a else match H a with
  | some (.tbl _) => none
  | o => o
theorem ntb_ex {T : List (Addr × Str)} {H : Hp} : Ex (ntb T H) H := fun a o e => by
  unfold ntb at e
  split at e
  · exact e
  · split at e
    · cases e
    · exact e
theorem ntb_no {T : List (Addr × Str)} {H : Hp} (hT : T ≠ []) (a : Addr) (ps : Array Value) : ntb T H a ≠ some (.tbl ps) := fun e => by
  unfold ntb at e
  split at e
  · rename_i h; exact hT (List.isEmpty_iff.mp h)
  · split at e
    · cases e
    · rename_i n; exact n ps e
theorem ntb_of {T : List (Addr × Str)} {H : Hp} {a : Addr} {o : HO} (e : H a = some o) (k : Kp T o) : ntb T H a = some o := by
  unfold ntb
  split
  · exact e
  · rename_i h
    split
    · rename_i ps n
      rw [e] at n
      exact absurd (Option.some_inj.mp n) (k (fun z => h (List.isEmpty_iff.mpr z)) ps)
    · exact e
theorem ntb_none {T : List (Addr × Str)} {H : Hp} {a : Addr} (h : ∀ o, H a = some o → ¬ Kp T o) : ntb T H a = none := by
  cases e : ntb T H a with
  | none => rfl
  | some o => exact absurd (fun hT ps z => ntb_no hT a ps (z ▸ e)) (h o (ntb_ex a o e))
structure Fin (F : Option Addr) (T : List (Addr × Str)) (ca : Addr) (G H : Hp) (n : Nat) (G' H' : Hp) : Prop where
  ex : Ex G G'
  ext : Ex G' H'
  keep : ∀ a o, H a = some o → F ≠ some a → Kp T o → H' a = some o
  new : ∀ a o, H a = some o → Kp T o → G a = none → G' a = none
  tap : ∀ t, F = some t → TapAt t ca n H'
  gt : ∀ a ps, G' a = some (.tbl ps) → G a = some (.tbl ps)
  tb : LamX.Tabs T H'
def spD {α : Type} (K : PySem.W.Frag) (pm : Pm α) : Sp := fun vs H Q EX => ∃ (a : α) (F : Option Addr) (ca : Addr) (cells : List Int) (G : Hp) (n : Nat), Ex G H ∧ Rps K G vs (pm.args a) ∧ pm.pre a F n ∧ (∀ t, F = some t → G t = none ∧ TapAt t ca n H ∧ G ca = some (.lst (cells.map V.int)) ∧ cells.length ≤ 63) ∧ ((pm.T ≠ [] → ∀ a ps, G a ≠ some (.tbl ps)) ∧ LamX.Tabs pm.T H) ∧
  (∀ v d n' G' H', pm.post a n d n' → Fin F pm.T ca G H n' G' H' → Rp K G' v d → Q v H') ∧
  (∀ p vs' ds' n' G' H', pm.own a n ds' n' → Fin F pm.T ca G H n' G' H' → G' p = none → (∀ o, H p = some o → ¬ Kp pm.T o) → H' p = some (.lst vs') → Rps K G' vs' ds' → Q (.ref p) H') ∧
  (∀ C fs fds d n' G' H', pm.exc a n C fds n' → Fin F pm.T ca G H n' G' H' → H' d = some (.xd fs) → Rpf K G' fs fds → (∀ o, H d = some o → ¬ Kp pm.T o) → EX (.ref C) (some d) H')
def env0 (N : List Str) (ds : List D) (n : Nat) : Env := ⟨ds.map Sl.d ++ List.replicate (N.length - ds.length) .no, n⟩
section
variable {α : Type} {K : PySem.W.Frag} {fx : Fx} {E : Env} {te ta tb : TE} {tt : TT} {t u : TS} {c : Cn} {G H : Hp} {σ : St} {P : Po}
theorem as_start {F : Option Addr} {T : List (Addr × Str)} {ca : Addr} {cells : List Int} {N : List Str} {vs : List V} {ds : List D} {n : Nat} (x : Ex G H) (r : Rps K G vs ds) (hT : ∀ t, F = some t → G t = none ∧ TapAt t ca n H ∧ G ca = some (.lst (cells.map V.int)) ∧ cells.length ≤ 63) {B : Hp} (hB : Ex B H) (hBt : ∀ t, F = some t → B t ≠ none) (hst : T ≠ [] → (∀ a ps, G a ≠ some (.tbl ps)) ∧ ∀ a ps, B a ≠ some (.tbl ps)) (htb : LamX.Tabs T H) : As K ⟨F, B, G, ca, cells, T⟩ G (L2.start N vs) (env0 N ds n) H where
  ex := x
  g0 := Ex.refl _
  keep := fun a o e _ _ => hB a o e
  sep := fun _ _ g => g
  tB := fun t f => ⟨hBt t f, (hT t f).1, (hT t f).2.2⟩
  len := by unfold L2.start env0; simp [r.length]
  sl := fun i s e => by
    unfold env0 at e
    unfold L2.start
    simp only at e
    rw [List.getElem?_append] at e
    rw [List.getElem?_append]
    have hl := r.length
    by_cases hi : i < ds.length
    · rw [if_pos (by simpa using hi), List.getElem?_map] at e
      rw [if_pos (by simpa [hl] using hi), List.getElem?_map]
      cases q : ds[i]? with
      | none => rw [q] at e; cases e
      | some d =>
        rw [q] at e
        obtain ⟨v, e1, e2⟩ := r.get q
        rw [e1]
        cases e
        exact ⟨v, rfl, e2⟩
    · rw [if_neg (by simpa using hi)] at e
      have : s = .no := by
        have := List.mem_of_getElem? e
        exact (List.mem_replicate.mp this).2
      subst this
      trivial
  ne := fun i j s u p e1 e2 o1 o2 _ _ => by
    have key : ∀ (i : Nat) (s : Sl), (env0 N ds n).sl[i]? = some s → ¬ isOwn s := by
      intro i s e o
      have h := List.mem_of_getElem? e
      rcases List.mem_append.mp h with h | h
      · obtain ⟨d, _, e⟩ := List.mem_map.mp h; subst e; exact o
      · rw [(List.mem_replicate.mp h).2] at o; exact o
    exact absurd o1 (key i s e1)
  tap := by
    unfold TapOk
    cases F with
    | none => trivial
    | some t => exact (hT t rfl).2.1
  gt := fun _ _ e => e
  st := hst
  tb := htb
/-- a def's body keeps its promise -/
theorem body {N : List Str} {pm : Pm α} {vs : List V} {Q : VK} {EX : XK} (h : spD K pm vs H Q EX)
    (b : ∀ a F n cells, (∀ t, F = some t → cells.length ≤ 63) → pm.pre a F n → Ws K ⟨F, EX, fun C f n' => pm.exc a n C f n', cells, pm.T⟩ t (env0 N (pm.args a) n) { nx := fun E' => pm.post a n .non E'.n, rt := fun d E' => pm.post a n d E'.n, ro := fun ds' E' => pm.own a n ds' E'.n ∨ pm.post a n (.lst ds') E'.n }) :
    t { nx := fun _ H' => Q .non H', rt := Q } (L2.start N vs) H := by
  obtain ⟨a, F, ca, cells, G, n, x, r, hp, hT, ⟨hg0, htb⟩, hQ, hO, hX⟩ := h
  have hBt : ∀ t, F = some t → ntb pm.T H t ≠ none := fun t f => by
    obtain ⟨_, ⟨_, _, h1, _⟩, _⟩ := hT t f
    rw [ntb_of h1 kp_lst]; simp
  have A := as_start (K := K) (N := N) (n := n) (T := pm.T) x r hT ntb_ex hBt (fun h => ⟨hg0 h, ntb_no h⟩) htb
  have fin : ∀ {E' G' σ' H'}, As K ⟨F, ntb pm.T H, G, ca, cells, pm.T⟩ G' σ' E' H' → Fin F pm.T ca G H E'.n G' H' := fun A' => ⟨A'.g0, A'.ex, fun a o e f k => A'.keep a o (ntb_of e k) f k, fun a o e k g => A'.sep a (by show ntb pm.T H a ≠ none; rw [ntb_of e k]; simp) g, fun t f => by
    have := A'.tap
    unfold TapOk at this
    subst f
    exact this, A'.gt, A'.tb⟩
  refine b a F n cells (fun t f => (hT t f).2.2.2) hp ⟨F, ntb pm.T H, G, ca, cells, pm.T⟩ G _ H _ ⟨⟨rfl, rfl⟩, fun C fs fds d G' σ' E' H' hq A' hd rf hb => hX C fs fds d _ G' H' hq (fin A') hd rf (fun o e k => by
    have hb' : ntb pm.T H d = none := hb
    rw [ntb_of e k] at hb'; cases hb'), rfl⟩ A ⟨fun E' G' σ' H' q A' _ => hQ _ _ _ _ _ q (fin A') .non, fun v d E' G' σ' H' q A' r' => hQ _ _ _ _ _ q (fin A') r', fun p vs' ds' E' G' σ' H' q A' g bp hp' r' => ?_, fun _ _ _ _ q => q.elim, fun _ _ _ _ q => q.elim⟩
  have bp' : ∀ o, H p = some o → ¬ Kp pm.T o := fun o e k => by
    have bq : ntb pm.T H p = none := bp
    rw [ntb_of e k] at bq; cases bq
  rcases q with q | q
  · exact hO _ _ _ _ _ _ q (fin A') g bp' hp' r'
  · have f0 := fin A'
    have y : Ex G' (upd G' p (.lst vs')) := Ex.new g
    refine hQ _ _ _ (upd G' p (.lst vs')) H' q ⟨f0.ex.trans y, fun a o e => ?_, f0.keep, fun a o e1 k1 e2 => ?_, f0.tap, fun a ps e => ?_, f0.tb⟩ (.lst upd_same (r'.mono y))
    · by_cases z : a = p
      · subst z; rw [upd_same] at e; cases e; exact hp'
      · rw [upd_ne z] at e; exact f0.ext a o e
    · by_cases z : a = p
      · subst z; exact absurd k1 (bp' o e1)
      · rw [upd_ne z]; exact f0.new a o e1 k1 e2
    · by_cases z : a = p
      · subst z; rw [upd_same] at e; cases e
      · rw [upd_ne z] at e; exact f0.gt a ps e
theorem spD_len {pm : Pm α} {k : Nat} (h : ∀ a, (pm.args a).length = k) : ∀ vs H Q EX, spD K pm vs H Q EX → vs.length = k := fun vs H Q EX ⟨a, F, _, _, G, n, _, r, hp, _⟩ => by rw [r.length]; exact h a

/-! ### calls -/
/-- behind a call -/
theorem Fin.as {G' H' : Hp} {F : Option Addr} {T : List (Addr × Str)} {n' m : Nat} (A : As K c G σ E H) (f : Fin F T c.ca G H n' G' H') (hF : F = none ∨ F = c.F) (hT : T = [] ∨ T = c.T) (hm : m = if F = none then E.n else n') : As K c G' σ (E.at m) H' ∧ Mw c G H G' H' := by
  have kT : ∀ {o}, Kp c.T o → Kp T o := fun {o} k => by
    rcases hT with z | z
    · rw [z]; exact kp0
    · rw [z]; exact k
  have hk : ∀ a o, H a = some o → c.F ≠ some a → Kp c.T o → H' a = some o := fun a o e q k => f.keep a o e (by
    rcases hF with z | z
    · rw [z]; simp
    · rw [z]; exact q) (kT k)
  have mv : Mv c G H G' H' := ⟨f.ex, f.ext, hk, fun a o e k g => f.new a o e (kT k) g, f.gt⟩
  have tp : ∀ t, F = some t → ∃ xs, H t = some (.lst xs) := fun t e => by
    rcases hF with z | z
    · rw [z] at e; cases e
    · rw [e] at z
      have T := A.tap
      unfold TapOk at T
      rw [← z] at T
      obtain ⟨_, _, h1, _⟩ := T
      exact ⟨_, h1⟩
  have tb' : LamX.Tabs c.T H' := by
    rcases hT with z | z
    · refine tabs_keep A.tb fun a o e n => f.keep a o e (fun q => ?_) (by rw [z]; exact kp0)
      obtain ⟨xs, h⟩ := tp a q
      rw [h] at e; exact n xs (Option.some_inj.mp e).symm
    · rw [← z]; exact f.tb
  refine ⟨A.move mv ?_ tb', mv.mw⟩
  unfold TapOk
  cases q : c.F with
  | none => trivial
  | some t =>
    by_cases z : F = none
    · subst z
      rw [if_pos rfl] at hm
      subst hm
      have T := A.tap
      unfold TapOk at T
      rw [q] at T
      obtain ⟨spot, left, h1, h2⟩ := T
      exact ⟨spot, left, f.keep t _ h1 (by simp) kp_lst, h2⟩
    · have e : F = some t := by
        rcases hF with y | y
        · exact absurd y z
        · rw [y, q]
      rw [if_neg z] at hm
      subst hm
      exact f.tap t e
/-- what a caller hands to a promise -/
def Called (pm : Pm α) (fx : Fx) (EX : XK) (ds : List D) (E : Env) (Q : D → Env → Prop) (O : List D → Env → Prop) : Prop :=
  ∃ a F, ds = pm.args a ∧ (F = none ∨ F = fx.F) ∧ (pm.T = [] ∨ pm.T = fx.T) ∧ pm.pre a F E.n ∧ (∀ d n', pm.post a E.n d n' → Q d (E.at (if F = none then E.n else n'))) ∧ (∀ ds' n', pm.own a E.n ds' n' → O ds' (E.at (if F = none then E.n else n'))) ∧
    (∀ C f n', pm.exc a E.n C f n' → EX = fx.EX ∧ fx.xp C f (if F = none then E.n else n'))
theorem B_freeN {T : List (Addr × Str)} (A : As K c G σ E H) (hT : T = [] ∨ T = c.T) {p : Addr} (hp : ∀ o, H p = some o → ¬ Kp T o) : c.B p = none := by
  cases e : c.B p with
  | none => rfl
  | some o =>
    have kT : ∀ {o}, Kp c.T o → Kp T o := fun {o} k => by
      rcases hT with z | z
      · rw [z]; exact kp0
      · rw [z]; exact k
    by_cases f : c.F = some p
    · have := A.tap
      unfold TapOk at this
      rw [f] at this
      obtain ⟨_, _, h1, _⟩ := this
      exact absurd kp_lst (hp _ h1)
    · exact absurd (kT (A.kB e)) (hp _ (A.keep p o e f (A.kB e)))
theorem own_freeN {T : List (Addr × Str)} (A : As K c G σ E H) (hT : T = [] ∨ T = c.T) {p : Addr} (hp : ∀ o, H p = some o → ¬ Kp T o) : ∀ (i : Nat), σ[i]? = some (some (V.ref p)) → ∀ s, E.sl[i]? = some s → ¬ isOwn s := fun i e s h o => by
  cases s with
  | no => exact o
  | d x => exact o
  | own ds =>
    obtain ⟨q, vs, e1, _, _, h1, _⟩ := A.own h
    rw [e] at e1; cases e1
    exact hp _ h1 kp_lst
  | slf q C fs =>
    obtain ⟨dx, vs, e1, _, _, h1, _⟩ := A.slf h
    rw [e] at e1; cases e1
    exact hp _ h1 kp_ins
theorem called {pm : Pm α} {EX : XK} {ds : List D} {vs : List V} {Q : D → Env → Prop} {O : List D → Env → Prop} (X : XOk K c fx) (A : As K c G σ E H) (r : Rps K G vs ds) (h : Called pm fx EX ds E Q O) {P : VK}
    (k : ∀ v d E' G' H', Q d E' → As K c G' σ E' H' → Mw c G H G' H' → Rp K G' v d → P v H')
    (ko : ∀ p vs ds E' G' H', O ds E' → As K c G' σ E' H' → Mw c G H G' H' → Frs c G' σ E' p → H' p = some (.lst vs) → Rps K G' vs ds → P (.ref p) H') : spD K pm vs H P EX := by
  obtain ⟨a, F, ea, hF, hTT, hp, hq, ho, hx⟩ := h
  have hTT' : pm.T = [] ∨ pm.T = c.T := by rw [X.2.2]; exact hTT
  rw [ea] at r
  have hF' : F = none ∨ F = c.F := by rw [X.1.1]; exact hF
  have hT : ∀ t, F = some t → G t = none ∧ TapAt t c.ca E.n H ∧ G c.ca = some (.lst (c.cells.map V.int)) ∧ c.cells.length ≤ 63 := fun t f => by
    have e : c.F = some t := by
      rcases hF' with z | z
      · rw [z] at f; cases f
      · rw [← z]; exact f
    obtain ⟨b1, b2, b3, b4⟩ := A.tB t e
    have T := A.tap
    unfold TapOk at T
    rw [e] at T
    exact ⟨A.sep t b1 b2, T, A.g0 _ _ b3, b4⟩
  refine ⟨a, F, c.ca, c.cells, G, E.n, A.ex, r, hp, hT, ⟨fun hn a ps e => ?_, ?_⟩, fun v d n' G' H' q f rv => ?_, fun p vs' ds' n' G' H' q f g hpn hp' r' => ?_, fun C fs fds d n' G' H' q f hd rf hnd => ?_⟩
  · rcases hTT' with z | z
    · exact hn z
    · exact (A.st (z ▸ hn)).1 a ps (A.gt a ps e)
  · rcases hTT' with z | z
    · rw [z]; exact fun _ h => nomatch h
    · rw [z]; exact A.tb
  · obtain ⟨A', m⟩ := f.as A hF' hTT' rfl
    exact k _ _ _ _ _ (hq d n' q) A' m rv
  · obtain ⟨A', m⟩ := f.as A hF' hTT' rfl
    exact ko _ _ _ _ _ _ (ho ds' n' q) A' m ⟨g, B_freeN A hTT' hpn, own_freeN A hTT' hpn⟩ hp' r'
  · obtain ⟨A', m⟩ := f.as A hF' hTT' rfl
    obtain ⟨e, z⟩ := hx C fds n' q
    rw [e]
    exact X.2.1 C fs fds d G' σ _ H' z A' hd rf (B_freeN A hTT' hnd)
theorem we_call {pm : Pm α} {EX : XK} {dvs : List V} {dds : List D} {ta : TA} {Q : D → Env → Prop} (hd : ∀ G, Rps K G dvs dds) (h : Wa K fx ta E fun ds E1 => Called pm fx EX (ds ++ dds) E1 Q fun _ _ => False) : We K fx (tCall (spD K pm) dvs EX ta) E Q := fun c G σ H X A P k =>
  h c G σ H X A _ fun vs ds E1 G1 H1 q A1 m1 r1 => called X A1 (r1.append (hd G1)) q (fun v d E' G' H' q A' m r => k _ _ _ _ _ q A' (m1.trans m) r) fun _ _ _ _ _ _ q => q.elim
theorem wo_call {pm : Pm α} {EX : XK} {dvs : List V} {dds : List D} {ta : TA} {Q : List D → Env → Prop} (hd : ∀ G, Rps K G dvs dds) (h : Wa K fx ta E fun ds E1 => Called pm fx EX (ds ++ dds) E1 (fun _ _ => False) Q) : Wo K fx (tCall (spD K pm) dvs EX ta) E Q := fun c G σ H X A P k =>
  h c G σ H X A _ fun vs ds E1 G1 H1 q A1 m1 r1 => called X A1 (r1.append (hd G1)) q (fun _ _ _ _ _ q => q.elim) fun p vs' ds' E' G' H' q A' m => k _ _ _ _ _ _ q A' (m1.trans m)
theorem we_callK {pm : Pm α} {EX : XK} {gV : List V → List V → List V} {gD : List D → List D → List D} {ta tk : TA} {Q : D → Env → Prop} (hd : ∀ G vs zs ds es, Rps K G vs ds → Rps K G zs es → Rps K G (gV vs zs) (gD ds es))
    (h : Wa K fx ta E fun ds E1 => Wa K fx tk E1 fun es E2 => Called pm fx EX (gD ds es) E2 Q fun _ _ => False) : We K fx (tCallK (spD K pm) gV EX ta tk) E Q := fun c G σ H X A P k =>
  h c G σ H X A _ fun vs ds E1 G1 H1 q A1 m1 r1 => q c G1 σ H1 X A1 _ fun zs es E2 G2 H2 q2 A2 m2 r2 => called X A2 (hd G2 _ _ _ _ (r1.mono m2.ex) r2) q2 (fun v d E' G' H' q A' m r => k _ _ _ _ _ q A' ((m1.trans m2).trans m) r) fun _ _ _ _ _ _ q => q.elim
/-- o.m(..) -/
theorem we_meth {pm : Pm α} {EX : XK} {dvs : List V} {dds : List D} {C : Addr} {m : Str} {ta : TA} {Q : D → Env → Prop} (hd : ∀ G, Rps K G dvs dds)
    (h : We K fx te E fun o E0 => ∃ fs, o = .ob C fs ∧ fs.lookup m = none ∧ Wa K fx ta E0 fun ds E1 => Called pm fx EX (o :: (ds ++ dds)) E1 Q fun _ _ => False) : We K fx (tMeth C m (spD K pm) dvs EX te ta) E Q := fun c G σ H X A P k =>
  h c G σ H X A _ fun v o E0 G0 H0 q A0 m0 r0 => by
    obtain ⟨fs, e, hl, q⟩ := q
    subst e
    cases r0 with
    | ob ha rf =>
      refine ⟨_, _, _, rfl, A0.ex _ _ ha, rf.nolook hl, q c G0 σ H0 X A0 _ fun vs ds E1 G1 H1 q A1 m1 r1 => ?_⟩
      exact called X A1 (.cons ((Rp.ob ha rf).mono m1.ex) (r1.append (hd G1))) q (fun v d E' G' H' q A' m r => k _ _ _ _ _ q A' ((m0.trans m1).trans m) r) fun _ _ _ _ _ _ q => q.elim
theorem wo_meth {pm : Pm α} {EX : XK} {dvs : List V} {dds : List D} {C : Addr} {m : Str} {ta : TA} {Q : List D → Env → Prop} (hd : ∀ G, Rps K G dvs dds)
    (h : We K fx te E fun o E0 => ∃ fs, o = .ob C fs ∧ fs.lookup m = none ∧ Wa K fx ta E0 fun ds E1 => Called pm fx EX (o :: (ds ++ dds)) E1 (fun _ _ => False) Q) : Wo K fx (tMeth C m (spD K pm) dvs EX te ta) E Q := fun c G σ H X A P k =>
  h c G σ H X A _ fun v o E0 G0 H0 q A0 m0 r0 => by
    obtain ⟨fs, e, hl, q⟩ := q
    subst e
    cases r0 with
    | ob ha rf =>
      refine ⟨_, _, _, rfl, A0.ex _ _ ha, rf.nolook hl, q c G0 σ H0 X A0 _ fun vs ds E1 G1 H1 q A1 m1 r1 => ?_⟩
      exact called X A1 (.cons ((Rp.ob ha rf).mono m1.ex) (r1.append (hd G1))) q (fun _ _ _ _ _ q => q.elim) fun p vs' ds' E' G' H' q A' m => k _ _ _ _ _ _ q A' ((m0.trans m1).trans m)
/-- o.f -/
theorem we_fld {f : Str} {Q : D → Env → Prop} (h : We K fx te E fun o E' => ∃ C fs d, o = .ob C fs ∧ Cls K C ∧ NoAttr K C f ∧ fs.lookup f = some d ∧ Q d E') : We K fx (tFldU K te f) E Q := fun c G σ H X A P k =>
  h c G σ H X A _ fun v o E0 G0 H0 q A0 m0 r0 => by
    obtain ⟨C, fs, d, e, hc, hn, hl, q⟩ := q
    subst e
    cases r0 with
    | ob ha rf =>
      obtain ⟨u, h1, h2⟩ := rf.look hl
      exact .inl ⟨_, C, _, _, u, rfl, A0.ex _ _ ha, hc, hn, h1, k _ _ _ _ _ q A0 m0 h2⟩
/-- the field of a kept error -/
theorem we_fldE {f : Str} {Q : D → Env → Prop} (h : We K fx te E fun o E' => ∃ C fs d, o = .ex C fs ∧ XfC K C ∧ PySem.W.findIn K (.ref C) f = some none ∧ fs.lookup f = some d ∧ Q d E') : We K fx (tFldU K te f) E Q := fun c G σ H X A P k =>
  h c G σ H X A _ fun v o E0 G0 H0 q A0 m0 r0 => by
    obtain ⟨C, fs, d, e, hc, hn, hl, q⟩ := q
    subst e
    cases r0 with
    | ex ha hz hu hd rf =>
      obtain ⟨u, h1, h2⟩ := rf.look hl
      exact .inr ⟨_, _, C, _, _, u, rfl, A0.ex _ _ ha, hz, hu, hc, hn, A0.ex _ _ hd, h1, k _ _ _ _ _ q A0 m0 h2⟩
/-- self.f within __init__ -/
theorem we_fldS {f : Str} {i : Nat} {x C : Addr} {fs : List (Str × D)} {d : D} {Q : D → Env → Prop} (e : E.sl[i]? = some (.slf x C fs)) (hc : Cls K C) (hn : NoAttr K C f) (hl : fs.lookup f = some d) (h : Q d E) : We K fx (tFldU K (tVar i) f) E Q := fun c G σ H X A P k => by
  obtain ⟨dx, vs, e1, g, b, hp, r⟩ := A.slf e
  obtain ⟨u, h1, h2⟩ := r.look hl
  exact ⟨.ref x, e1, .inl ⟨x, C, dx, vs, u, rfl, hp, hc, hn, h1, k _ _ _ _ _ h A Mw.refl h2⟩⟩
theorem As.grow (A : As K c G σ E H) {i : Nat} {p C dx : Addr} {fs gs : List (Str × D)} (h : E.sl[i]? = some (.slf p C fs)) {vs : List (Str × V)} (r : Rpf K G vs gs) : As K c G σ (E.set i (.slf p C gs)) (upd H p (.ins C dx vs)) := by
  obtain ⟨dy, ws, e, g, b, hq, _⟩ := A.slf h
  have hw : ∀ a o, H a = some o → a ≠ p → upd H p (.ins C dx vs) a = some o := fun a o z y => by rw [upd_ne y]; exact z
  refine ⟨fun a o z => ?_, A.g0, fun a o z f kk => ?_, A.sep, A.tB, by simp [Env.set, A.len], fun j s z => ?_, fun j k s1 s2 y e1 e2 o1 o2 g1 g2 => ?_, ?_, A.gt, A.st, tabs_ins A.tb hq⟩
  · exact hw a o (A.ex a o z) fun y => by subst y; rw [g] at z; cases z
  · exact hw a o (A.keep a o z f kk) fun y => by subst y; rw [b] at z; cases z
  · rcases setS_get z with ⟨z1, l, z2⟩ | ⟨z1, z2⟩
    · subst z1 z2
      exact ⟨dx, vs, get_join.mpr e, g, b, upd_same, r⟩
    · have w := A.sl j s z2
      cases s with
      | no => trivial
      | d y => exact w
      | own fs =>
        obtain ⟨p', vs', a1, a2, a3, a4, a5⟩ := w
        have : p' ≠ p := fun y => by subst y; rw [hq] at a4; cases a4
        exact ⟨p', vs', a1, a2, a3, hw _ _ a4 this, a5⟩
      | slf p' C' fs =>
        obtain ⟨dx', vs', a1, a2, a3, a4, a5⟩ := w
        have : p' ≠ p := fun y => by
          subst y
          exact z1 ⟨A.ne i j _ _ p' h z2 trivial trivial e (get_join.mp a1), (List.getElem?_eq_some_iff.mp h).1⟩
        exact ⟨dx', vs', a1, a2, a3, hw _ _ a4 this, a5⟩
  · rcases setS_get e1 with ⟨q1, l1, z1⟩ | ⟨q1, z1⟩
    · subst q1
      rcases setS_get e2 with ⟨q2, l2, z2⟩ | ⟨q2, z2⟩
      · exact q2
      · exact A.ne _ _ _ _ _ h z2 trivial o2 g1 g2
    · rcases setS_get e2 with ⟨q2, l2, z2⟩ | ⟨q2, z2⟩
      · subst q2
        exact A.ne _ _ _ _ _ z1 h o1 trivial g1 g2
      · exact A.ne _ _ _ _ _ z1 z2 o1 o2 g1 g2
  · have T := A.tap
    unfold TapOk at T ⊢
    cases f : c.F with
    | none => trivial
    | some t =>
      rw [f] at T
      obtain ⟨spot, left, h1, h2⟩ := T
      exact ⟨spot, left, hw _ _ h1 (fun y => by subst y; exact (A.tB t f).1 b), h2⟩
/-- self.f = e within __init__ -/
theorem ws_fld {f : Str} {i : Nat} {x C : Addr} {fs : List (Str × D)} (e0 : E.sl[i]? = some (.slf x C fs)) (hc : Cls K C) (hn : NoAttr K C f) (hlen : fs.length < 1000) (h : We K fx te E fun d E' => E'.sl[i]? = some (.slf x C fs) ∧ P.nx (E'.set i (.slf x C (putD f d fs)))) : Ws K fx (sFld K (tVar i) te f) E P := fun c G σ H Z X A k =>
  h c G σ H X A _ fun v d E' G' H' q A' m r => by
    obtain ⟨q1, q2⟩ := q
    obtain ⟨dx, vs, e1, g, b, hp, rf⟩ := A'.slf q1
    refine ⟨.ref x, e1, x, C, dx, vs, rfl, hp, hc, hn, by rw [rf.length]; exact hlen, ?_⟩
    exact k.nx _ _ _ _ q2 (A'.grow q1 (rf.put r)) m.ex

/-! ### making an instance -/
structure Pi (α : Type) where
  args : α → List D
  pre : α → Addr → Prop
  post : α → Addr → List (Str × D) → Prop
  exc : α → Addr → Addr → List (Str × D) → Prop := fun _ _ _ _ => False
def spI {α : Type} (K : PySem.W.Frag) (pm : Pi α) : Sp := fun vs H Q EX => ∃ (a : α) (x C dx : Addr) (us : List V) (G : Hp), vs = .ref x :: us ∧ H x = some (.ins C dx []) ∧ G x = none ∧ Ex G H ∧ Rps K G us (pm.args a) ∧ pm.pre a C ∧
  (∀ dy fs fds G' H', pm.post a C fds → Ex G G' → Ex G' H' → (∀ a o, H a = some o → a ≠ x → H' a = some o) → (∀ a, H a ≠ none → G a = none → G' a = none) → (∀ a ps, G' a = some (.tbl ps) → G a = some (.tbl ps)) → H' x = some (.ins C dy fs) → Rpf K G' fs fds → Q .non H') ∧
  (∀ C' fs fds d G' H', pm.exc a C C' fds → Ex G G' → Ex G' H' → (∀ a o, H a = some o → a ≠ x → H' a = some o) → (∀ a, H a ≠ none → a ≠ x → G a = none → G' a = none) → (∀ a ps, G' a = some (.tbl ps) → G a = some (.tbl ps)) → H' d = some (.xd fs) → Rpf K G' fs fds → (d ≠ x → H d = none) → EX (.ref C') (some d) H')
theorem spI_len {pm : Pi α} {k : Nat} (h : ∀ a, (pm.args a).length + 1 = k) : ∀ vs H Q EX, spI K pm vs H Q EX → vs.length = k := fun vs H Q EX ⟨a, x, C, dx, us, G, e, _, _, _, r, _⟩ => by rw [e, List.length_cons, r.length]; exact h a
def envI (N : List Str) (x C : Addr) (ds : List D) : Env := ⟨.slf x C [] :: (ds.map Sl.d ++ List.replicate (N.length - (ds.length + 1)) .no), 0⟩
theorem bodyI {N : List Str} {pm : Pi α} {vs : List V} {Q : VK} {EX : XK} (h : spI K pm vs H Q EX)
    (b : ∀ a x C, pm.pre a C → Ws K ⟨none, EX, fun C' f _ => pm.exc a C C' f, [], []⟩ t (envI N x C (pm.args a)) { nx := fun E' => ∃ fs, E'.sl[0]? = some (.slf x C fs) ∧ pm.post a C fs }) :
    t { nx := fun _ H' => Q .non H', rt := Q } (L2.start N vs) H := by
  obtain ⟨a0, x, C, dx, us, G, e, hx, gx, ex, r, hp, hQ, hX⟩ := h
  subst e
  generalize eds : pm.args a0 = ds at r
  let B : Hp := fun a => if a = x then none else H a
  have hBx : B x = none := by show (if x = x then none else H x) = none; rw [if_pos rfl]
  have hB : ∀ a, a ≠ x → B a = H a := fun a q => by show (if a = x then none else H a) = _; rw [if_neg q]
  have hBe : Ex B H := fun a o q => by
    by_cases z : a = x
    · subst z; rw [hBx] at q; cases q
    · rw [← hB a z]; exact q
  have A : As K ⟨none, B, G, 0, [], []⟩ G (L2.start N (.ref x :: us)) (envI N x C ds) H := by
    refine ⟨ex, Ex.refl _, fun a o q _ _ => hBe a o q, fun _ _ g => g, fun t f => (by cases f), ?_, fun i s e => ?_, fun i j s u p e1 e2 o1 o2 _ _ => ?_, trivial, fun _ _ e => e, fun h => absurd rfl h, fun _ h => nomatch h⟩
    · unfold L2.start envI; simp [r.length]
    · cases i with
      | zero =>
        have : s = .slf x C [] := by
          unfold envI at e; simp at e; exact e.symm
        subst this
        exact ⟨dx, [], rfl, gx, hBx, hx, .nil⟩
      | succ i =>
        have hh := as_start (K := K) (F := none) (ca := 0) (cells := []) (N := N.drop 1) (n := 0) (T := []) ex r (fun t f => by cases f) (Ex.refl H) (fun t f => by cases f) (fun h => absurd rfl h) (fun _ h => nomatch h)
        have e' : (env0 (N.drop 1) ds 0).sl[i]? = some s := by
          unfold envI at e; unfold env0
          rw [List.getElem?_cons_succ] at e
          rw [List.length_drop, show N.length - 1 - ds.length = N.length - (ds.length + 1) by omega]; exact e
        have w := hh.sl i s e'
        have : ((L2.start (N.drop 1) us)[i]?).join = ((L2.start N (.ref x :: us))[i + 1]?).join := by
          unfold L2.start
          rw [List.map_cons, List.cons_append, List.getElem?_cons_succ, List.length_drop, List.length_cons, show N.length - 1 - us.length = N.length - (us.length + 1) by omega]
        rw [this] at w
        have no : ¬ isOwn s := fun o => by
          have hm := List.mem_of_getElem? e'
          rcases List.mem_append.mp hm with hm | hm
          · obtain ⟨d, _, z⟩ := List.mem_map.mp hm; subst z; exact o
          · rw [(List.mem_replicate.mp hm).2] at o; exact o
        cases s with
        | no => trivial
        | d y => exact w
        | own _ => exact absurd trivial no
        | slf _ _ _ => exact absurd trivial no
    · have key : ∀ (i : Nat) (s : Sl), (envI N x C ds).sl[i]? = some s → isOwn s → i = 0 := by
        intro i s e o
        cases i with
        | zero => rfl
        | succ i =>
          unfold envI at e
          rw [List.getElem?_cons_succ] at e
          have hm := List.mem_of_getElem? e
          rcases List.mem_append.mp hm with hm | hm
          · obtain ⟨d, _, z⟩ := List.mem_map.mp hm; subst z; exact o.elim
          · rw [(List.mem_replicate.mp hm).2] at o; exact o.elim
      rw [key i s e1 o1, key j u e2 o2]
  have keep : ∀ {E' G' σ' H'}, As K ⟨none, B, G, 0, [], []⟩ G' σ' E' H' → ∀ a o, H a = some o → a ≠ x → H' a = some o := fun A' a o e q => A'.keep a o (show B a = some o by rw [hB a q]; exact e) (by simp) kp0
  have b0 := b a0 x C hp
  rw [eds] at b0
  refine b0 ⟨none, B, G, 0, [], []⟩ G _ H _ ⟨⟨rfl, rfl⟩, fun C' fs fds d G' σ' E' H' hq A' hd rf hb => ?_, rfl⟩ A ⟨fun E' G' σ' H' q A' _ => ?_, fun _ _ _ _ _ _ q => q.elim, fun _ _ _ _ _ _ _ q => q.elim, fun _ _ _ _ q => q.elim, fun _ _ _ _ q => q.elim⟩
  · refine hX C' fs fds d G' H' hq A'.g0 A'.ex (keep A') (fun a e1 z e2 => ?_) A'.gt hd rf (fun z => by rw [← hB d z]; exact hb)
    exact A'.sep a (by show B a ≠ none; rw [hB a z]; exact e1) e2
  · obtain ⟨fs, q1, q2⟩ := q
    obtain ⟨dy, vs', e1, g, _, hp', rf⟩ := A'.slf q1
    refine hQ dy vs' fs G' H' q2 A'.g0 A'.ex (keep A') (fun a e1 e2 => ?_) A'.gt hp' rf
    by_cases z : a = x
    · subst z; exact g
    · exact A'.sep a (by show B a ≠ none; rw [hB a z]; exact e1) e2
/-- a new instance: __init__ on it -/
theorem make_core {pm : Pi α} {EX : XK} {C : Addr} {Q : D → Env → Prop} {G1 H1 : Hp} {E1 : Env} {us : List V} {P : VK} {a0 : α} (X : XOk K c fx) (A1 : As K c G1 σ E1 H1) (r1' : Rps K G1 us (pm.args a0)) (q1 : pm.pre a0 C) (q2 : ∀ fs, pm.post a0 C fs → Q (.ob C fs) E1) (q3 : ∀ C' f, pm.exc a0 C C' f → EX = fx.EX ∧ fx.xp C' f E1.n)
    (k : ∀ v d E' G' H', Q d E' → As K c G' σ E' H' → Mw c G1 H1 G' H' → Rp K G' v d → P v H') : ∀ x dx, H1 x = none → H1 dx = none → dx ≠ x → spI K pm (.ref x :: us) (upd (upd H1 dx (.own x)) x (.ins C dx [])) (fun v H2 => v = .non ∧ P (.ref x) H2) EX := by
    intro x dx hx hdx hne
    let H2 : Hp := upd (upd H1 dx (.own x)) x (.ins C dx [])
    have h2 : ∀ a o, H1 a = some o → H2 a = some o := fun a o e => by
      show upd (upd H1 dx (.own x)) x (.ins C dx []) a = some o
      rw [upd_ne (ne_of_none e hx), upd_ne (ne_of_none e hdx)]
      exact e
    have nx : ∀ a, H1 a ≠ none → a ≠ x := fun a e z => by subst z; exact e hx
    have hF : ∀ {G' H' : Hp}, Ex G1 G' → Ex G' H' → (∀ a o, H2 a = some o → a ≠ x → H' a = some o) → (∀ a, H2 a ≠ none → a ≠ x → G1 a = none → G' a = none) → (∀ a ps, G' a = some (.tbl ps) → G1 a = some (.tbl ps)) → Mv c G1 H1 G' H' := fun e1 e2 e3 e4 e6 =>
      ⟨e1, e2, fun a o z _ _ => e3 a o (h2 a o z) (nx a (by rw [z]; simp)), fun a o w _ g => e4 a (by
        rw [h2 a o w]; simp) (nx a (by rw [w]; simp)) g, e6⟩
    refine ⟨a0, x, C, dx, us, G1, rfl, upd_same, A1.ex.free hx, fun a o e => h2 a o (A1.ex a o e), r1', q1, fun dy fs fds G' H' p e1 e2 e3 e4 e6 e5 rf => ⟨rfl, ?_⟩, fun C' fs fds d G' H' p e1 e2 e3 e4 e6 hd' rf hnd => ?_⟩
    · have gx : G' x = none := e4 x (by show H2 x ≠ none; rw [show H2 x = _ from upd_same]; simp) (A1.ex.free hx)
      have y : Ex G' (upd G' x (.ins C dy fs)) := Ex.new gx
      have mv : Mv c G1 H1 (upd G' x (.ins C dy fs)) H' := by
        have z := hF e1 e2 e3 (fun a a1 _ a2 => e4 a a1 a2) e6
        refine ⟨z.ex.trans y, fun a o w => ?_, z.keep, fun a o a1 k1 a2 => ?_, fun a ps w => ?_⟩
        · by_cases t : a = x
          · subst t; rw [upd_same] at w; cases w; exact e5
          · rw [upd_ne t] at w; exact e2 a o w
        · rw [upd_ne (nx a (by rw [a1]; simp))]; exact z.new a o a1 k1 a2
        · by_cases t : a = x
          · subst t; rw [upd_same] at w; cases w
          · rw [upd_ne t] at w; exact e6 a ps w
      exact k _ _ _ _ _ (q2 fds p) (A1.move0 mv fun a o w => e3 a o (h2 a o w) (nx a (by rw [w]; simp))) mv.mw (.ob upd_same (rf.mono y))
    · obtain ⟨z1, z2⟩ := q3 C' fds p
      have mv := hF e1 e2 e3 e4 e6
      rw [z1]
      exact X.2.1 C' fs fds d G' σ E1 H' z2 (A1.move0 mv fun a o w => e3 a o (h2 a o w) (nx a (by rw [w]; simp))) hd' rf (by
        by_cases t : d = x
        · rw [t]; exact B_free A1 hx
        · refine B_free A1 ?_
          cases w : H1 d with
          | none => rfl
          | some o => have := hnd t; rw [show (upd (upd H1 dx (.own x)) x (.ins C dx [])) d = H2 d from rfl, h2 d o w] at this; cases this)
/-- C(..): a new instance -/
theorem we_make {pm : Pi α} {EX : XK} {dvs : List V} {dds : List D} {C : Addr} {ta : TA} {Q : D → Env → Prop} (hd : ∀ G, Rps K G dvs dds)
    (h : Wa K fx ta E fun ds E1 => ∃ a, ds ++ dds = pm.args a ∧ pm.pre a C ∧ (∀ fs, pm.post a C fs → Q (.ob C fs) E1) ∧ ∀ C' f, pm.exc a C C' f → EX = fx.EX ∧ fx.xp C' f E1.n) : We K fx (tMake C (spI K pm) dvs EX ta) E Q := fun c G σ H X A P k =>
  h c G σ H X A _ fun vs ds E1 G1 H1 q A1 m1 r1 => by
    obtain ⟨a0, ea, q1, q2, q3⟩ := q
    have r1' := r1.append (hd G1)
    rw [ea] at r1'
    exact make_core X A1 r1' q1 q2 q3 fun v d E' G' H' q A' m r => k v d E' G' H' q A' (m1.trans m) r
end
end Z
end
section
/-! a tuple times 1 is itself -/
namespace L2
open PySem PySem.Spec PyProof.Rows
theorem tuple_mul1 (l : Addr) (items : Array Value) (n : Nat) (dd : Option Addr) (sl : Array (Option Value)) (u : Tok) :
    Meets (Builtin.«tuple.__mul__» ⟨[.ref l, .int 1 u], []⟩) (fun _ R s => s.heap.get? l = some { cls := .type "tuple", dict := dd, data := .seq items n, slots := sl } ∧ R (.ok (.ret (Value.ref l))) s) :=
  .of_wp fun prog w A R s h => by
    obtain ⟨hp, g, d, tk, os⟩ := s
    obtain ⟨hl, h⟩ := h
    have f1 := AutoSeq1.idx_int
    wp_walk using wpAny_loadPart' hl
    repeat (first
      | (refine wpAny_ite_false (by decide) ?_; wp_walk using wpAny_loadPart' hl)
      | (refine wpAny_ite_true (by simp) ?_; wp_walk using wpAny_loadPart' hl))
    exact ⟨_, rfl, h⟩
def rRepT1 (K : PySem.W.Frag) : R2 := fun x y H Q => ∃ l xs, x = .ref l ∧ y = .int 1 ∧ SqT K H l xs ∧ Q (.ref l) H
section
variable {X : Cx}
theorem op_repT1 : OpR X (binaryOp .Mult) (rRepT1 X.K) := by
  intro pins s σ H x y v u Q I rx ry h
  obtain ⟨l, xs, rfl, rfl, hT, q⟩ := h
  cases rx
  obtain ⟨t, rfl⟩ := ry
  obtain ⟨its, r, ⟨⟨cls, dd, data, sl⟩, ho, hc, n, hd⟩, hs⟩ := I.tuple hT
  simp only at hc hd
  subst hc hd
  refine wpAny_binaryOp_repeat_ref (T := "tuple") (U := "int") (by decide) ⟨_, ho, rfl⟩ (fun s' => typeIs_int s' 1 t) noFill_tuple_mul F.fills_int_mul F.slot_int_rmul repeat_tuple F.slot_int_index.lookup
    (call_meets F.slot_int_rmul (typeIs_int s 1 t) F.entry_int_rmul (F.args_int_rmul_2 _ _) (int_rmul_tuple 1 t l its.toArray n dd sl)
      ⟨ho, rfl, ⟨_, ho, rfl⟩, call_meets F.slot_tuple_mul ⟨_, ho, rfl⟩ F.entry_tuple_mul (F.args_tuple_mul_2 _ _) (tuple_mul1 l its.toArray n dd sl t) ⟨ho, ?_⟩⟩)
  exact ⟨.ref l, H, I, rfl, q⟩
end
end L2
end
section
namespace Z
open PySem L2

/-! ### data as the library's -/
mutual
def py : D → PyData
  | .non => .none
  | .bl b => .bool b
  | .int i => .int i
  | .str x => .str x
  | .lst ds => .list (pys ds)
  | .tup ds => .tuple (pys ds)
  | .ob _ _ => .none
  | .ad _ => .none
  | .ty _ => .none
  | .scr _ => .none
  | .ex _ _ => .none
  | .dk _ => .none
  | .st _ _ => .none
  | .px _ => .none
def pys : List D → List PyData
  | [] => []
  | d :: ds => py d :: pys ds
end
/-! data through and through, with n levels of lists and tuples at most, its texts not too long -/
mutual
def dat : Nat → D → Bool
  | _, .non => true
  | _, .bl _ => true
  | _, .int _ => true
  | _, .str x => SeqAt.shaped (.str x)
  | n + 1, .lst ds => dats n ds
  | n + 1, .tup ds => dats n ds
  | _, _ => false
def dats : Nat → List D → Bool
  | _, [] => true
  | n, d :: ds => dat n d && dats n ds
end
section
variable {K : PySem.W.Frag} {G H : Hp}
theorem rps_dp_of {n : Nat} (ih : ∀ {v : V} {d : D}, Rp K G v d → dat n d = true → Dp K H v (py d)) : ∀ (ds : List D) {vs : List V}, Rps K G vs ds → dats n ds = true → DpAll K H vs (pys ds)
  | [], _, r, _ => by cases r; rw [pys]; exact .nil
  | d :: ds, _, r, q => by
    cases r with
    | cons h r =>
      rw [pys]
      have q' : dat n d = true ∧ dats n ds = true := by simpa [dats] using q
      exact .cons (ih h q'.1) (rps_dp_of ih ds r q'.2)
theorem Rp.dp (x : Ex G H) {v : V} {d : D} {n : Nat} (h : Rp K G v d) (q : dat n d = true) : Dp K H v (py d) := by
  induction n generalizing v d with
  | zero =>
    cases h with
    | non => rw [py]; exact .non
    | bl b => rw [py]; exact .bl b
    | int i => rw [py]; exact .int i
    | str s => rw [py]; exact .str s
    | _ => simp [dat] at q
  | succ n ih =>
    cases h with
    | non => rw [py]; exact .non
    | bl b => rw [py]; exact .bl b
    | int i => rw [py]; exact .int i
    | str s => rw [py]; exact .str s
    | lst h r => rw [py]; exact .lst (.inl (.inl (x _ _ h))) (rps_dp_of ih _ r (by simpa [dat] using q))
    | tup h r => rw [py]; exact .tup (x.t h) (rps_dp_of ih _ r (by simpa [dat] using q))
    | _ => simp [dat] at q
theorem Rps.dp (x : Ex G H) {vs : List V} {ds : List D} {n : Nat} (r : Rps K G vs ds) (q : dats n ds = true) : DpAll K H vs (pys ds) := rps_dp_of (fun h => Rp.dp x h) ds r q
mutual
theorem dat_ok : ∀ (d : D) (n : Nat), dat n d = true → (py d).canLay0 = true ∧ (py d).depth ≤ n
  | .non, n, _ => by rw [py]; exact ⟨rfl, Nat.zero_le _⟩
  | .bl _, n, _ => by rw [py]; exact ⟨rfl, Nat.zero_le _⟩
  | .int _, n, _ => by rw [py]; exact ⟨rfl, Nat.zero_le _⟩
  | .str x, n, q => by
    rw [py]
    have q' : SeqAt.shaped (.str x) = true := by simpa [dat] using q
    exact ⟨SeqAt.canLay_of_shaped q', Nat.zero_le _⟩
  | .lst ds, 0, q => by simp [dat] at q
  | .lst ds, n + 1, q => by
    rw [py]
    obtain ⟨a, b⟩ := dats_ok ds n (by simpa [dat] using q)
    exact ⟨a, Nat.succ_le_succ b⟩
  | .tup ds, 0, q => by simp [dat] at q
  | .tup ds, n + 1, q => by
    rw [py]
    obtain ⟨a, b⟩ := dats_ok ds n (by simpa [dat] using q)
    exact ⟨a, Nat.succ_le_succ b⟩
  | .ob _ _, n, q => by simp [dat] at q
  | .ad _, n, q => by simp [dat] at q
  | .ty _, n, q => by simp [dat] at q
  | .scr _, n, q => by simp [dat] at q
  | .ex _ _, n, q => by simp [dat] at q
  | .dk _, n, q => by simp [dat] at q
  | .st _ _, n, q => by simp [dat] at q
theorem dats_ok : ∀ (ds : List D) (n : Nat), dats n ds = true → PyData.canLayAll0 (pys ds) = true ∧ PyData.depthAll (pys ds) ≤ n
  | [], n, _ => by rw [pys]; exact ⟨rfl, Nat.zero_le _⟩
  | d :: ds, n, q => by
    have q' : dat n d = true ∧ dats n ds = true := by simpa [dats] using q
    obtain ⟨a, b⟩ := dat_ok d n q'.1
    obtain ⟨a', b'⟩ := dats_ok ds n q'.2
    rw [pys]
    refine ⟨by simp [PyData.canLayAll0, a, a'], ?_⟩
    show max _ _ ≤ n
    omega
end
theorem dat_shaped {d : D} (h : dat 60 d = true) : SeqAt.shaped (py d) = true := by
  obtain ⟨a, b⟩ := dat_ok d 60 h
  unfold SeqAt.shaped
  rw [a, decide_eq_true (by omega)]
  rfl
/-- == of data -/
def deq (x y : D) : Bool := PyData.eqv (py x) (py y)
def deqs (xs ys : List D) : Bool := PyData.eqvAll (pys xs) (pys ys)
theorem deqs_self_of : ∀ (n : Nat) (ds : List D), (∀ d, dat n d = true → deq d d = true) → dats n ds = true → deqs ds ds = true
  | _, [], _, _ => by simp [deqs, pys, PyData.eqvAll]
  | n, d :: ds, h, q => by
    have q' : dat n d = true ∧ dats n ds = true := by simpa [dats] using q
    have a := h d q'.1
    have b := deqs_self_of n ds h q'.2
    unfold deq at a
    unfold deqs at b ⊢
    simp [pys, PyData.eqvAll, a, b]
theorem deq_self : ∀ (n : Nat) (d : D), dat n d = true → deq d d = true
  | _, .non, _ => by simp [deq, py, PyData.eqv]
  | _, .bl b, _ => by simp [deq, py, PyData.eqv]
  | _, .int b, _ => by simp [deq, py, PyData.eqv]
  | _, .str b, _ => by simp [deq, py, PyData.eqv]
  | 0, .lst ds, q => by simp [dat] at q
  | n + 1, .lst ds, q => by
    have := deqs_self_of n ds (deq_self n) (by simpa [dat] using q)
    unfold deqs at this
    simp [deq, py, PyData.eqv, this]
  | 0, .tup ds, q => by simp [dat] at q
  | n + 1, .tup ds, q => by
    have := deqs_self_of n ds (deq_self n) (by simpa [dat] using q)
    unfold deqs at this
    simp [deq, py, PyData.eqv, this]
  | _, .ob _ _, q => by simp [dat] at q
  | _, .ad _, q => by simp [dat] at q
  | _, .ty _, q => by simp [dat] at q
  | _, .scr _, q => by simp [dat] at q
  | _, .ex _ _, q => by simp [dat] at q
  | _, .dk _, q => by simp [dat] at q
  | _, .st _ _, q => by simp [dat] at q
def zs (ns : List Int) : List D := ns.map D.int
theorem zs_length (ns : List Int) : (zs ns).length = ns.length := by simp [zs]
theorem dats_zs (n : Nat) : ∀ ns : List Int, dats n (zs ns) = true
  | [] => by simp [zs, dats]
  | a :: r => by
    have := dats_zs n r
    unfold zs at this ⊢
    simp [dats, dat, this]
theorem deqs_zs : ∀ xs ys : List Int, deqs (zs xs) (zs ys) = decide (xs = ys)
  | [], [] => by simp [deqs, zs, pys, PyData.eqvAll]
  | [], _ :: _ => by simp [deqs, zs, pys, PyData.eqvAll]
  | _ :: _, [] => by simp [deqs, zs, pys, PyData.eqvAll]
  | a :: r, b :: q => by
    have := deqs_zs r q
    unfold deqs zs at this ⊢
    simp only [List.map_cons, pys, PyData.eqvAll, this, py, PyData.eqv]
    by_cases h : a = b
    · subst h; simp
    · simp [h]
end

/-! ### operators, whatever their operands are -/
section
variable {K : PySem.W.Frag} {fx : Fx} {E : Env} {te ta tb : TE} {tt : TT} {c : Cn} {G H : Hp} {σ : St} {Q : D → Env → Prop} {O : List D → Env → Prop}
abbrev rS2 (f : Str → Str → Hp → VK → Prop) : R2 := fun x y H Q => ∃ i j, x = .str i ∧ y = .str j ∧ f i j H Q
def rAddU (K : PySem.W.Frag) : R2 := fun x y H Q => rI0 (fun i j => .int (i + j)) x y H Q ∨ (∃ i j, x = .str i ∧ y = .str j ∧ i.length + j.length ≤ sizeLine ∧ Q (.str (i ++ j)) H) ∨ rCat x y H Q ∨ rCatA K x y H Q ∨ ∃ i k, x = .int i ∧ y = .bl k ∧ Q (.int (i + PyProof.Rows.b2i k)) H
theorem op_addU {X : Cx} : OpR X (binaryOp .Add) (rAddU X.K) := op_add.or (op_add_str.or (op_cat.or (op_catA.or op_add_ib)))
theorem rop_add {i j : Int} (h : Q (.int (i + j)) E) : Rop K fx (rAddU K) (.int i) (.int j) E Q := fun c G σ H X A v u rv ru P k => by
  cases rv; cases ru
  exact .inl ⟨i, j, rfl, rfl, k _ _ _ _ _ h A Mw.refl (.int _)⟩
theorem rop_addS {i j : Str} (hl : i.length + j.length ≤ 1000000) (h : Q (.str (i ++ j)) E) : Rop K fx (rAddU K) (.str i) (.str j) E Q := fun c G σ H X A v u rv ru P k => by
  cases rv; cases ru
  exact .inr (.inl ⟨i, j, rfl, rfl, Nat.le_trans hl (by decide), k _ _ _ _ _ h A Mw.refl (.str _)⟩)
theorem roo_cat {xs ys : List D} (hl : xs.length + ys.length ≤ 1000000) (h : O (xs ++ ys) E) : Roo K fx (rAddU K) (.lst xs) (.lst ys) E O := fun c G σ H X A v u rv ru P k => by
  cases rv with
  | @lst _ us _ h1 r1 =>
    cases ru with
    | @lst _ ws _ h2 r2 =>
      refine .inr (.inr (.inl ⟨_, _, _, _, rfl, rfl, A.ex _ _ h1, A.ex _ _ h2, Nat.le_trans (by rw [r1.length, r2.length]; exact hl) (by decide : 1000000 ≤ sizeLine), fun p hp => ?_⟩))
      have m := Mv.hid (c := c) (o := HO.lst (us ++ ws)) A.ex hp
      exact k p _ _ _ _ _ h (A.move0 m (fun a u e => by rw [upd_ne (ne_of_none e hp)]; exact e)) m.mw ⟨A.ex.free hp, B_free A hp, own_free A hp⟩ upd_same (r1.append r2)
theorem rop_catT {xs ys : List D} (hl : xs.length + ys.length ≤ 1000000) (h : Q (.tup (xs ++ ys)) E) : Rop K fx (rAddU K) (.tup xs) (.tup ys) E Q := fun c G σ H X A v u rv ru P k => by
  cases rv with
  | @tup _ us _ h1 r1 =>
    cases ru with
    | @tup _ ws _ h2 r2 =>
      refine .inr (.inr (.inr (.inl ⟨_, _, _, _, rfl, rfl, A.ex.t h1, A.ex.t h2, Nat.le_trans (by rw [r1.length, r2.length]; exact hl) (by decide : 1000000 ≤ sizeLine), fun e => ?_, fun _ e => ?_, fun _ _ p hp => ?_⟩)))
      · subst e
        cases r1
        exact k _ _ _ _ _ h A Mw.refl (.tup h2 r2)
      · subst e
        cases r2
        rw [List.append_nil] at h
        exact k _ _ _ _ _ h A Mw.refl (.tup h1 r1)
      · have m := Mv.laid (c := c) (o := HO.tup (us ++ ws)) A.ex hp
        exact k _ _ _ _ _ h (A.move0 m (fun a u e => by rw [upd_ne (ne_of_none e hp)]; exact e)) m.mw (.tup (.inl (.inl upd_same)) ((r1.append r2).mono m.ex))
theorem rop_addB {i : Int} {b : Bool} (h : Q (.int (i + PyProof.Rows.b2i b)) E) : Rop K fx (rAddU K) (.int i) (.bl b) E Q := fun c G σ H X A v u rv ru P k => by
  cases rv; cases ru
  exact .inr (.inr (.inr (.inr ⟨i, b, rfl, rfl, k _ _ _ _ _ h A Mw.refl (.int _)⟩)))
abbrev rSubU : R2 := rI0 fun i j => .int (i - j)
theorem rop_sub {i j : Int} (h : Q (.int (i - j)) E) : Rop K fx rSubU (.int i) (.int j) E Q := fun c G σ H X A v u rv ru P k => by
  cases rv; cases ru
  exact ⟨i, j, rfl, rfl, k _ _ _ _ _ h A Mw.refl (.int _)⟩
def rMulU (K : PySem.W.Frag) : R2 := fun x y H Q => rI CMul (fun i j => .int (i * j)) x y H Q ∨ rI CMulW (fun i j => .int (i * j)) x y H Q ∨ rRep x y H Q ∨ rRepT K x y H Q ∨ rRepT1 K x y H Q
theorem op_mulU {X : Cx} : OpR X (binaryOp .Mult) (rMulU X.K) := op_mul.or (op_mulW.or (op_rep.or (op_repT.or op_repT1)))
theorem rop_mul {i j : Int} (hc : CMul i j ∨ CMulW i j) (h : Q (.int (i * j)) E) : Rop K fx (rMulU K) (.int i) (.int j) E Q := fun c G σ H X A v u rv ru P k => by
  cases rv; cases ru
  rcases hc with hc | hc
  · exact .inl ⟨i, j, rfl, rfl, hc, k _ _ _ _ _ h A Mw.refl (.int _)⟩
  · exact .inr (.inl ⟨i, j, rfl, rfl, hc, k _ _ _ _ _ h A Mw.refl (.int _)⟩)
theorem Rps.rep {vs : List V} {ds : List D} (r : Rps K G vs ds) : ∀ n : Nat, Rps K G (List.replicate n vs).flatten (List.replicate n ds).flatten
  | 0 => .nil
  | n + 1 => by
    rw [List.replicate_succ, List.replicate_succ, List.flatten_cons, List.flatten_cons]
    exact r.append (Rps.rep r n)
def rDivU : R2 := fun x y H Q => rI CDivN (fun i j => .int (i.fdiv j)) x y H Q ∨ rI CDivW (fun i j => .int (i / j)) x y H Q
theorem op_divU {X : Cx} : OpR X (binaryOp .FloorDiv) rDivU := op_fdivN.or op_fdivW
theorem rop_div {i j : Int} (h0 : 0 < j) (hb : j < 2 ^ 200) (h : Q (.int (i / j)) E) : Rop K fx rDivU (.int i) (.int j) E Q := fun c G σ H X A v u rv ru P k => by
  cases rv; cases ru
  refine .inr ⟨i, j, rfl, rfl, wide_div (b := 200) h0 ?_ (by decide) (by decide), k _ _ _ _ _ h A Mw.refl (.int _)⟩
  have e : ((j.natAbs : Nat) : Int) = j := by omega
  have : ((j.natAbs : Nat) : Int) < ((2 ^ 200 : Nat) : Int) := by rw [e]; exact_mod_cast hb
  exact_mod_cast this
abbrev rModU : R2 := rI (fun _ j => j ≠ 0) fun i j => .int (i.fmod j)
theorem rop_mod {i j : Int} (h0 : 0 < j) (h : Q (.int (i % j)) E) : Rop K fx rModU (.int i) (.int j) E Q := fun c G σ H X A v u rv ru P k => by
  cases rv; cases ru
  refine ⟨i, j, rfl, rfl, by omega, ?_⟩
  show P (.int (i.fmod j)) H
  rw [Int.fmod_eq_emod_of_nonneg i (by omega)]
  exact k _ _ _ _ _ h A Mw.refl (.int _)
abbrev rPowU : R2 := rI CPow fun i j => .int (i ^ j.toNat)
theorem rop_pow {i j : Int} (h0 : 0 ≤ j ∧ j ≤ 1000000) (hb : -(2 ^ 63) ≤ i ∧ i ≤ 2 ^ 63) (h : Q (.int (i ^ j.toNat)) E) : Rop K fx rPowU (.int i) (.int j) E Q := fun c G σ H X A v u rv ru P k => by
  cases rv; cases ru
  exact ⟨i, j, rfl, rfl, ⟨h0.1, h0.2, by omega⟩, k _ _ _ _ _ h A Mw.refl (.int _)⟩
/-! comparisons -/
abbrev rLtU : R2 := rI0 fun i j => .bl (decide (i < j))
abbrev rLeU : R2 := rI0 fun i j => .bl (decide (i ≤ j))
abbrev rGtU : R2 := rI0 fun i j => .bl (decide (j < i))
abbrev rGeU : R2 := rI0 fun i j => .bl (decide (j ≤ i))
theorem rop_I0 {g : Int → Int → V} {f : D} {i j : Int} (hf : ∀ G, Rp K G (g i j) f) (h : Q f E) : Rop K fx (rI0 g) (.int i) (.int j) E Q := fun c G σ H X A v u rv ru P k => by
  cases rv; cases ru
  exact ⟨i, j, rfl, rfl, k _ _ _ _ _ h A Mw.refl (hf G)⟩
theorem rop_lt {i j : Int} (h : Q (.bl (decide (i < j))) E) : Rop K fx rLtU (.int i) (.int j) E Q := rop_I0 (fun _ => .bl _) h
theorem rop_le {i j : Int} (h : Q (.bl (decide (i ≤ j))) E) : Rop K fx rLeU (.int i) (.int j) E Q := rop_I0 (fun _ => .bl _) h
theorem rop_gt {i j : Int} (h : Q (.bl (decide (j < i))) E) : Rop K fx rGtU (.int i) (.int j) E Q := rop_I0 (fun _ => .bl _) h
theorem rop_ge {i j : Int} (h : Q (.bl (decide (j ≤ i))) E) : Rop K fx rGeU (.int i) (.int j) E Q := rop_I0 (fun _ => .bl _) h
theorem rop_eq {x y : D} (hx : dat 60 x = true) (hy : dat 60 y = true) (h : Q (.bl (deq x y)) E) : Rop K fx (rEqD K) x y E Q := fun c G σ H X A v u rv ru P k =>
  ⟨py x, py y, rv.dp A.ex hx, ru.dp A.ex hy, dat_shaped hx, dat_shaped hy, k _ _ _ _ _ h A Mw.refl (.bl _)⟩
theorem rop_ne {x y : D} (hx : dat 60 x = true) (hy : dat 60 y = true) (h : Q (.bl (!deq x y)) E) : Rop K fx (rNeD K) x y E Q := fun c G σ H X A v u rv ru P k =>
  ⟨py x, py y, rv.dp A.ex hx, ru.dp A.ex hy, dat_shaped hx, dat_shaped hy, k _ _ _ _ _ h A Mw.refl (.bl _)⟩
/-- both sides are the same -/
theorem rop_eqT {x y : D} (e : x = y) (hx : dat 60 x = true) (h : Q (.bl true) E) : Rop K fx (rEqD K) x y E Q := by
  subst e
  exact rop_eq hx hx (by rw [deq_self 60 x hx]; exact h)
theorem rop_neF {x y : D} (e : x = y) (hx : dat 60 x = true) (h : Q (.bl false) E) : Rop K fx (rNeD K) x y E Q := by
  subst e
  exact rop_ne hx hx (by rw [deq_self 60 x hx]; exact h)
def isNon : D → Bool
  | .non => true
  | _ => false
abbrev rIsNU : R2 := fun x y H Q => y = .non ∧ Q (.bl (decide (x = .non))) H
abbrev rNotNU : R2 := fun x y H Q => y = .non ∧ Q (.bl (!decide (x = .non))) H
theorem isNon_ok {v : V} {d : D} (r : Rp K G v d) : decide (v = .non) = isNon d := by
  cases r <;> simp [isNon]
theorem rop_isN {x : D} (h : Q (.bl (isNon x)) E) : Rop K fx rIsNU x .non E Q := fun c G σ H X A v u rv ru P k => by
  cases ru
  refine ⟨rfl, ?_⟩
  rw [isNon_ok rv]
  exact k _ _ _ _ _ h A Mw.refl (.bl _)
theorem rop_notN {x : D} (h : Q (.bl (!isNon x)) E) : Rop K fx rNotNU x .non E Q := fun c G σ H X A v u rv ru P k => by
  cases ru
  refine ⟨rfl, ?_⟩
  rw [isNon_ok rv]
  exact k _ _ _ _ _ h A Mw.refl (.bl _)
/-! items, slices -/
theorem rop_ixL {ds : List D} {i : Int} {d : D} (e : atI ds i = some d) (h : Q d E) : Rop K fx (rIx K) (.lst ds) (.int i) E Q := fun c G σ H X A v u rv ru P k => by
  cases ru
  cases rv with
  | lst h1 r1 =>
    unfold atI at e
    rw [Option.bind_eq_some_iff] at e
    obtain ⟨j, e1, e2⟩ := e
    obtain ⟨w, w1, w2⟩ := r1.get e2
    exact .inl ⟨_, _, i, w, rfl, rfl, .inl (.inl (A.ex _ _ h1)), by unfold atI; rw [r1.length, e1]; exact w1, k _ _ _ _ _ h A Mw.refl w2⟩
theorem rop_ixT {ds : List D} {i : Int} {d : D} (e : atI ds i = some d) (h : Q d E) : Rop K fx (rIx K) (.tup ds) (.int i) E Q := fun c G σ H X A v u rv ru P k => by
  cases ru
  cases rv with
  | tup h1 r1 =>
    unfold atI at e
    rw [Option.bind_eq_some_iff] at e
    obtain ⟨j, e1, e2⟩ := e
    obtain ⟨w, w1, w2⟩ := r1.get e2
    exact .inr (.inl ⟨_, _, i, w, rfl, rfl, A.ex.t h1, by unfold atI; rw [r1.length, e1]; exact w1, k _ _ _ _ _ h A Mw.refl w2⟩)
/-- xs[i], xs a list of its own -/
theorem we_ixO {i : Nat} {ds : List D} (e : E.sl[i]? = some (.own ds)) (h : We K fx tb E fun z E2 => E2.sl = E.sl ∧ ∃ (n : Int) (d : D), z = .int n ∧ atI ds n = some d ∧ Q d E2) : We K fx (tOp (rIx K) (tVar i) tb) E Q := fun c G σ H X A P k => by
  obtain ⟨p, vs, e1, g, b, hp, r⟩ := A.own e
  refine ⟨.ref p, e1, h c G σ H X A _ fun u z E2 G2 H2 q A2 m2 ru => ?_⟩
  obtain ⟨q1, n, d, ez, ea, q⟩ := q
  subst ez
  cases ru
  obtain ⟨p', vs', e', g', b', hp', r'⟩ := A2.own (by rw [q1]; exact e)
  rw [e1] at e'
  cases e'
  unfold atI at ea
  rw [Option.bind_eq_some_iff] at ea
  obtain ⟨j, a1, a2⟩ := ea
  obtain ⟨w, w1, w2⟩ := r'.get a2
  exact .inl ⟨p, vs', n, w, rfl, rfl, .inl (.inl hp'), by unfold atI; rw [r'.length, a1]; exact w1, k _ _ _ _ _ q A2 m2 w2⟩
end
end Z
end
section
namespace Z
open PySem L2
section
variable {K : PySem.W.Frag} {fx : Fx} {E : Env} {te ta tb : TE} {tt : TT} {c : Cn} {G H : Hp} {σ : St} {Q : D → Env → Prop} {O : List D → Env → Prop}
theorem one {vs : List V} {d : D} (r : Rps K G vs [d]) : ∃ v, vs = [v] ∧ Rp K G v d := by
  cases r with
  | cons r t => cases t; exact ⟨_, rfl, r⟩
theorem two {vs : List V} {d e : D} (r : Rps K G vs [d, e]) : ∃ v u, vs = [v, u] ∧ Rp K G v d ∧ Rp K G u e := by
  cases r with
  | cons r t =>
    obtain ⟨u, h, q⟩ := one t
    subst h
    exact ⟨_, _, rfl, r, q⟩
/-! len -/
abbrev rLenU (K : PySem.W.Frag) : RC := fun xs H Q => ∃ x n, xs = [x] ∧ LenV K x H n ∧ Q (.int n) H
theorem rcb_lenL {ds : List D} (h : Q (.int ds.length) E) : Rcb K fx (rLenU K) [.lst ds] E Q := fun c G σ H X A vs r P k => by
  obtain ⟨v, e, rr⟩ := one r
  subst e
  cases rr with
  | lst h1 r1 => exact ⟨_, _, rfl, .inl ⟨_, .inl (.inl (A.ex _ _ h1)), rfl⟩, k _ _ _ _ _ h A Mw.refl (by rw [r1.length]; exact .int _)⟩
theorem rcb_lenT {ds : List D} (h : Q (.int ds.length) E) : Rcb K fx (rLenU K) [.tup ds] E Q := fun c G σ H X A vs r P k => by
  obtain ⟨v, e, rr⟩ := one r
  subst e
  cases rr with
  | tup h1 r1 => exact ⟨_, _, rfl, .inr ⟨_, A.ex.t h1, rfl⟩, k _ _ _ _ _ h A Mw.refl (by rw [r1.length]; exact .int _)⟩
theorem rcb_lenS {x : Str} (hl : x.length ≤ 1000000) (h : Q (.int x.length) E) : Rcb K fx (rLenU K) [.str x] E Q := fun c G σ H X A vs r P k => by
  obtain ⟨v, e, rr⟩ := one r
  subst e
  cases rr
  exact ⟨.str x, x.length, rfl, ⟨Nat.le_trans hl (by decide), rfl⟩, k _ _ _ _ _ h A Mw.refl (.int _)⟩
/-- len(xs), xs a list of its own -/
theorem we_lenO {i : Nat} {ds : List D} (e : E.sl[i]? = some (.own ds)) (h : Q (.int ds.length) E) : We K fx (tCB (rLenU K) (tCons (tVar i) tNil)) E Q := fun c G σ H X A P k => by
  obtain ⟨p, vs, e1, g, b, hp, r⟩ := A.own e
  exact ⟨.ref p, e1, _, _, rfl, .inl ⟨_, .inl (.inl hp), rfl⟩, k _ _ _ _ _ h A Mw.refl (by rw [r.length]; exact .int _)⟩
/-! int, bool, abs, max, min -/
abbrev rIntU : RC := fun xs H Q => (∃ i, xs = [.int i] ∧ Q (.int i) H) ∨ ∃ k, xs = [.bl k] ∧ Q (.int (if k then 1 else 0)) H
theorem rcb_int {i : Int} (h : Q (.int i) E) : Rcb K fx rIntU [.int i] E Q := fun c G σ H X A vs r P k => by
  obtain ⟨v, e, rr⟩ := one r
  subst e
  cases rr
  exact .inl ⟨_, rfl, k _ _ _ _ _ h A Mw.refl (.int _)⟩
theorem rcb_intB {b : Bool} (h : Q (.int (if b then 1 else 0)) E) : Rcb K fx rIntU [.bl b] E Q := fun c G σ H X A vs r P k => by
  obtain ⟨v, e, rr⟩ := one r
  subst e
  cases rr
  exact .inr ⟨_, rfl, k _ _ _ _ _ h A Mw.refl (.int _)⟩
abbrev rAbsU : RC := fun xs H Q => ∃ i, xs = [.int i] ∧ Q (.int (if i < 0 then -i else i)) H
theorem rcb_abs {i : Int} (h : Q (.int (if i < 0 then -i else i)) E) : Rcb K fx rAbsU [.int i] E Q := fun c G σ H X A vs r P k => by
  obtain ⟨v, e, rr⟩ := one r
  subst e
  cases rr
  exact ⟨_, rfl, k _ _ _ _ _ h A Mw.refl (.int _)⟩
abbrev rMax2U : RC := fun xs H Q => ∃ i j, xs = [.int i, .int j] ∧ Q (.int (if j > i then j else i)) H
abbrev rMin2U : RC := fun xs H Q => ∃ i j, xs = [.int i, .int j] ∧ Q (.int (if j < i then j else i)) H
theorem rcb_max2 {i j : Int} (h : Q (.int (if j > i then j else i)) E) : Rcb K fx rMax2U [.int i, .int j] E Q := fun c G σ H X A vs r P k => by
  obtain ⟨v, u, e, ra, rb⟩ := two r
  subst e
  cases ra; cases rb
  exact ⟨_, _, rfl, k _ _ _ _ _ h A Mw.refl (.int _)⟩
theorem rcb_min2 {i j : Int} (h : Q (.int (if j < i then j else i)) E) : Rcb K fx rMin2U [.int i, .int j] E Q := fun c G σ H X A vs r P k => by
  obtain ⟨v, u, e, ra, rb⟩ := two r
  subst e
  cases ra; cases rb
  exact ⟨_, _, rfl, k _ _ _ _ _ h A Mw.refl (.int _)⟩
theorem rcb_neg {i : Int} (h : Q (.int (-i)) E) : Rcb K fx (fun vs H P => ∃ v, vs = [v] ∧ rU (fun i => .int (-i)) v H P) [.int i] E Q := fun c G σ H X A vs r P k => by
  obtain ⟨v, e, rr⟩ := one r
  subst e
  cases rr
  exact ⟨_, rfl, i, rfl, k _ _ _ _ _ h A Mw.refl (.int _)⟩
abbrev rStrU : RC := fun xs H Q => ∃ i, xs = [.int i] ∧ i.natAbs.log2 < 1920 ∧ Q (.str (toString i)) H
theorem rcb_str {i : Int} (hb : -(2 ^ 200) < i ∧ i < 2 ^ 200) (h : Q (.str (toString i)) E) : Rcb K fx rStrU [.int i] E Q := fun c G σ H X A vs r P k => by
  obtain ⟨v, e, rr⟩ := one r
  subst e
  cases rr
  refine ⟨_, rfl, ?_, k _ _ _ _ _ h A Mw.refl (.str _)⟩
  have h1 : i.natAbs < 2 ^ 200 := by omega
  have h2 := PySem.Flt.log2_lt_of (by decide : 0 < 200) h1
  omega
/-! list(..), tuple(..), sum, sorted, all, any -/
theorem rps_ints : ∀ {vs : List V} {ns : List Int}, Rps K G vs (zs ns) → vs = ns.map V.int
  | _, [], r => by
    have r' : Rps K G _ [] := r
    cases r'; rfl
  | _, n :: ns, r => by
    have r' : Rps K G _ (.int n :: zs ns) := r
    cases r' with
    | cons r t =>
      cases r
      rw [rps_ints t]; rfl
theorem ints_rps : ∀ (ns : List Int), Rps K G (ns.map V.int) (zs ns)
  | [] => .nil
  | n :: ns => .cons (.int n) (ints_rps ns)
theorem rps_bls : ∀ {vs : List V} {ns : List Bool}, Rps K G vs (ns.map D.bl) → vs = ns.map V.bl
  | _, [], r => by
    have r' : Rps K G _ [] := r
    cases r'; rfl
  | _, n :: ns, r => by
    have r' : Rps K G _ (.bl n :: ns.map D.bl) := r
    cases r' with
    | cons r t =>
      cases r
      rw [rps_bls t]; rfl
theorem rps_strs : ∀ {vs : List V} {ns : List Str}, Rps K G vs (ns.map D.str) → vs = ns.map V.str
  | _, [], r => by
    have r' : Rps K G _ [] := r
    cases r'; rfl
  | _, n :: ns, r => by
    have r' : Rps K G _ (.str n :: ns.map D.str) := r
    cases r' with
    | cons r t =>
      cases r
      rw [rps_strs t]; rfl
theorem strs_rps : ∀ (ns : List Str), Rps K G (ns.map V.str) (ns.map D.str)
  | [] => .nil
  | n :: ns => .cons (.str n) (strs_rps ns)
abbrev rListU (K : PySem.W.Frag) : RC := fun xs H Q => ∃ p ys, xs = [.ref p] ∧ (SqL K H p ys ∨ SqT K H p ys) ∧ ∀ l, H l = none → Q (.ref l) (upd H l (.lst ys))
theorem rco_list {d : D} {ds : List D} (e : isSeq d ds) (h : O ds E) : Rco K fx (rListU K) [d] E O := fun c G σ H X A vs r P k => by
  obtain ⟨v, e', rr⟩ := one r
  subst e'
  rcases e with e | e
  · subst e
    cases rr with
    | @lst _ us _ h1 r1 =>
      refine ⟨_, us, rfl, .inl (.inl (.inl (A.ex _ _ h1))), fun p hp => ?_⟩
      have m := Mv.hid (c := c) (o := HO.lst us) A.ex hp
      exact k p _ _ _ _ _ h (A.move0 m (fun a u e => by rw [upd_ne (ne_of_none e hp)]; exact e)) m.mw ⟨A.ex.free hp, B_free A hp, own_free A hp⟩ upd_same r1
  · subst e
    cases rr with
    | @tup _ us _ h1 r1 =>
      refine ⟨_, us, rfl, .inr (A.ex.t h1), fun p hp => ?_⟩
      have m := Mv.hid (c := c) (o := HO.lst us) A.ex hp
      exact k p _ _ _ _ _ h (A.move0 m (fun a u e => by rw [upd_ne (ne_of_none e hp)]; exact e)) m.mw ⟨A.ex.free hp, B_free A hp, own_free A hp⟩ upd_same r1
abbrev rTupU (K : PySem.W.Frag) : RC := fun xs H Q => ∃ p ys, xs = [.ref p] ∧ ((SqL K H p ys ∧ ∀ l, H l = none → Q (.ref l) (upd H l (.tup ys))) ∨ (SqT K H p ys ∧ Q (.ref p) H))
theorem rcb_tup {d : D} {ds : List D} (e : isSeq d ds) (h : Q (.tup ds) E) : Rcb K fx (rTupU K) [d] E Q := fun c G σ H X A vs r P k => by
  obtain ⟨v, e', rr⟩ := one r
  subst e'
  rcases e with e | e
  · subst e
    cases rr with
    | @lst _ us _ h1 r1 =>
      refine ⟨_, us, rfl, .inl ⟨.inl (.inl (A.ex _ _ h1)), fun p hp => ?_⟩⟩
      have m := Mv.laid (c := c) (o := HO.tup us) A.ex hp
      exact k _ _ _ _ _ h (A.move0 m (fun a u e => by rw [upd_ne (ne_of_none e hp)]; exact e)) m.mw (.tup (.inl (.inl upd_same)) (r1.mono m.ex))
  · subst e
    cases rr with
    | @tup _ us _ h1 r1 => exact ⟨_, us, rfl, .inr ⟨A.ex.t h1, k _ _ _ _ _ h A Mw.refl (.tup h1 r1)⟩⟩
/-- tuple(xs), xs a list of its own, which stays so -/
theorem we_tupO {i : Nat} {ds : List D} (e : E.sl[i]? = some (.own ds)) (h : Q (.tup ds) E) : We K fx (tCB (rTupU K) (tCons (tVar i) tNil)) E Q := fun c G σ H X A P k => by
  obtain ⟨p, vs, e1, g, b, hp, r⟩ := A.own e
  refine ⟨.ref p, e1, _, _, rfl, .inl ⟨.inl (.inl hp), fun l hl => ?_⟩⟩
  have m := Mv.laid (c := c) (o := HO.tup vs) A.ex hl
  exact k _ _ _ _ _ h (A.move0 m (fun a u e => by rw [upd_ne (ne_of_none e hl)]; exact e)) m.mw (.tup (.inl (.inl upd_same)) (r.mono m.ex))
theorem wo_listO {i : Nat} {ds : List D} (e : E.sl[i]? = some (.own ds)) (h : O ds E) : Wo K fx (tCB (rListU K) (tCons (tVar i) tNil)) E O := fun c G σ H X A P k => by
  obtain ⟨p, vs, e1, g, b, hp, r⟩ := A.own e
  refine ⟨.ref p, e1, _, _, rfl, .inl (.inl (.inl hp)), fun l hl => ?_⟩
  have m := Mv.hid (c := c) (o := HO.lst vs) A.ex hl
  exact k l _ _ _ _ _ h (A.move0 m (fun a u e => by rw [upd_ne (ne_of_none e hl)]; exact e)) m.mw ⟨A.ex.free hl, B_free A hl, own_free A hl⟩ upd_same r
theorem rcb_sum {ns : List Int} (h : Q (.int ns.sum) E) : Rcb K fx (rSum K) [.lst (zs ns)] E Q := fun c G σ H X A vs r P k => by
  obtain ⟨v, e', rr⟩ := one r
  subst e'
  cases rr with
  | lst h1 r1 =>
    rw [rps_ints r1] at h1
    exact ⟨_, ns, rfl, .inl (.inl (A.ex _ _ h1)), k _ _ _ _ _ h A Mw.refl (.int _)⟩
theorem we_sumO {i : Nat} {ns : List Int} (e : E.sl[i]? = some (.own (zs ns))) (h : Q (.int ns.sum) E) : We K fx (tCB (rSum K) (tCons (tVar i) tNil)) E Q := fun c G σ H X A P k => by
  obtain ⟨p, vs, e1, g, b, hp, r⟩ := A.own e
  rw [rps_ints r] at hp
  exact ⟨.ref p, e1, p, ns, rfl, .inl (.inl hp), k _ _ _ _ _ h A Mw.refl (.int _)⟩
theorem rco_sorted {ns : List Int} (h : ∀ ns' : List Int, ns'.Perm ns → ns'.Pairwise (· ≤ ·) → O (zs ns') E) : Rco K fx (rSortedI K) [.lst (zs ns)] E O := fun c G σ H X A vs r P k => by
  obtain ⟨v, e', rr⟩ := one r
  subst e'
  cases rr with
  | lst h1 r1 =>
    rw [rps_ints r1] at h1
    refine ⟨_, ns, rfl, .inl (.inl (A.ex _ _ h1)), fun ns' p h2 h3 hp => ?_⟩
    have m := Mv.hid (c := c) (o := HO.lst (ns'.map V.int)) A.ex hp
    exact k p _ _ _ _ _ (h ns' h2 h3) (A.move0 m (fun a u e => by rw [upd_ne (ne_of_none e hp)]; exact e)) m.mw ⟨A.ex.free hp, B_free A hp, own_free A hp⟩ upd_same (ints_rps ns')
theorem rcb_all {bs : List Bool} (h : Q (.bl (bs.all id)) E) : Rcb K fx (rAll K) [.lst (bs.map D.bl)] E Q := fun c G σ H X A vs r P k => by
  obtain ⟨v, e', rr⟩ := one r
  subst e'
  cases rr with
  | lst h1 r1 =>
    rw [rps_bls r1] at h1
    exact ⟨_, bs, rfl, .inl (.inl (A.ex _ _ h1)), k _ _ _ _ _ h A Mw.refl (.bl _)⟩
theorem rcb_any {bs : List Bool} (h : Q (.bl (bs.any id)) E) : Rcb K fx (rAny K) [.lst (bs.map D.bl)] E Q := fun c G σ H X A vs r P k => by
  obtain ⟨v, e', rr⟩ := one r
  subst e'
  cases rr with
  | lst h1 r1 =>
    rw [rps_bls r1] at h1
    exact ⟨_, bs, rfl, .inl (.inl (A.ex _ _ h1)), k _ _ _ _ _ h A Mw.refl (.bl _)⟩
/-! slices -/
def cutD (xs : List D) (lo hi : Option Int) : List D := (xs.drop (HT.sIx xs.length 0 lo)).take (HT.sIx xs.length xs.length hi - HT.sIx xs.length 0 lo)
theorem Rps.cut {vs : List V} {ds : List D} (r : Rps K G vs ds) (lo hi : Option Int) : Rps K G (cutV vs lo hi) (cutD ds lo hi) := by
  unfold cutV cutD
  rw [r.length]
  exact (r.drop _).take _
abbrev RS := V → Option Int → Option Int → Hp → VK → Prop
def rSlU (K : PySem.W.Frag) : RS := fun x lo hi H Q => rSlL K x lo hi H Q ∨ rSlA K x lo hi H Q ∨ rSlS x lo hi H Q
theorem sl_u {X : Cx} : SlR X (rSlU X.K) := sl_list.or (sl_tupA.or sl_str)
def Wp (K : PySem.W.Frag) (fx : Fx) (to : TO) (E : Env) (Q : Option Int → Env → Prop) : Prop :=
  ∀ (c : Cn) (G : Hp) (σ : St) (H : Hp), XOk K c fx → As K c G σ E H → ∀ P : Option Int → Hp → Prop, (∀ o E' G' H', Q o E' → As K c G' σ E' H' → Mw c G H G' H' → P o H') → to σ H P
theorem wp_none {Q : Option Int → Env → Prop} (h : Q none E) : Wp K fx tNoPart E Q := fun c G σ H X A P k => k _ _ _ _ h A Mw.refl
theorem wp_some {Q : Option Int → Env → Prop} (h : We K fx te E fun d E' => ∃ i, d = .int i ∧ Q (some i) E') : Wp K fx (tPart te) E Q := fun c G σ H X A P k =>
  h c G σ H X A _ fun v d E' G' H' q A' m r => by
    obtain ⟨i, e, q⟩ := q
    subst e
    cases r
    exact ⟨i, rfl, k _ _ _ _ q A' m⟩
theorem wo_sl {tl th : TO} (h : We K fx te E fun d E1 => Wp K fx tl E1 fun lo E2 => Wp K fx th E2 fun hi E3 => ∃ ds, d = .lst ds ∧ O (cutD ds lo hi) E3) : Wo K fx (tSl (rSlU K) te tl th) E O := fun c G σ H X A P k =>
  h c G σ H X A _ fun v d E1 G1 H1 q1 A1 m1 r1 => q1 c G1 σ H1 X A1 _ fun lo E2 G2 H2 q2 A2 m2 => q2 c G2 σ H2 X A2 _ fun hi E3 G3 H3 q3 A3 m3 => by
    obtain ⟨ds, e, q⟩ := q3
    subst e
    cases r1.mono (m2.ex.trans m3.ex) with
    | @lst _ us _ h1 r1 =>
      refine .inl ⟨_, us, rfl, .inl (.inl (A3.ex _ _ h1)), fun p hp => ?_⟩
      have m := Mv.hid (c := c) (o := HO.lst (cutV us lo hi)) A3.ex hp
      exact k p _ _ _ _ _ q (A3.move0 m (fun a u e => by rw [upd_ne (ne_of_none e hp)]; exact e)) ((m1.trans (m2.trans m3)).trans m.mw) ⟨A3.ex.free hp, B_free A3 hp, own_free A3 hp⟩ upd_same (r1.cut lo hi)
/-- xs[a:b], xs a list of its own, which stays so -/
theorem wo_slO {i : Nat} {ds : List D} {tl th : TO} (e : E.sl[i]? = some (.own ds)) (h : Wp K fx tl E fun lo E2 => Wp K fx th E2 fun hi E3 => E3.sl = E.sl ∧ O (cutD ds lo hi) E3) : Wo K fx (tSl (rSlU K) (tVar i) tl th) E O := fun c G σ H X A P k => by
  obtain ⟨p, vs, e1, g, b, hp, r⟩ := A.own e
  refine ⟨.ref p, e1, h c G σ H X A _ fun lo E2 G2 H2 q2 A2 m2 => q2 c G2 σ H2 X A2 _ fun hi E3 G3 H3 q3 A3 m3 => ?_⟩
  obtain ⟨q1, q⟩ := q3
  obtain ⟨p', us, e', g', b', hp', r'⟩ := A3.own (by rw [q1]; exact e)
  rw [e1] at e'
  cases e'
  refine .inl ⟨_, us, rfl, .inl (.inl hp'), fun l hl => ?_⟩
  have m := Mv.hid (c := c) (o := HO.lst (cutV us lo hi)) A3.ex hl
  exact k l _ _ _ _ _ q (A3.move0 m (fun a u e => by rw [upd_ne (ne_of_none e hl)]; exact e)) ((m2.trans m3).trans m.mw) ⟨A3.ex.free hl, B_free A3 hl, own_free A3 hl⟩ upd_same (r'.cut lo hi)
theorem we_slT {tl th : TO} (h : We K fx te E fun d E1 => Wp K fx tl E1 fun lo E2 => Wp K fx th E2 fun hi E3 => ∃ ds, d = .tup ds ∧ Q (.tup (cutD ds lo hi)) E3) : We K fx (tSl (rSlU K) te tl th) E Q := fun c G σ H X A P k =>
  h c G σ H X A _ fun v d E1 G1 H1 q1 A1 m1 r1 => q1 c G1 σ H1 X A1 _ fun lo E2 G2 H2 q2 A2 m2 => q2 c G2 σ H2 X A2 _ fun hi E3 G3 H3 q3 A3 m3 => by
    obtain ⟨ds, e, q⟩ := q3
    subst e
    cases r1.mono (m2.ex.trans m3.ex) with
    | @tup _ us _ h1 r1 =>
      refine .inr (.inl ⟨_, us, rfl, A3.ex.t h1, fun z => ?_, fun _ p hp => ?_⟩)
      · have e1 : cutV us lo hi = us := by
          unfold cutV
          rw [z.1, z.2]; simp
        have e2 : cutD ds lo hi = ds := by
          unfold cutD
          rw [← r1.length, z.1, z.2, r1.length]; simp
        rw [e2] at q
        exact k _ _ _ _ _ q A3 (m1.trans (m2.trans m3)) (.tup h1 r1)
      · have m := Mv.laid (c := c) (o := HO.tup (cutV us lo hi)) A3.ex hp
        exact k _ _ _ _ _ q (A3.move0 m (fun a u e => by rw [upd_ne (ne_of_none e hp)]; exact e)) ((m1.trans (m2.trans m3)).trans m.mw) (.tup (.inl (.inl upd_same)) ((r1.cut lo hi).mono m.ex))
theorem we_slS {tl th : TO} (h : We K fx te E fun d E1 => Wp K fx tl E1 fun lo E2 => Wp K fx th E2 fun hi E3 => ∃ z, d = .str z ∧ z.length ≤ 1000000 ∧ Q (.str (cutS z lo hi)) E3) : We K fx (tSl (rSlU K) te tl th) E Q := fun c G σ H X A P k =>
  h c G σ H X A _ fun v d E1 G1 H1 q1 A1 m1 r1 => q1 c G1 σ H1 X A1 _ fun lo E2 G2 H2 q2 A2 m2 => q2 c G2 σ H2 X A2 _ fun hi E3 G3 H3 q3 A3 m3 => by
    obtain ⟨z, e, hz, q⟩ := q3
    subst e
    cases r1
    exact .inr (.inr ⟨z, rfl, Nat.le_trans hz (by decide), k _ _ _ _ _ q A3 (m1.trans (m2.trans m3)) (.str _)⟩)
/-- list(range(a, b)) -/
def Wr (K : PySem.W.Frag) (fx : Fx) (tr : St → Hp → (Int → Int → Hp → Prop) → Prop) (E : Env) (Q : Int → Int → Env → Prop) : Prop :=
  ∀ (c : Cn) (G : Hp) (σ : St) (H : Hp), XOk K c fx → As K c G σ E H → ∀ P : Int → Int → Hp → Prop, (∀ a b E' G' H', Q a b E' → As K c G' σ E' H' → Mw c G H G' H' → P a b H') → tr σ H P
theorem wr_1 {Q : Int → Int → Env → Prop} (h : We K fx ta E fun d E' => ∃ n, d = .int n ∧ Q 0 n E') : Wr K fx (tRg1 ta) E Q := fun c G σ H X A P k =>
  h c G σ H X A _ fun v d E' G' H' q A' m r => by
    obtain ⟨i, e, q⟩ := q
    subst e
    cases r
    exact ⟨i, rfl, k _ _ _ _ _ q A' m⟩
theorem wr_2 {Q : Int → Int → Env → Prop} (h : We K fx ta E fun d E1 => We K fx tb E1 fun d' E' => ∃ m n, d = .int m ∧ d' = .int n ∧ Q m n E') : Wr K fx (tRg2 ta tb) E Q := fun c G σ H X A P k =>
  h c G σ H X A _ fun v d E1 G1 H1 q A1 m1 r1 => q c G1 σ H1 X A1 _ fun u d' E2 G2 H2 q2 A2 m2 r2 => by
    obtain ⟨i, j, e, e', q9⟩ := q2
    subst e e'
    cases r1; cases r2
    exact ⟨i, j, rfl, rfl, k _ _ _ _ _ q9 A2 (m1.trans m2)⟩
theorem wo_listRg {tr : St → Hp → (Int → Int → Hp → Prop) → Prop} (h : Wr K fx tr E fun a b E' => (-1000000 ≤ a ∧ a ≤ 1000000 ∧ -1000000 ≤ b ∧ b ≤ 1000000) ∧ O (rangeD a (b - a).toNat) E') : Wo K fx (tLstRg tr) E O := fun c G σ H X A P k =>
  h c G σ H X A _ fun a b E' G' H' q A' m => by
    obtain ⟨hb, q⟩ := q
    refine ⟨⟨by omega, by omega, by omega, by omega, by omega⟩, fun p hp => ?_⟩
    have m2 := Mv.hid (c := c) (o := HO.lst (rgV a b)) A'.ex hp
    refine k p _ _ _ _ _ q (A'.move0 m2 (fun a u e => by rw [upd_ne (ne_of_none e hp)]; exact e)) (m.trans m2.mw) ⟨A'.ex.free hp, B_free A' hp, own_free A' hp⟩ upd_same ?_
    have : ∀ l : List Nat, Rps K G' (l.map fun (i : Nat) => V.int (a + i)) (l.map fun (i : Nat) => D.int (a + i)) := by
      intro l
      induction l with
      | nil => exact .nil
      | cons x l ih => exact .cons (.int _) ih
    exact this _
end
end Z
end
section
namespace Z
open PySem L2
/-! ### the head's facts, and any more that are decided -/
def obsZ (n : Nat) (fa : List He.Fa) (fn : List He.DefD) (ex : PySem.W.Frag → Bool) (g : Addr → Option Obj) : He.AlD × Bool := (He.obsDG n fa fn g, ex (He.frG g (He.asD g n)))
def hookZ (n : Nat) (fa : List He.Fa) (fn : List He.DefD) (ex : PySem.W.Frag → Bool) : PySem.W.Hook where
  α := He.AlD × Bool
  obs := fun s => obsZ n fa fn ex s.heap.get?
  val := fun _ => (He.valD fn, true)
  says := fun _ h => ∃ K : PySem.W.Frag, K.In h ∧ He.SaysD fa fn K ∧ ex K = true
  of := fun _ _ e => ⟨_, He.frG_in, congrArg Prod.fst e, congrArg Prod.snd e⟩
  keeps := fun _ _ _ ⟨K, hK, c⟩ k => ⟨K, PySem.W.Frag.In.keeps hK k, c⟩
theorem obsZ_eq {n : Nat} {fa : List He.Fa} {fn : List He.DefD} {ex : PySem.W.Frag → Bool} {g : Addr → Option Obj} {s : Shared} (h : ∀ a, g a = s.heap.get? a) : obsZ n fa fn ex g = (hookZ n fa fn ex).obs s := by
  have e : g = s.heap.get? := funext h
  rw [e] <;> rfl
/-- a def that callers may call -/
structure Gd (P : Program) (w : World) (K : PySem.W.Frag) (mg : Str → Option Value) (base : Heap) (CX : CXT) (k : Nat) (d : He.DefD) (ps : List Str) (sp : Sp) (fd : FuncData) : Prop where
  ok : FnOk P w K mg base CX k (He.fAd K d.at_) fd ps sp
  fn : FunD K d.name d.qual d.params d.body d.scope (d.dvs K) (d.kws K) (He.fAd K d.at_) fd
/-! ### keywords -/
section
variable {X : Cx} {CX : CXT} {k n : Nat} {f : Addr} {fd : FuncData} {ps ks : List Str} {sp : Sp} {E : XK} {x : Str} {p pos : Pos} {kws : List Keyword} {tk : TA} {g : List Value → List Value → List Value} {gV : List V → List V → List V}
/-- f(k = v, ..) -/
theorem pe_callN0 (F : FnOk X.prog X.w X.K X.mg X.base CX k f fd ps sp) (hr : Room k X.A) (hg : Gl X x) (hm : X.mg x = some (.ref f)) (hk : PySem.W.keepIn X.K (.ref f) = true) (hb : KBn X.K fd ps 0 ks g gV) (hx : Passes CX X E)
    (hkw : PK X kws tk) (hall : (backToKw pos (keywordEach kws X.env)).all (·.1.isSome) = true := by rfl) (hks : (backToKw pos (keywordEach kws X.env)).filterMap (·.1) = ks := by rfl)
    (hdb : (x == ("__debug__" : Str)) = false := by decide) (hpl : ((backTo pos (starEach [] X.env)).any (·.1) || (backToKw pos (keywordEach kws X.env)).any (·.1.isNone)) = false := by rfl) :
    PE X (.Call (.Name x p) [] kws pos) (tCallN 0 ks.length sp gV E tNil tk) := by
  refine ⟨fun pins s σ H Q I h => ?_⟩
  refine wpAny_Call_Name_kw (ld_glob I hg hm ?_ hdb)
  refine PySem.W.callWith_KW0 (h₀ := X.base) I.ok.mod.kin hk hall ?_ hpl
  refine thn (hkw.run pos pins s σ H _ I h) fun ws s2 ⟨zs, H2, I2, rz, l1, l2, q2⟩ => ⟨I2.kIn, ?_⟩
  rw [hks]
  exact run_fnN F hr hb hx I2 .nil rz l1 l2 q2
end
theorem FunD_kb {K : PySem.W.Frag} {x qual : Str} {params : Arguments} {body : List Stmt} {scope : Scope} {kws : List (Str × V)} {f : Addr} {fd : FuncData} {ps ks : List Str} {n : Nat} (F : FunD K x qual params body scope [] kws f fd) (g : {α : Type} → List α → List α → List α)
    (hrel : ∀ {vs zs : List V} {us ws : List Value}, Vals vs us → Vals zs ws → Vals (g vs zs) (g us ws))
    (h : ∀ (kV doc pm : Value) (an : Option Addr) (cdv ct : Value) (us ws : List Value), us.length = n → ws.length = ks.length → bindArgs (PySem.W.fnOf x qual params body scope .none kV doc pm an cdv ct) ⟨us, ks.zip ws⟩ = pure (ps.zip (g us ws))) : KBn K fd ps n ks (fun us ws => g us ws) (fun vs zs => g vs zs) := by
  obtain ⟨oc, od, dV, kV, doc, pm, an, cdv, ct, osl, rfl, lk, hcd, hD, hK⟩ := F.ex
  rcases hD with ⟨_, rfl⟩ | ⟨e, _⟩
  · exact ⟨fun s us ws _ l1 l2 => .of_eq (h kV doc pm an cdv ct us ws l1 l2), hrel⟩
  · exact absurd rfl e
section
variable {α : Type} {K : PySem.W.Frag} {fx : Fx} {E : Env} {te ta tb : TE} {tt : TT} {c : Cn} {G H : Hp} {σ : St} {Q : D → Env → Prop} {O : List D → Env → Prop}
theorem we_callN {pm : Pm α} {EX : XK} {gV : List V → List V → List V} {gD : List D → List D → List D} {n m : Nat} {ta tk : TA} (hd : ∀ G vs zs ds es, Rps K G vs ds → Rps K G zs es → ds.length = n → es.length = m → Rps K G (gV vs zs) (gD ds es))
    (h : Wa K fx ta E fun ds E1 => Wa K fx tk E1 fun es E2 => ds.length = n ∧ es.length = m ∧ Called pm fx EX (gD ds es) E2 Q fun _ _ => False) : We K fx (tCallN n m (spD K pm) gV EX ta tk) E Q := fun c G σ H X A P k =>
  h c G σ H X A _ fun vs ds E1 G1 H1 q A1 m1 r1 => q c G1 σ H1 X A1 _ fun zs es E2 G2 H2 q2 A2 m2 r2 => by
    obtain ⟨l1, l2, q2⟩ := q2
    refine ⟨by rw [r1.length]; exact l1, by rw [r2.length]; exact l2, ?_⟩
    exact called X A2 (hd G2 _ _ _ _ (r1.mono m2.ex) r2 l1 l2) q2 (fun v d E' G' H' q A' m r => k _ _ _ _ _ q A' ((m1.trans m2).trans m) r) fun _ _ _ _ _ _ q => q.elim
/-! ### isinstance -/
/-- what isinstance asks of an own class -/
structure ObT (K : PySem.W.Frag) (C : Addr) : Prop where
  cl : Cls K C
  ha : PySem.W.findIn K (.ref C) "__class__" = some (some (.builtin "object.__class__"))
  hn : PySem.W.specialIn K (.builtin "object.__class__") "__get__" = some (some (.builtin "getset_descriptor.__get__"))
  htk : PySem.W.takesIn K (.builtin "object.__class__") = some true
  hm : PySem.W.mroIn K C (.type "object") = some true
inductive TyD (K : PySem.W.Frag) : D → Value → Prop where
  | non : TyD K .non (.type "NoneType")
  | bl (b : Bool) : TyD K (.bl b) (.type "bool")
  | int (i : Int) : TyD K (.int i) (.type "int")
  | str (x : Str) : TyD K (.str x) (.type "str")
  | lst (ds : List D) : TyD K (.lst ds) (.type "list")
  | tup (ds : List D) : TyD K (.tup ds) (.type "tuple")
  | ob {C : Addr} (fs : List (Str × D)) (h : ObT K C) : TyD K (.ob C fs) (.ref C)
  | ex {C : Addr} (fs : List (Str × D)) (h : ExcC K C) : TyD K (.ex C fs) (.ref C)
  | dk (ds : List (Key × D)) : TyD K (.dk ds) (.type "dict")
  | st (S : Int → Bool) (n : Nat) : TyD K (.st S n) (.type "set")
/-- the type of a value, kept errors among them -/
def TyE (K : PySem.W.Frag) (H : Hp) (x : V) (t : Value) : Prop := TyX K H x t ∨ ∃ (a : Addr) (oe : Obj) (D dd : Addr) (fs : List (Str × V)), x = .ref a ∧ H a = some (kept a oe) ∧ Zc (.ref D) (some dd) oe ∧ (∃ vs, oe.data = .fields vs) ∧ H dd = some (.xd fs) ∧ ExcC K D ∧ t = .ref D
theorem TyD.of (x : Ex G H) {v : V} {d : D} {t : Value} (r : Rp K G v d) (h : TyD K d t) : TyE K H v t := by
  cases h with
  | non => cases r; exact .inl (.base .non)
  | bl b => cases r; exact .inl (.base (.bl b))
  | int b => cases r; exact .inl (.base (.int b))
  | str b => cases r; exact .inl (.base (.str b))
  | lst ds => cases r with
    | lst h1 _ => exact .inl (.base (.lst (x _ _ h1)))
  | tup ds => cases r with
    | tup h1 _ =>
      rcases h1 with (h1 | ⟨o, h1⟩) | ⟨o, its, n, h1, h2, _⟩
      · exact .inl (.base (.tup (x _ _ h1)))
      · exact .inl (.fTuple (x _ _ h1))
      · exact .inl (.kTuple h1 h2)
  | ob fs h => cases r with
    | ob h1 _ => exact .inl (.base (.ins (x _ _ h1) h.cl h.ha h.hn h.htk h.hm))
  | ex fs h => cases r with
    | ex h1 h2 h3 h4 _ => exact .inr ⟨_, _, _, _, _, rfl, x _ _ h1, h2, h3, x _ _ h4, h, rfl⟩
  | dk ds => cases r with
    | dk h1 _ => exact .inl (.base (.dK (x _ _ h1)))
  | st S n => cases r with
    | st h1 => exact .inl (.set (x _ _ h1))
def isEx : D → Bool
  | .ex _ _ => true
  | _ => false
theorem TyD.ofX (x : Ex G H) {v : V} {d : D} {t : Value} (r : Rp K G v d) (h : TyD K d t) (hx : isEx d = false) : TyX K H v t := by
  rcases h.of x r with q | ⟨a, oe, D, dd, fs, rfl, h1, hz, hf, h4, hc, rfl⟩
  · exact q
  · cases h with
    | ex fs h => cases hx
    | ob fs h => cases r with
      | ob h5 _ => rw [x _ _ h5] at h1; cases h1
/-- isinstance(x, c), c a class or a tuple of classes -/
def rIsiU (K : PySem.W.Frag) : List V → Hp → VK → Prop := fun xs H Q => ∃ (x c : V) (t : Value) (b : Bool), xs = [x, c] ∧ TyE K H x t ∧
  ((∃ u, ClsV c u ∧ PySem.W.kitOne K t u = some b) ∨ ∃ (tp : Addr) (cs : List V) (us : List Value), c = .ref tp ∧ SqT K H tp cs ∧ Paired ClsV cs us ∧ PySem.W.kitAny K t us = some b) ∧ Q (.bl b) H
theorem call_isiU {X : Cx} : CallR X (.builtin "isinstance") (rIsiU X.K) := by
  intro pins s σ H xs us Q I r h
  obtain ⟨x, c, t, b, rfl, ty, hc, q⟩ := h
  obtain ⟨u1, u2, rfl, r1, r2⟩ := vals2 r
  obtain ⟨P, Z, p, hx⟩ : ∃ P : Heap → Prop, PySem.W.KitX X.K u1 t P ∧ P s.heap ∧ u1 ≠ .builtin "__main__.__loader__#opaque" := by
    rcases ty with ty | ⟨a, oe, D, dd, fs, rfl, ea, hz, ⟨vs, hv⟩, ed, C, rfl⟩
    · exact kit_of I r1 ty
    · cases (show u1 = Value.ref a from r1)
      obtain ⟨ha, _⟩ : ObjOk X.prog X.w H s.heap a (kept a oe) := I.hok a _ ea
      obtain ⟨mA, hns, _⟩ : ObjOk X.prog X.w H s.heap dd (.xd fs) := I.hok dd _ ed
      obtain ⟨od, ho, _⟩ := lookIn_ns hns
      have J : PySem.W.InstAt s.heap a oe D (some od) := ⟨ha, hz.1, by unfold PySem.W.notCls; rw [hv] <;> rfl, by rw [hz.2]; exact ho⟩
      have hcl : (PySem.W.clsIn X.K D).isSome = true := by obtain ⟨_, hc, _⟩ := PySem.W.any_some C.hd; rw [hc]; rfl
      exact ⟨_, PySem.W.kitx_exc hcl C.hg C.hk C.hs C.ha C.hn C.ht C.hm, J, fun z => nomatch z⟩
  rcases hc with ⟨u, k, e⟩ | ⟨tp, cs, us, rfl, hT, k, e⟩
  · have e2 := k.eq r2
    subst e2
    exact PySem.W.kia_one Z I.kIn p e hx fun tk => ⟨.bl b, H, I.tok tk, rfl, q⟩
  · cases (show u2 = Value.ref tp from r2)
    obtain ⟨its, rv, ⟨⟨oc, od, dt, sl⟩, h1, h2, n, h3⟩, _⟩ := I.tuple hT
    have e3 := ClsV.all k rv
    subst e3
    simp only at h2 h3
    subst h2 h3
    exact PySem.W.kia_tup Z I.kIn p h1 e hx fun tk => ⟨.bl b, H, I.tok tk, rfl, q⟩
inductive ClD : D → Value → Prop where
  | ty (n : String) : ClD (.ty n) (.type n)
  | ad (a : Addr) : ClD (.ad a) (.ref a)
theorem ClD.v {y : D} {u : Value} {w : V} (hu : ClD y u) (r : Rp K G w y) : ClsV w u := by
  cases hu with
  | ty n => cases r; exact .ty n
  | ad a => cases r; exact .own a
theorem rcb_isi {x y : D} {t u : Value} {b : Bool} (ht : TyD K x t) (hu : ClD y u) (hk : PySem.W.kitOne K t u = some b) (h : Q (.bl b) E) : Rcb K fx (rIsiU K) [x, y] E Q := fun c G σ H X A vs r P k => by
  obtain ⟨v, w, e, ra, rb⟩ := two r
  subst e
  exact ⟨v, w, t, b, rfl, ht.of A.ex ra, .inl ⟨u, hu.v rb, hk⟩, k _ _ _ _ _ h A Mw.refl (.bl b)⟩
theorem cls_all {vs : List V} {ys : List D} {us : List Value} (p : Paired ClD ys us) (r : Rps K G vs ys) : Paired ClsV vs us := by
  induction p generalizing vs with
  | nil => cases r; exact .nil
  | cons h _ ih => cases r with
    | cons a b => exact .cons (h.v a) (ih b)
/-- isinstance(x, (T, ..)) -/
theorem rcb_isiM {x : D} {ys : List D} {t : Value} {us : List Value} {b : Bool} (ht : TyD K x t) (hu : Paired ClD ys us) (hk : PySem.W.kitAny K t us = some b) (h : Q (.bl b) E) : Rcb K fx (rIsiU K) [x, .tup ys] E Q := fun c G σ H X A vs r P k => by
  obtain ⟨v, w, e, ra, rb⟩ := two r
  subst e
  cases rb with
  | tup h1 r1 => exact ⟨v, _, t, b, rfl, ht.of A.ex ra, .inr ⟨_, _, us, rfl, A.ex.t h1, cls_all hu r1, hk⟩, k _ _ _ _ _ h A Mw.refl (.bl b)⟩
/-- isinstance(x, (T, U)) -/
theorem we_isiT {n1 n2 : String} (h : We K fx te E fun d E1 => ∃ t b, TyD K d t ∧ PySem.W.kitAny K t [.type n1, .type n2] = some b ∧ Q (.bl b) E1) : We K fx (tCB (rIsiU K) (tCons te (tCons (tTup (tCons (tC (.ty n1)) (tCons (tC (.ty n2)) tNil))) tNil))) E Q := fun c G σ H X A P k =>
  h c G σ H X A _ fun v d E1 G1 H1 q A1 m1 r1 => by
    obtain ⟨t, b, ht, hk, q⟩ := q
    refine ⟨by show 2 ≤ sizeLine; decide, fun p hp => ?_⟩
    have m := Mv.laid (c := c) (o := HO.tup [.ty n1, .ty n2]) A1.ex hp
    refine ⟨v, .ref p, t, b, rfl, ht.of (Ex.trans A1.ex (Ex.new hp)) r1, .inr ⟨p, [.ty n1, .ty n2], [.type n1, .type n2], rfl, .inl (.inl upd_same), .cons (.ty _) (.cons (.ty _) .nil), hk⟩, ?_⟩
    exact k _ _ _ _ _ q (A1.move0 m (fun a u e => by rw [upd_ne (ne_of_none e hp)]; exact e)) (m1.trans m.mw) (.bl b)
end
end Z
end
section
namespace Z
open PySem L2
section
variable {α : Type} {K : PySem.W.Frag} {fx : Fx} {E : Env} {te ta tb : TE} {tt : TT} {u : TS} {c : Cn} {G H : Hp} {σ : St} {P : Po} {Q : D → Env → Prop} {O : List D → Env → Prop}
/-! ### the tap -/
theorem As.tapAt {t : Addr} (A : As K c G σ E H) (X : XOk K c fx) (hF : fx.F = some t) : TapAt t c.ca E.n H ∧ G c.ca = some (.lst (fx.cells.map V.int)) ∧ c.B t ≠ none ∧ G t = none := by
  have e : c.F = some t := by rw [X.1.1]; exact hF
  obtain ⟨b1, b2, b3, b4⟩ := A.tB t e
  have T := A.tap
  unfold TapOk at T
  rw [e] at T
  rw [X.1.2] at b3
  exact ⟨T, A.g0 _ _ b3, b1, A.sep t b1 b2⟩
theorem at0 {α : Type} {x y z : α} : atI [x, y, z] 0 = some x := rfl
theorem at1 {α : Type} {x y z : α} : atI [x, y, z] 1 = some y := rfl
theorem at2 {α : Type} {x y z : α} : atI [x, y, z] 2 = some z := rfl
theorem we_tap0 {i : Nat} {t : Addr} (hF : fx.F = some t) (e : E.sl[i]? = some (.d (.ad t))) (h : Q (.lst (zs fx.cells)) E) : We K fx (tOp (rIx K) (tVar i) (tC (.int 0))) E Q := fun c G σ H X A P k => by
  obtain ⟨v, e1, r⟩ := A.var e
  cases r
  obtain ⟨⟨spot, left, h1, _⟩, hc, _⟩ := A.tapAt X hF
  exact ⟨_, e1, .inl ⟨t, _, 0, _, rfl, rfl, .inl (.inl h1), at0, k _ _ _ _ _ h A Mw.refl (.lst hc (ints_rps _))⟩⟩
theorem we_tap1 {i : Nat} {t : Addr} (hF : fx.F = some t) (e : E.sl[i]? = some (.d (.ad t))) (h : ∀ s : Int, 0 ≤ s → s ≤ E.n → Q (.int s) E) : We K fx (tOp (rIx K) (tVar i) (tC (.int 1))) E Q := fun c G σ H X A P k => by
  obtain ⟨v, e1, r⟩ := A.var e
  cases r
  obtain ⟨⟨spot, left, h1, h2, h3, h4⟩, hc, _⟩ := A.tapAt X hF
  exact ⟨_, e1, .inl ⟨t, _, 1, _, rfl, rfl, .inl (.inl h1), at1, k _ _ _ _ _ (h spot h2 h3) A Mw.refl (.int _)⟩⟩
theorem we_tap2 {i : Nat} {t : Addr} (hF : fx.F = some t) (e : E.sl[i]? = some (.d (.ad t))) (h : ∀ s : Int, 0 ≤ s → Q (.int s) E) : We K fx (tOp (rIx K) (tVar i) (tC (.int 2))) E Q := fun c G σ H X A P k => by
  obtain ⟨v, e1, r⟩ := A.var e
  cases r
  obtain ⟨⟨spot, left, h1, h2, h3, h4⟩, hc, _⟩ := A.tapAt X hF
  exact ⟨_, e1, .inl ⟨t, _, 2, _, rfl, rfl, .inl (.inl h1), at2, k _ _ _ _ _ (h left h4) A Mw.refl (.int _)⟩⟩
theorem As.turn {t : Addr} (A : As K c G σ E H) (X : XOk K c fx) (hF : fx.F = some t) {vs : List V} {n : Nat} (hn : TapAt t c.ca n (upd H t (.lst vs))) : As K c G σ (E.at n) (upd H t (.lst vs)) := by
  have e : c.F = some t := by rw [X.1.1]; exact hF
  obtain ⟨⟨_, _, hh, _⟩, _, hb, hg⟩ := A.tapAt X hF
  have hw : ∀ a o, H a = some o → a ≠ t → upd H t (.lst vs) a = some o := fun a o z y => by rw [upd_ne y]; exact z
  refine ⟨fun a o z => hw a o (A.ex a o z) fun y => (by subst y; rw [hg] at z; cases z), A.g0, fun a o z f kk => hw a o (A.keep a o z f kk) fun y => (by subst y; exact f e), A.sep, A.tB, A.len, fun i s z => ?_, A.ne, ?_, A.gt, A.st, tabs_lst A.tb hh⟩
  · have w := A.sl i s z
    cases s with
    | no => trivial
    | d x => exact w
    | own ds =>
      obtain ⟨p, us, a1, a2, a3, a4, a5⟩ := w
      exact ⟨p, us, a1, a2, a3, hw _ _ a4 (fun y => by subst y; exact hb a3), a5⟩
    | slf p C fs =>
      obtain ⟨dx, us, a1, a2, a3, a4, a5⟩ := w
      exact ⟨dx, us, a1, a2, a3, hw _ _ a4 (fun y => by subst y; exact hb a3), a5⟩
  · unfold TapOk
    rw [e]
    exact hn
theorem ws_tap1 {i : Nat} {t : Addr} (hF : fx.F = some t) (h : We K fx te E fun d E' => E'.sl[i]? = some (.d (.ad t)) ∧ ∃ (s : Int) (m : Nat), d = .int s ∧ 0 ≤ s ∧ s ≤ m ∧ P.nx (E'.at m)) : Ws K fx (tAsg te (gSub (tVar i) (tC (.int 1)) rSetL)) E P := fun c G σ H Z X A k =>
  h c G σ H X A _ fun v d E' G' H' q A' m r => by
    obtain ⟨e, s, m', ed, h0, hm, q⟩ := q
    subst ed
    cases r
    obtain ⟨w, e1, r1⟩ := A'.var e
    cases r1
    obtain ⟨⟨spot, left, h1, h2, h3, h4⟩, hc, _⟩ := A'.tapAt X hF
    refine ⟨_, e1, t, _, 1, 1, rfl, rfl, h1, rfl, ?_⟩
    exact k.nx _ _ _ _ q (A'.turn X hF ⟨s, left, upd_same, h0, hm, h4⟩) m.ex
theorem ws_tap2 {i : Nat} {t : Addr} (hF : fx.F = some t) (h : We K fx te E fun d E' => E'.sl[i]? = some (.d (.ad t)) ∧ ∃ (s : Int), d = .int s ∧ 0 ≤ s ∧ P.nx E') : Ws K fx (tAsg te (gSub (tVar i) (tC (.int 2)) rSetL)) E P := fun c G σ H Z X A k =>
  h c G σ H X A _ fun v d E' G' H' q A' m r => by
    obtain ⟨e, s, ed, h0, q⟩ := q
    subst ed
    cases r
    obtain ⟨w, e1, r1⟩ := A'.var e
    cases r1
    obtain ⟨⟨spot, left, h1, h2, h3, h4⟩, hc, _⟩ := A'.tapAt X hF
    refine ⟨_, e1, t, _, 2, 2, rfl, rfl, h1, rfl, ?_⟩
    exact k.nx _ _ _ _ q (A'.turn X hF (n := E'.n) ⟨spot, s, upd_same, h2, h3, h0⟩) m.ex
/-- a list of its own becomes the tap -/
theorem ws_tap {i : Nat} {cells : List Int} {T : List (Addr × Str)} {EX : XK} {xp : Addr → List (Str × D) → Nat → Prop} {n : Nat} (e : E.sl[i]? = some (.own [.lst (zs cells), .int 0, .int 0])) (hl : cells.length ≤ 63) (hx : ∀ C f n, ¬ xp C f n)
    (h : ∀ t, Ws K ⟨some t, EX, xp, cells, T⟩ u ((E.set i (.d (.ad t))).at n) P) : Ws K ⟨none, EX, xp, [], T⟩ u E P := fun c G σ H Z X A k => by
  obtain ⟨t, vs, e1, g, b, ht, r⟩ := A.own e
  have hcF : c.F = none := X.1.1
  obtain ⟨ca, e2, hca⟩ : ∃ ca, vs = [.ref ca, .int 0, .int 0] ∧ G ca = some (.lst (cells.map V.int)) := by
    cases r with
    | cons r1 r =>
      cases r with
      | cons r2 r =>
        cases r with
        | cons r3 r =>
          cases r; cases r2; cases r3
          cases r1 with
          | lst h1 h2 =>
            rw [rps_ints h2] at h1
            exact ⟨_, rfl, h1⟩
  subst e2
  let c' : Cn := ⟨some t, upd c.B t (.lst []), G, ca, cells, c.T⟩
  have bk : ∀ a, a ≠ t → c'.B a = c.B a := fun a q => upd_ne q
  have bt : c'.B t = some (.lst []) := upd_same
  have A' : As K c' G σ ((E.set i (.d (.ad t))).at n) H := by
    refine ⟨A.ex, Ex.refl _, fun a o z f kk => ?_, fun a _ z => z, fun t' f => ?_, by simp [Env.set, Env.at, A.len], fun j s z => ?_, fun j k s1 s2 y e1 e2 o1 o2 g1 g2 => ?_, ⟨0, 0, ht, Int.le_refl _, by omega, Int.le_refl _⟩, fun _ _ e => e, fun hT => ⟨fun a ps e => (A.st hT).1 a ps (A.gt a ps e), fun a ps e => ?_⟩, A.tb⟩
    · have q : a ≠ t := fun q => by subst q; exact f rfl
      exact A.keep a o (by rw [← bk a q]; exact z) (by rw [hcF]; simp) kk
    · have q : t' = t := by cases f; rfl
      subst q
      exact ⟨by rw [bt]; simp, g, hca, hl⟩
    · rcases setS_get z with ⟨z1, l, z2⟩ | ⟨z1, z2⟩
      · subst z1 z2
        exact ⟨.ref t, get_join.mpr e1, .ad t⟩
      · have w := A.sl j s z2
        cases s with
        | no => trivial
        | d y => exact w
        | own fs =>
          obtain ⟨p', vs', a1, a2, a3, a4, a5⟩ := w
          have : p' ≠ t := fun y => by
            subst y
            exact z1 ⟨A.ne i j _ _ p' e z2 trivial trivial e1 (get_join.mp a1), (List.getElem?_eq_some_iff.mp e).1⟩
          exact ⟨p', vs', a1, a2, (bk p' this).trans a3, a4, a5⟩
        | slf p' C' fs =>
          obtain ⟨dx', vs', a1, a2, a3, a4, a5⟩ := w
          have : p' ≠ t := fun y => by subst y; rw [ht] at a4; cases a4
          exact ⟨dx', vs', a1, a2, (bk p' this).trans a3, a4, a5⟩
    · rcases setS_get e1 with ⟨_, _, z1⟩ | ⟨_, z1⟩
      · subst z1; exact o1.elim
      · rcases setS_get e2 with ⟨_, _, z2⟩ | ⟨_, z2⟩
        · subst z2; exact o2.elim
        · exact A.ne j k s1 s2 y z1 z2 o1 o2 g1 g2
    · by_cases q : a = t
      · subst q; rw [bt] at e; cases e
      · rw [bk a q] at e; exact (A.st hT).2 a ps e
  have back : ∀ {E' : Env} {G' : Hp} {σ' : St} {H' : Hp}, As K c' G' σ' E' H' → As K c G' σ' E' H' := by
    intro E' G' σ' H' B
    refine ⟨B.ex, A.g0.trans B.g0, fun a o z _ kk => ?_, fun a z z0 => ?_, fun t' f => (by rw [hcF] at f; cases f), B.len, fun j s z => ?_, B.ne, (by unfold TapOk; rw [hcF]; trivial), fun a ps e => A.gt a ps (B.gt a ps e), A.st, B.tb⟩
    · have q : a ≠ t := fun q => by subst q; rw [b] at z; cases z
      exact B.keep a o ((bk a q).trans z) (fun f => q (by cases f; rfl)) kk
    · have q : a ≠ t := fun q => by subst q; exact z b
      exact B.sep a (by rw [bk a q]; exact z) (A.sep a z z0)
    · have w := B.sl j s z
      cases s with
      | no => trivial
      | d y => exact w
      | own fs =>
        obtain ⟨p', vs', a1, a2, a3, a4, a5⟩ := w
        have : p' ≠ t := fun y => by subst y; rw [bt] at a3; cases a3
        exact ⟨p', vs', a1, a2, (bk p' this).symm.trans a3, a4, a5⟩
      | slf p' C' fs =>
        obtain ⟨dx', vs', a1, a2, a3, a4, a5⟩ := w
        have : p' ≠ t := fun y => by subst y; rw [bt] at a3; cases a3
        exact ⟨dx', vs', a1, a2, (bk p' this).symm.trans a3, a4, a5⟩
  refine h t c' G σ H Z ⟨⟨rfl, rfl⟩, fun C fs fds d G' σ' E' H' q => absurd q (hx C fds E'.n), X.2.2⟩ A' ⟨fun E' G' σ' H' q B x => k.nx _ _ _ _ q (back B) x, fun v d E' G' σ' H' q B r => k.rt _ _ _ _ _ _ q (back B) r, fun p vs ds E' G' σ' H' q B g b' hp r => ?_, fun E' G' σ' H' q B x => k.bk _ _ _ _ q (back B) x, fun E' G' σ' H' q B x => k.ct _ _ _ _ q (back B) x⟩
  have : p ≠ t := fun y => by subst y; rw [bt] at b'; cases b'
  exact k.ro _ _ _ _ _ _ _ q (back B) g ((bk p this).symm.trans b') hp r
/-! ### the law -/
def spL (K : PySem.W.Frag) : Sp := fun vs H Q _ => ∃ (a : Addr) (ns : List Int), vs = [.ref a] ∧ SqL K H a (ns.map V.int) ∧ ns.length ≤ 63 ∧ ∀ H', Q (.bl true) H'
theorem spL_len {K : PySem.W.Frag} : ∀ vs H Q EX, spL K vs H Q EX → vs.length = 1 := fun vs H Q EX ⟨a, ns, e, _⟩ => by rw [e]; rfl
theorem spL_of {H : Hp} {a : Addr} {ns : List Int} {p : Prop} (hl : ns.length ≤ 63) (_ : p) (hS : SqL K H a (ns.map V.int)) : spL K [.ref a] H (fun v _ => v = .bl true) fun _ _ _ => False := ⟨a, ns, rfl, hS, hl, fun _ => rfl⟩
theorem bodyL {N : List Str} {vs : List V} {Q : VK} {EX : XK} {t : TS} (h : spL K vs H Q EX) (b : ∀ ns : List Int, ns.length ≤ 63 → Ws K ⟨none, EX, fun _ _ _ => False, [], []⟩ t (env0 N [.scr ns] 0) { nx := fun _ => False, rt := fun d _ => d = .bl true }) :
    t { nx := fun _ H' => Q .non H', rt := Q } (L2.start N vs) H := by
  obtain ⟨a, ns, e, hs, hl, hQ⟩ := h
  subst e
  have A := as_start (K := K) (F := none) (ca := 0) (cells := []) (N := N) (n := 0) (Ex.refl H) (.cons (.scr hs) .nil) (fun t f => by cases f) (B := fun _ => none) (fun a o z => by cases z) (fun t f => by cases f) (T := []) (fun h => absurd rfl h) (fun _ h => nomatch h)
  refine b ns hl _ H _ H _ ⟨⟨rfl, rfl⟩, fun _ _ _ _ _ _ _ _ q => q.elim, rfl⟩ A ⟨fun _ _ _ _ q => q.elim, fun v d E' G' σ' H' q A' r => ?_, fun _ _ _ _ _ _ _ q => q.elim, fun _ _ _ _ q => q.elim, fun _ _ _ _ q => q.elim⟩
  subst q
  cases r
  exact hQ H'
/-- script[a:b] -/
theorem wo_slR {tl th : TO} (h : We K fx te E fun d E1 => Wp K fx tl E1 fun lo E2 => Wp K fx th E2 fun hi E3 => ∃ ns, d = .scr ns ∧ O (cutD (zs ns) lo hi) E3) : Wo K fx (tSl (rSlU K) te tl th) E O := fun c G σ H X A P k =>
  h c G σ H X A _ fun v d E1 G1 H1 q1 A1 m1 r1 => q1 c G1 σ H1 X A1 _ fun lo E2 G2 H2 q2 A2 m2 => q2 c G2 σ H2 X A2 _ fun hi E3 G3 H3 q3 A3 m3 => by
    obtain ⟨ns, e, q⟩ := q3
    subst e
    cases r1.mono (m2.ex.trans m3.ex) with
    | scr h1 =>
      refine .inl ⟨_, ns.map V.int, rfl, A3.ex.l h1, fun p hp => ?_⟩
      have m := Mv.hid (c := c) (o := HO.lst (cutV (ns.map V.int) lo hi)) A3.ex hp
      exact k p _ _ _ _ _ q (A3.move0 m (fun a u e => by rw [upd_ne (ne_of_none e hp)]; exact e)) ((m1.trans (m2.trans m3)).trans m.mw) ⟨A3.ex.free hp, B_free A3 hp, own_free A3 hp⟩ upd_same ((ints_rps ns).cut lo hi)
end
theorem binds_all {K : PySem.W.Frag} {x qual : Str} {params : Arguments} {body : List Stmt} {scope : Scope} {dvs : List V} {kws : List (Str × V)} {f : Addr} {fd : FuncData} {ps : List Str} (F : FunD K x qual params body scope dvs kws f fd)
    (h : ∀ (dV kV doc pm : Value) (an : Option Addr) (cdv ct : Value) (us : List Value), us.length = ps.length → bindArgs (PySem.W.fnOf x qual params body scope dV kV doc pm an cdv ct) ⟨us, []⟩ = pure (ps.zip us)) : Binds K fd ps [] := by
  obtain ⟨oc, od, dV, kV, doc, pm, an, cdv, ct, osl, rfl, lk, hcd, hD, hK⟩ := F.ex
  exact .all (h dV kV doc pm an cdv ct)
section
variable {X : Cx}
theorem call_intU : CallR X (.type "int") rIntU := call_int1
end
end Z
end
section
namespace Z
open PySem L2
section
variable {K : PySem.W.Frag} {fx : Fx} {E : Env} {Q : D → Env → Prop}
theorem isi_non_int  (h : Q (.bl false) E) : Rcb K fx (rIsiU K) [.non, .ty "int"] E Q := rcb_isi (.non) (.ty _) (kit_ty (by decide +kernel)) h
theorem isi_non_bool  (h : Q (.bl false) E) : Rcb K fx (rIsiU K) [.non, .ty "bool"] E Q := rcb_isi (.non) (.ty _) (kit_ty (by decide +kernel)) h
theorem isi_non_str  (h : Q (.bl false) E) : Rcb K fx (rIsiU K) [.non, .ty "str"] E Q := rcb_isi (.non) (.ty _) (kit_ty (by decide +kernel)) h
theorem isi_non_list  (h : Q (.bl false) E) : Rcb K fx (rIsiU K) [.non, .ty "list"] E Q := rcb_isi (.non) (.ty _) (kit_ty (by decide +kernel)) h
theorem isi_non_tuple  (h : Q (.bl false) E) : Rcb K fx (rIsiU K) [.non, .ty "tuple"] E Q := rcb_isi (.non) (.ty _) (kit_ty (by decide +kernel)) h
theorem isi_non_dict  (h : Q (.bl false) E) : Rcb K fx (rIsiU K) [.non, .ty "dict"] E Q := rcb_isi (.non) (.ty _) (kit_ty (by decide +kernel)) h
theorem isiT_non {R : Bool → Prop}  (h : R false) : ∃ t r, TyD K (.non) t ∧ PySem.W.kitAny K t [.type "list", .type "tuple"] = some r ∧ R r := ⟨_, false, .non, kitAny_cons (b := false) (kit_ty (by decide +kernel)) (fun e => kitAny_cons (b := false) (kit_ty (by decide +kernel)) (fun e => kitAny_nil) (fun e => nomatch e)) (fun e => nomatch e), h⟩
theorem isi_bl_int {b : Bool} (h : Q (.bl true) E) : Rcb K fx (rIsiU K) [.bl b, .ty "int"] E Q := rcb_isi (.bl b) (.ty _) (kit_ty (by decide +kernel)) h
theorem isi_bl_bool {b : Bool} (h : Q (.bl true) E) : Rcb K fx (rIsiU K) [.bl b, .ty "bool"] E Q := rcb_isi (.bl b) (.ty _) (kit_ty (by decide +kernel)) h
theorem isi_bl_str {b : Bool} (h : Q (.bl false) E) : Rcb K fx (rIsiU K) [.bl b, .ty "str"] E Q := rcb_isi (.bl b) (.ty _) (kit_ty (by decide +kernel)) h
theorem isi_bl_list {b : Bool} (h : Q (.bl false) E) : Rcb K fx (rIsiU K) [.bl b, .ty "list"] E Q := rcb_isi (.bl b) (.ty _) (kit_ty (by decide +kernel)) h
theorem isi_bl_tuple {b : Bool} (h : Q (.bl false) E) : Rcb K fx (rIsiU K) [.bl b, .ty "tuple"] E Q := rcb_isi (.bl b) (.ty _) (kit_ty (by decide +kernel)) h
theorem isi_bl_dict {b : Bool} (h : Q (.bl false) E) : Rcb K fx (rIsiU K) [.bl b, .ty "dict"] E Q := rcb_isi (.bl b) (.ty _) (kit_ty (by decide +kernel)) h
theorem isiT_bl {R : Bool → Prop} {b : Bool} (h : R false) : ∃ t r, TyD K (.bl b) t ∧ PySem.W.kitAny K t [.type "list", .type "tuple"] = some r ∧ R r := ⟨_, false, .bl b, kitAny_cons (b := false) (kit_ty (by decide +kernel)) (fun e => kitAny_cons (b := false) (kit_ty (by decide +kernel)) (fun e => kitAny_nil) (fun e => nomatch e)) (fun e => nomatch e), h⟩
theorem isi_int_int {i : Int} (h : Q (.bl true) E) : Rcb K fx (rIsiU K) [.int i, .ty "int"] E Q := rcb_isi (.int i) (.ty _) (kit_ty (by decide +kernel)) h
theorem isi_int_bool {i : Int} (h : Q (.bl false) E) : Rcb K fx (rIsiU K) [.int i, .ty "bool"] E Q := rcb_isi (.int i) (.ty _) (kit_ty (by decide +kernel)) h
theorem isi_int_str {i : Int} (h : Q (.bl false) E) : Rcb K fx (rIsiU K) [.int i, .ty "str"] E Q := rcb_isi (.int i) (.ty _) (kit_ty (by decide +kernel)) h
theorem isi_int_list {i : Int} (h : Q (.bl false) E) : Rcb K fx (rIsiU K) [.int i, .ty "list"] E Q := rcb_isi (.int i) (.ty _) (kit_ty (by decide +kernel)) h
theorem isi_int_tuple {i : Int} (h : Q (.bl false) E) : Rcb K fx (rIsiU K) [.int i, .ty "tuple"] E Q := rcb_isi (.int i) (.ty _) (kit_ty (by decide +kernel)) h
theorem isi_int_dict {i : Int} (h : Q (.bl false) E) : Rcb K fx (rIsiU K) [.int i, .ty "dict"] E Q := rcb_isi (.int i) (.ty _) (kit_ty (by decide +kernel)) h
theorem isiT_int {R : Bool → Prop} {i : Int} (h : R false) : ∃ t r, TyD K (.int i) t ∧ PySem.W.kitAny K t [.type "list", .type "tuple"] = some r ∧ R r := ⟨_, false, .int i, kitAny_cons (b := false) (kit_ty (by decide +kernel)) (fun e => kitAny_cons (b := false) (kit_ty (by decide +kernel)) (fun e => kitAny_nil) (fun e => nomatch e)) (fun e => nomatch e), h⟩
theorem isi_str_int {x : Str} (h : Q (.bl false) E) : Rcb K fx (rIsiU K) [.str x, .ty "int"] E Q := rcb_isi (.str x) (.ty _) (kit_ty (by decide +kernel)) h
theorem isi_str_bool {x : Str} (h : Q (.bl false) E) : Rcb K fx (rIsiU K) [.str x, .ty "bool"] E Q := rcb_isi (.str x) (.ty _) (kit_ty (by decide +kernel)) h
theorem isi_str_str {x : Str} (h : Q (.bl true) E) : Rcb K fx (rIsiU K) [.str x, .ty "str"] E Q := rcb_isi (.str x) (.ty _) (kit_ty (by decide +kernel)) h
theorem isi_str_list {x : Str} (h : Q (.bl false) E) : Rcb K fx (rIsiU K) [.str x, .ty "list"] E Q := rcb_isi (.str x) (.ty _) (kit_ty (by decide +kernel)) h
theorem isi_str_tuple {x : Str} (h : Q (.bl false) E) : Rcb K fx (rIsiU K) [.str x, .ty "tuple"] E Q := rcb_isi (.str x) (.ty _) (kit_ty (by decide +kernel)) h
theorem isi_str_dict {x : Str} (h : Q (.bl false) E) : Rcb K fx (rIsiU K) [.str x, .ty "dict"] E Q := rcb_isi (.str x) (.ty _) (kit_ty (by decide +kernel)) h
theorem isiT_str {R : Bool → Prop} {x : Str} (h : R false) : ∃ t r, TyD K (.str x) t ∧ PySem.W.kitAny K t [.type "list", .type "tuple"] = some r ∧ R r := ⟨_, false, .str x, kitAny_cons (b := false) (kit_ty (by decide +kernel)) (fun e => kitAny_cons (b := false) (kit_ty (by decide +kernel)) (fun e => kitAny_nil) (fun e => nomatch e)) (fun e => nomatch e), h⟩
theorem isi_lst_int {ds : List D} (h : Q (.bl false) E) : Rcb K fx (rIsiU K) [.lst ds, .ty "int"] E Q := rcb_isi (.lst ds) (.ty _) (kit_ty (by decide +kernel)) h
theorem isi_lst_bool {ds : List D} (h : Q (.bl false) E) : Rcb K fx (rIsiU K) [.lst ds, .ty "bool"] E Q := rcb_isi (.lst ds) (.ty _) (kit_ty (by decide +kernel)) h
theorem isi_lst_str {ds : List D} (h : Q (.bl false) E) : Rcb K fx (rIsiU K) [.lst ds, .ty "str"] E Q := rcb_isi (.lst ds) (.ty _) (kit_ty (by decide +kernel)) h
theorem isi_lst_list {ds : List D} (h : Q (.bl true) E) : Rcb K fx (rIsiU K) [.lst ds, .ty "list"] E Q := rcb_isi (.lst ds) (.ty _) (kit_ty (by decide +kernel)) h
theorem isi_lst_tuple {ds : List D} (h : Q (.bl false) E) : Rcb K fx (rIsiU K) [.lst ds, .ty "tuple"] E Q := rcb_isi (.lst ds) (.ty _) (kit_ty (by decide +kernel)) h
theorem isi_lst_dict {ds : List D} (h : Q (.bl false) E) : Rcb K fx (rIsiU K) [.lst ds, .ty "dict"] E Q := rcb_isi (.lst ds) (.ty _) (kit_ty (by decide +kernel)) h
theorem isiT_lst {R : Bool → Prop} {ds : List D} (h : R true) : ∃ t r, TyD K (.lst ds) t ∧ PySem.W.kitAny K t [.type "list", .type "tuple"] = some r ∧ R r := ⟨_, true, .lst ds, kitAny_cons (b := true) (kit_ty (by decide +kernel)) (fun e => nomatch e) (fun e => rfl), h⟩
theorem isi_tup_int {ds : List D} (h : Q (.bl false) E) : Rcb K fx (rIsiU K) [.tup ds, .ty "int"] E Q := rcb_isi (.tup ds) (.ty _) (kit_ty (by decide +kernel)) h
theorem isi_tup_bool {ds : List D} (h : Q (.bl false) E) : Rcb K fx (rIsiU K) [.tup ds, .ty "bool"] E Q := rcb_isi (.tup ds) (.ty _) (kit_ty (by decide +kernel)) h
theorem isi_tup_str {ds : List D} (h : Q (.bl false) E) : Rcb K fx (rIsiU K) [.tup ds, .ty "str"] E Q := rcb_isi (.tup ds) (.ty _) (kit_ty (by decide +kernel)) h
theorem isi_tup_list {ds : List D} (h : Q (.bl false) E) : Rcb K fx (rIsiU K) [.tup ds, .ty "list"] E Q := rcb_isi (.tup ds) (.ty _) (kit_ty (by decide +kernel)) h
theorem isi_tup_tuple {ds : List D} (h : Q (.bl true) E) : Rcb K fx (rIsiU K) [.tup ds, .ty "tuple"] E Q := rcb_isi (.tup ds) (.ty _) (kit_ty (by decide +kernel)) h
theorem isi_tup_dict {ds : List D} (h : Q (.bl false) E) : Rcb K fx (rIsiU K) [.tup ds, .ty "dict"] E Q := rcb_isi (.tup ds) (.ty _) (kit_ty (by decide +kernel)) h
theorem isiT_tup {R : Bool → Prop} {ds : List D} (h : R true) : ∃ t r, TyD K (.tup ds) t ∧ PySem.W.kitAny K t [.type "list", .type "tuple"] = some r ∧ R r := ⟨_, true, .tup ds, kitAny_cons (b := false) (kit_ty (by decide +kernel)) (fun e => kitAny_cons (b := true) (kit_ty (by decide +kernel)) (fun e => nomatch e) (fun e => rfl)) (fun e => nomatch e), h⟩
end
end Z
end
section
namespace Z
open PySem L2
theorem bT {B : Bool} {A C : Prop} (e : B = true) (h : A) : (B = true → A) ∧ (B = false → C) := ⟨fun _ => h, fun z => by rw [e] at z; cases z⟩
theorem bF {B : Bool} {A C : Prop} (e : B = false) (h : C) : (B = true → A) ∧ (B = false → C) := ⟨fun z => (by rw [e] at z; cases z), fun _ => h⟩
theorem b1 {A C : Prop} (h : A) : (true = true → A) ∧ (true = false → C) := bT rfl h
theorem b0 {A C : Prop} (h : C) : (false = true → A) ∧ (false = false → C) := bF rfl h
theorem bN0 {A C : Prop} (h : A) : ((!false) = true → A) ∧ ((!false) = false → C) := bT rfl h
theorem bN1 {A C : Prop} (h : C) : ((!true) = true → A) ∧ ((!true) = false → C) := bF rfl h
section
variable {K : PySem.W.Frag} {fx : Fx} {E : Env} {Q : D → Env → Prop}
theorem rop_isN_non (h : Q (.bl true) E) : Rop K fx rIsNU .non .non E Q := rop_isN h
theorem rop_isN_int {i : Int} (h : Q (.bl false) E) : Rop K fx rIsNU (.int i) .non E Q := rop_isN h
theorem rop_notN_non (h : Q (.bl false) E) : Rop K fx rNotNU .non .non E Q := rop_notN h
theorem rop_notN_int {i : Int} (h : Q (.bl true) E) : Rop K fx rNotNU (.int i) .non E Q := rop_notN h
end
section
variable {α : Type} {K : PySem.W.Frag} {fx : Fx} {E : Env} {EX : XK} {Q : D → Env → Prop} {O : List D → Env → Prop} {ds : List D}
/-- a def that hands back just this datum, draws nothing, raises nothing -/
def pmX (args : α → List D) (p : α → Prop) (r : α → D) : Pm α := { args := args, pre := fun a F _ => F = none ∧ p a, post := fun a _ d _ => d = r a }
theorem called_X {args : α → List D} {p : α → Prop} {r : α → D} (a : α) (e : ds = args a) (h : Q (r a) E) (hp : p a) : Called (pmX args p r) fx EX ds E Q fun _ _ => False :=
  ⟨a, none, e, .inl rfl, .inl rfl, ⟨rfl, hp⟩, fun d n' hd => by
    have hd' : d = r a := hd
    subst hd'
    rw [if_pos rfl]
    exact h, fun _ _ q => q.elim, fun _ _ _ q => q.elim⟩
/-- a def that hands back a list of its own, just this one -/
def pmO (args : α → List D) (p : α → Prop) (r : α → List D) : Pm α := { args := args, pre := fun a F _ => F = none ∧ p a, own := fun a _ d _ => d = r a }
theorem called_O {args : α → List D} {p : α → Prop} {r : α → List D} (a : α) (e : ds = args a) (h : O (r a) E) (hp : p a) : Called (pmO args p r) fx EX ds E (fun _ _ => False) O :=
  ⟨a, none, e, .inl rfl, .inl rfl, ⟨rfl, hp⟩, fun _ _ q => q.elim, fun d n' hd => by
    have hd' : d = r a := hd
    subst hd'
    rw [if_pos rfl]
    exact h, fun _ _ _ q => q.elim⟩
/-- a def that draws: at most m times; what it hands back is so -/
def pmT (m : Nat) (args : α → Addr → List D) (p : α → Prop) (post : α → D → Prop) : Pm (α × Addr) := { args := fun a => args a.1 a.2, pre := fun a F n => F = some a.2 ∧ n + m ≤ 1000000 ∧ p a.1, post := fun a n d n' => n' = n + m ∧ post a.1 d }
theorem called_T {m : Nat} {args : α → Addr → List D} {p : α → Prop} {post : α → D → Prop} {t : Addr} (a : α) (hF : fx.F = some t) (e : ds = args a t) (h : ∀ d, post a d → Q d (E.up m)) (hp : p a) (hn : E.n + m ≤ 1000000) : Called (pmT m args p post) fx EX ds E Q fun _ _ => False :=
  ⟨(a, t), some t, e, .inr hF.symm, .inl rfl, ⟨rfl, hn, hp⟩, fun d n' hd => by
    rw [if_neg (by simp), hd.1]
    exact h d hd.2, fun _ _ q => q.elim, fun _ _ _ q => q.elim⟩
/-- the same, a list of its own handed back -/
def pmTO (m : Nat) (args : α → Addr → List D) (p : α → Prop) (post : α → List D → Prop) : Pm (α × Addr) := { args := fun a => args a.1 a.2, pre := fun a F n => F = some a.2 ∧ n + m ≤ 1000000 ∧ p a.1, own := fun a n d n' => n' = n + m ∧ post a.1 d }
theorem called_TO {m : Nat} {args : α → Addr → List D} {p : α → Prop} {post : α → List D → Prop} {t : Addr} (a : α) (hF : fx.F = some t) (e : ds = args a t) (h : ∀ d, post a d → O d (E.up m)) (hp : p a) (hn : E.n + m ≤ 1000000) : Called (pmTO m args p post) fx EX ds E (fun _ _ => False) O :=
  ⟨(a, t), some t, e, .inr hF.symm, .inl rfl, ⟨rfl, hn, hp⟩, fun _ _ q => q.elim, fun d n' hd => by
    rw [if_neg (by simp), hd.1]
    exact h d hd.2, fun _ _ _ q => q.elim⟩
/-- an instance, just with these fields -/
def piX (C : Addr) (args : α → List D) (p : α → Prop) (r : α → List (Str × D)) : Pi α := { args := args, pre := fun a C' => C' = C ∧ p a, post := fun a _ fs => fs = r a }
theorem making {args : α → List D} {p : α → Prop} {r : α → List (Str × D)} {C : Addr} {Q' : List (Str × D) → Prop} {X' : Addr → List (Str × D) → Prop} (a : α) (e : ds = args a) (h : Q' (r a)) (hp : p a) :
    ∃ a, ds = (piX C args p r).args a ∧ (piX C args p r).pre a C ∧ (∀ fs, (piX C args p r).post a C fs → Q' fs) ∧ ∀ C' f, (piX C args p r).exc a C C' f → X' C' f :=
  ⟨a, e, ⟨rfl, hp⟩, fun fs hf => by
    have hf' : fs = r a := hf
    subst hf'
    exact h, fun _ _ q => q.elim⟩
end
end Z
end
section
namespace Z
open PySem L2
section
variable {α : Type} {K : PySem.W.Frag} {fx : Fx} {E : Env} {te ta tb : TE} {tt : TT} {t u : TS} {c : Cn} {G H : Hp} {σ : St} {P : Po} {Q : D → Env → Prop} {O : List D → Env → Prop}
/-- [e for x in ..]: the i-th is the i-th of res -/
theorem wo_map {wi : TI} {j : Nat} (h : Wi K fx wi E fun its E1 => its.length ≤ 100000 ∧ (∀ s, E1.sl[j]? = some s → ¬ isOwn s) ∧ ∃ res : List D, res.length = its.length ∧
    (∀ (i : Nat) (d : D), its[i]? = some d → We K fx te ⟨(E1.sl.set j .no).set j (.d d), E1.n⟩ fun y E4 => res[i]? = some y ∧ E4.n = E1.n ∧ E4.sl.set j .no = E1.sl.set j .no) ∧ O res E1) : Wo K fx (tLc wi (gName j) tYes te [j]) E O := by
  refine wo_lc (js := [j]) fun c G σ H X A R k => h c G σ H X A R fun J its E' G' H' q => k J its E' G' H' ?_
  obtain ⟨hl, hn, res, hr, hs, hO⟩ := q
  refine ⟨fun i hi => hi, hl, fun i hi s hz => ?_, fun i acc n => acc = res.take i ∧ n = E'.n, ⟨rfl, rfl⟩, ?_, ?_⟩
  · have : i = j := by simpa using hi
    subst this
    exact hn s hz
  · rintro i d acc n hd ha ⟨rfl, rfl⟩
    refine wg_name ?_
    intro c G σ H X A P k
    refine k true _ G H ⟨fun _ => ?_, fun z => by cases z⟩ A Mw.refl
    refine We.mono (hs i d hd) ?_
    rintro y E4 ⟨h1, h2, h3⟩
    refine ⟨h3, ?_, h2⟩
    have hi : i < res.length := (List.getElem?_eq_some_iff.mp h1).1
    rw [List.take_succ, h1]
    rfl
  · rintro acc n _ ⟨rfl, rfl⟩
    rw [← hr, List.take_length]
    exact hO
/-- [draw for x in ..]: each is so, each draws m times at most -/
theorem wo_draw {wi : TI} {j m : Nat} (p : D → Prop) (h : Wi K fx wi E fun its E1 => its.length ≤ 100000 ∧ (∀ s, E1.sl[j]? = some s → ¬ isOwn s) ∧
    (∀ i d n, its[i]? = some d → n ≤ E1.n + m * i → We K fx te ⟨(E1.sl.set j .no).set j (.d d), n⟩ fun y E4 => p y ∧ E4.n ≤ n + m ∧ E4.sl.set j .no = E1.sl.set j .no) ∧ ∀ res n, res.length = its.length → (∀ y ∈ res, p y) → n ≤ E1.n + m * its.length → O res (E1.at n)) : Wo K fx (tLc wi (gName j) tYes te [j]) E O := by
  refine wo_lc (js := [j]) fun c G σ H X A R k => h c G σ H X A R fun J its E' G' H' q => k J its E' G' H' ?_
  obtain ⟨hl, hn, hs, hO⟩ := q
  refine ⟨fun i hi => hi, hl, fun i hi s hz => ?_, fun i acc n => acc.length = i ∧ (∀ y ∈ acc, p y) ∧ n ≤ E'.n + m * i, ⟨rfl, fun y hy => (by cases hy), by simp⟩, ?_, ?_⟩
  · have : i = j := by simpa using hi
    subst this
    exact hn s hz
  · rintro i d acc n hd ha ⟨h1, h2, h3⟩
    refine wg_name ?_
    intro c G σ H X A P k
    refine k true _ G H ⟨fun _ => ?_, fun z => by cases z⟩ A Mw.refl
    refine We.mono (hs i d n hd h3) ?_
    rintro y E4 ⟨q1, q2, q3⟩
    refine ⟨q3, by rw [List.length_append, h1]; rfl, fun z hz => ?_, ?_⟩
    · rcases List.mem_append.mp hz with hz | hz
      · exact h2 z hz
      · have : z = y := by simpa using hz
        rw [this]; exact q1
    · rw [Nat.mul_succ]; omega
  · rintro acc n _ ⟨h1, h2, h3⟩
    exact hO acc n h1 h2 h3
/-- the tap's bound may be taken greater -/
theorem As.more {n : Nat} (A : As K c G σ E H) (h : E.n ≤ n) : As K c G σ (E.at n) H := by
  refine ⟨A.ex, A.g0, A.keep, A.sep, A.tB, A.len, A.sl, A.ne, ?_, A.gt, A.st, A.tb⟩
  have T := A.tap
  unfold TapOk at T ⊢
  cases f : c.F with
  | none => trivial
  | some t =>
    rw [f] at T
    obtain ⟨spot, left, h1, h2, h3, h4⟩ := T
    exact ⟨spot, left, h1, h2, by show spot ≤ (n : Int); omega, h4⟩
theorem ws_more {n : Nat} (h : E.n ≤ n) (q : Ws K fx t (E.at n) P) : Ws K fx t E P := fun c G σ H Z X A k => q c G σ H Z X (A.more h) k
theorem we_more {n : Nat} (h : E.n ≤ n) (q : We K fx te (E.at n) Q) : We K fx te E Q := fun c G σ H X A P k => q c G σ H X (A.more h) P k
/-- a slot's list becomes known -/
theorem ws_freeze {i : Nat} {ds : List D} (e : E.sl[i]? = some (.own ds)) (h : Ws K fx t (E.set i (.d (.lst ds))) P) : Ws K fx t E P := fun c G σ H Z X A k => by
  obtain ⟨p, vs, e1, r, A', m, q⟩ := A.freeze e
  exact h c _ σ H Z X A' (k.up m.ex)
theorem zs_get {ns : List Int} {i : Nat} {d : D} (h : (zs ns)[i]? = some d) : ∃ x, ns[i]? = some x ∧ d = .int x := by
  unfold zs at h
  rw [List.getElem?_map] at h
  cases e : ns[i]? with
  | none => rw [e] at h; cases h
  | some x => rw [e] at h; exact ⟨x, rfl, (Option.some.inj h).symm⟩
theorem zs_at {ns : List Int} {i : Nat} {x : Int} (h : ns[i]? = some x) : (zs ns)[i]? = some (.int x) := by unfold zs; rw [List.getElem?_map, h]; rfl
theorem zs_atI {ns : List Int} {i : Int} {x : Int} (h : atI ns i = some x) : atI (zs ns) i = some (.int x) := by
  unfold atI at h ⊢
  rw [zs_length]
  rw [Option.bind_eq_some_iff] at h ⊢
  obtain ⟨j, h1, h2⟩ := h
  exact ⟨j, h1, zs_at h2⟩
theorem rg_get {lo : Int} {n i : Nat} {d : D} (h : (rangeD lo n)[i]? = some d) : i < n ∧ d = .int (lo + i) := by
  have hi : i < n := by
    have := (List.getElem?_eq_some_iff.mp h).1
    rwa [rangeD_length] at this
  rw [rangeD_get hi] at h
  exact ⟨hi, (Option.some.inj h).symm⟩
theorem zs_app (a b : List Int) : zs a ++ zs b = zs (a ++ b) := by simp [zs]
theorem zs_cut (a : List Int) (lo hi : Option Int) : cutD (zs a) lo hi = zs ((a.drop (HT.sIx a.length 0 lo)).take (HT.sIx a.length a.length hi - HT.sIx a.length 0 lo)) := by
  unfold cutD
  rw [zs_length]
  simp [zs, List.map_take, List.map_drop]
theorem of_zs {ds : List D} (h : ∀ y ∈ ds, ∃ i : Int, y = .int i) : ∃ ns, ds = zs ns := by
  induction ds with
  | nil => exact ⟨[], rfl⟩
  | cons d r ih =>
    obtain ⟨ns, e⟩ := ih fun y hy => h y (List.mem_cons_of_mem _ hy)
    obtain ⟨i, e'⟩ := h d List.mem_cons_self
    exact ⟨i :: ns, by rw [e, e']; rfl⟩
theorem of_zsP {ds : List D} {p : Int → Prop} (h : ∀ y ∈ ds, ∃ i : Int, y = .int i ∧ p i) : ∃ ns, ds = zs ns ∧ ∀ i ∈ ns, p i := by
  induction ds with
  | nil => exact ⟨[], rfl, fun _ h => by cases h⟩
  | cons d r ih =>
    obtain ⟨ns, e, q⟩ := ih fun y hy => h y (List.mem_cons_of_mem _ hy)
    obtain ⟨i, e', q'⟩ := h d List.mem_cons_self
    refine ⟨i :: ns, by rw [e, e']; rfl, fun x hx => ?_⟩
    rcases List.mem_cons.mp hx with hx | hx
    · rw [hx]; exact q'
    · exact q x hx
/-- a list or a tuple of ints -/
def sq (b : Bool) (ns : List Int) : D := if b then .tup (zs ns) else .lst (zs ns)
end
end Z
namespace Z
open PySem L2
theorem kit_self {K : PySem.W.Frag} {C : Addr} : PySem.W.kitOne K (.ref C) (.ref C) = some true := by
  unfold PySem.W.kitOne
  rw [if_pos (by simp)]
end Z
end
section
namespace Z
open PySem L2 PyProof.Rows
/-! ### min, max, sum of a tuple of ints -/
section
variable {prog : Program} {w : World} {A : Around} {E : Value → Shared → Prop} {s : Shared} {l : Addr} {xs : Array (Int × Tok)} {its : List Value} {ns : List Int}
theorem iter_intTup {Q : Value → Shared → Prop} (hl : s.heap.IsTuple l (intItems xs))
    (h : ∀ s₂ : Shared, s₂ = { s with heap := s.heap.push { cls := .type "tuple_iterator", data := .fields #[.ref l, .int 0 0] } } →
      (s₂.heap.IsTupleIter s.heap.objs.size l 0 ∧ s₂.heap.IsTuple l (intItems xs)) → (∀ b ∈ [s.heap.objs.size, l], b < s₂.heap.objs.size) → l ≠ s.heap.objs.size → Q (.ref s.heap.objs.size) s₂) :
    wpAny (model prog w) A (pyIter (.ref l)) Q E s := by
  have hlt : l < s.heap.objs.size := by obtain ⟨_, e, _⟩ := hl; exact Heap.lt_size e
  refine wpAny_pyIter_tuple hl (h _ rfl ⟨⟨_, Heap.get?_push_size _ rfl, rfl, rfl⟩, hl.push _⟩ (fun b hb => ?_) (Nat.ne_of_lt hlt))
  show b < (s.heap.push _).objs.size
  rw [Heap.size_push]
  rcases List.mem_cons.mp hb with rfl | hb
  · exact Nat.lt_succ_self _
  · rcases List.mem_cons.mp hb with rfl | hb
    · exact Nat.lt_succ_of_lt hlt
    · cases hb
theorem old_keptT {h' : Heap} (hk : ∀ b o, b ∉ [s.heap.objs.size] → (s.heap.push { cls := .type "tuple_iterator", data := .fields #[.ref l, .int 0 0] }).get? b = some o → h'.get? b = some o) :
    ∀ b o, s.heap.get? b = some o → h'.get? b = some o := fun b o e => by
  refine hk b o (fun hm => ?_) (Heap.get?_push_of_some _ e)
  rcases List.mem_cons.mp hm with e1 | hm
  · exact absurd (e1 ▸ Heap.lt_size e) (Nat.lt_irrefl _)
  · cases hm
theorem max_intTup {Q : Value → Shared → Prop} (hh : A.handled = none) (hl : s.heap.IsTuple l (intItems xs)) (hne : 0 < xs.size)
    (h : ∀ v h' tk, (intItems xs)[argBest (fun i j => decide (numAt xs i > numAt xs j)) (xs.size - 1)]? = some v → (∀ b o, s.heap.get? b = some o → h'.get? b = some o) → Q v { s with heap := h', toks := tk }) :
    wpAny (model prog w) A (call (.builtin "max") [.ref l]) Q E s := by
  refine call_max_walk (iter_intTup hl fun s₂ e st hfp hlI => ?_)
  subst e
  refine ⟨_, _, _, _, _, _, _, rfl, Walks.tuple (A := A.in1) hh _ l hlI (intItems xs), st, hfp, by simpa [intItems] using hne, CmpOf.ints_gt (numAt xs) (fun _ _ => intItems_at), fun v h' tk hP hk => ?_⟩
  exact h v h' tk (by simpa [intItems] using hP) (old_keptT hk)
theorem min_intTup {Q : Value → Shared → Prop} (hh : A.handled = none) (hl : s.heap.IsTuple l (intItems xs)) (hne : 0 < xs.size)
    (h : ∀ v h' tk, (intItems xs)[argBest (fun i j => decide (numAt xs i < numAt xs j)) (xs.size - 1)]? = some v → (∀ b o, s.heap.get? b = some o → h'.get? b = some o) → Q v { s with heap := h', toks := tk }) :
    wpAny (model prog w) A (call (.builtin "min") [.ref l]) Q E s := by
  refine call_min_walk (iter_intTup hl fun s₂ e st hfp hlI => ?_)
  subst e
  refine ⟨_, _, _, _, _, _, _, rfl, Walks.tuple (A := A.in1) hh _ l hlI (intItems xs), st, hfp, by simpa [intItems] using hne, CmpOf.ints_lt (numAt xs) (fun _ _ => intItems_at), fun v h' tk hP hk => ?_⟩
  exact h v h' tk (by simpa [intItems] using hP) (old_keptT hk)
theorem maxT_raw (hh : A.handled = none) (hl : s.heap.IsTuple l its.toArray) (hi : IntsAre its ns) (hne : 0 < ns.length) {Q : Value → Shared → Prop}
    (h : ∀ h' tk M t', (∀ b o, s.heap.get? b = some o → h'.get? b = some o) → M ∈ ns → (∀ a, a ∈ ns → a ≤ M) → Q (.int M t') { s with heap := h', toks := tk }) : wpAny (model prog w) A (call (.builtin "max") [.ref l]) Q E s := by
  obtain ⟨xs, e⟩ := hi.allInts.items
  have hn : numsOf (intItems xs).toList = ns := by rw [← e]; exact hi.numsOf
  rw [nums_intItems] at hn
  subst hn
  rw [e] at hl
  have hsz : 0 < xs.size := by simpa using hne
  refine max_intTup hh hl hsz fun v h' tk hv hk => ?_
  obtain ⟨t, rfl⟩ := intItems_at hv
  obtain ⟨h1, h2⟩ := argBest_gt (numAt xs) (xs.size - 1)
  refine h h' tk _ t hk ?_ fun a ha => ?_
  · rw [numAt_eq]; exact PySem.getD_mem (by rw [List.length_map, Array.length_toList]; omega)
  · obtain ⟨j, hj, rfl⟩ := mem_getD ha
    rw [List.length_map, Array.length_toList] at hj
    rw [← numAt_eq]; exact h2 j (by omega)
theorem minT_raw (hh : A.handled = none) (hl : s.heap.IsTuple l its.toArray) (hi : IntsAre its ns) (hne : 0 < ns.length) {Q : Value → Shared → Prop}
    (h : ∀ h' tk M t', (∀ b o, s.heap.get? b = some o → h'.get? b = some o) → M ∈ ns → (∀ a, a ∈ ns → M ≤ a) → Q (.int M t') { s with heap := h', toks := tk }) : wpAny (model prog w) A (call (.builtin "min") [.ref l]) Q E s := by
  obtain ⟨xs, e⟩ := hi.allInts.items
  have hn : numsOf (intItems xs).toList = ns := by rw [← e]; exact hi.numsOf
  rw [nums_intItems] at hn
  subst hn
  rw [e] at hl
  have hsz : 0 < xs.size := by simpa using hne
  refine min_intTup hh hl hsz fun v h' tk hv hk => ?_
  obtain ⟨t, rfl⟩ := intItems_at hv
  obtain ⟨h1, h2⟩ := argBest_lt (numAt xs) (xs.size - 1)
  refine h h' tk _ t hk ?_ fun a ha => ?_
  · rw [numAt_eq]; exact PySem.getD_mem (by rw [List.length_map, Array.length_toList]; omega)
  · obtain ⟨j, hj, rfl⟩ := mem_getD ha
    rw [List.length_map, Array.length_toList] at hj
    rw [← numAt_eq]; exact h2 j (by omega)
end
section
variable {X : Cx}
def rMaxT (K : PySem.W.Frag) : List V → Hp → VK → Prop := fun vs H Q => ∃ (a : Addr) (ns : List Int), vs = [V.ref a] ∧ SqT K H a (ns.map V.int) ∧ 0 < ns.length ∧ ∀ m, m ∈ ns → (∀ y, y ∈ ns → y ≤ m) → Q (.int m) H
def rMinT (K : PySem.W.Frag) : List V → Hp → VK → Prop := fun vs H Q => ∃ (a : Addr) (ns : List Int), vs = [V.ref a] ∧ SqT K H a (ns.map V.int) ∧ 0 < ns.length ∧ ∀ m, m ∈ ns → (∀ y, y ∈ ns → m ≤ y) → Q (.int m) H
theorem cr_maxT (hc : X.calm = true) : CallR X (.builtin "max") (rMaxT X.K) := by
  intro pins s σ H vs us Q I r h
  obtain ⟨a, ns, rfl, hs, hne, q⟩ := h
  obtain ⟨its, rv, hl, _⟩ := I.tuple hs
  rw [Vals.ref1 r]
  exact maxT_raw (I.ok.hd hc) hl rv.ints hne fun h' tk m t' hk h1 h2 => ⟨.int _, H, I.kept hk, ⟨_, rfl⟩, q m h1 h2⟩
theorem cr_minT (hc : X.calm = true) : CallR X (.builtin "min") (rMinT X.K) := by
  intro pins s σ H vs us Q I r h
  obtain ⟨a, ns, rfl, hs, hne, q⟩ := h
  obtain ⟨its, rv, hl, _⟩ := I.tuple hs
  rw [Vals.ref1 r]
  exact minT_raw (I.ok.hd hc) hl rv.ints hne fun h' tk m t' hk h1 h2 => ⟨.int _, H, I.kept hk, ⟨_, rfl⟩, q m h1 h2⟩
def rMaxU (K : PySem.W.Frag) : List V → Hp → VK → Prop := fun vs H Q => rMax K vs H Q ∨ rMaxT K vs H Q
def rMinU (K : PySem.W.Frag) : List V → Hp → VK → Prop := fun vs H Q => rMin K vs H Q ∨ rMinT K vs H Q
theorem cr_maxU (hc : X.calm = true) : CallR X (.builtin "max") (rMaxU X.K) := (cr_max hc).or (cr_maxT hc)
theorem cr_minU (hc : X.calm = true) : CallR X (.builtin "min") (rMinU X.K) := (cr_min hc).or (cr_minT hc)
end
section
variable {K : PySem.W.Frag} {fx : Fx} {E : Env} {te ta tb : TE} {tt : TT} {c : Cn} {G H : Hp} {σ : L2.St} {Q : D → Env → Prop} {O : List D → Env → Prop}
theorem rcb_max {d : D} {ns : List Int} (e : isSeq d (zs ns)) (hn : 0 < ns.length) (h : ∀ m ∈ ns, (∀ y ∈ ns, y ≤ m) → Q (.int m) E) : Rcb K fx (rMaxU K) [d] E Q := fun c G σ H X A vs r P k => by
  obtain ⟨v, e', rr⟩ := one r
  subst e'
  rcases e with e | e
  · subst e
    cases rr with
    | @lst _ us _ h1 r1 =>
      rw [rps_ints r1] at h1
      exact .inl ⟨_, ns, rfl, .inl (.inl (A.ex _ _ h1)), hn, fun m a b => k _ _ _ _ _ (h m a b) A Mw.refl (.int _)⟩
  · subst e
    cases rr with
    | @tup _ us _ h1 r1 =>
      rw [rps_ints r1] at h1
      exact .inr ⟨_, ns, rfl, A.ex.t h1, hn, fun m a b => k _ _ _ _ _ (h m a b) A Mw.refl (.int _)⟩
theorem rcb_min {d : D} {ns : List Int} (e : isSeq d (zs ns)) (hn : 0 < ns.length) (h : ∀ m ∈ ns, (∀ y ∈ ns, m ≤ y) → Q (.int m) E) : Rcb K fx (rMinU K) [d] E Q := fun c G σ H X A vs r P k => by
  obtain ⟨v, e', rr⟩ := one r
  subst e'
  rcases e with e | e
  · subst e
    cases rr with
    | @lst _ us _ h1 r1 =>
      rw [rps_ints r1] at h1
      exact .inl ⟨_, ns, rfl, .inl (.inl (A.ex _ _ h1)), hn, fun m a b => k _ _ _ _ _ (h m a b) A Mw.refl (.int _)⟩
  · subst e
    cases rr with
    | @tup _ us _ h1 r1 =>
      rw [rps_ints r1] at h1
      exact .inr ⟨_, ns, rfl, A.ex.t h1, hn, fun m a b => k _ _ _ _ _ (h m a b) A Mw.refl (.int _)⟩
end
end Z
namespace Z
open PySem L2
/-! ### x in xs -/
section
variable {X : Cx}
def rInU (K : PySem.W.Frag) : R2 := fun x y H Q => (∃ d ds, Dp K H x d ∧ (Dp K H y (.list ds) ∨ Dp K H y (.tuple ds)) ∧ PyData.canLayAll0 ds = true ∧ d.canLay0 = true ∧ d.depth ≤ 60 ∧ Q (.bl (ds.any fun z => PyData.eqv z d)) H) ∨ ∃ i j, x = .str i ∧ y = .str j ∧ Q (.bl (!(Builtin.Str.occurrences j i 0 j.length 1).isEmpty)) H
def rNiU (K : PySem.W.Frag) : R2 := fun x y H Q => (∃ d ds, Dp K H x d ∧ (Dp K H y (.list ds) ∨ Dp K H y (.tuple ds)) ∧ PyData.canLayAll0 ds = true ∧ d.canLay0 = true ∧ d.depth ≤ 60 ∧ Q (.bl (!ds.any fun z => PyData.eqv z d)) H) ∨ ∃ i j, x = .str i ∧ y = .str j ∧ Q (.bl (!(!(Builtin.Str.occurrences j i 0 j.length 1).isEmpty))) H
theorem op_inU (hu : X.A.units + 64 < cLine) : OpR X (compareOp .In) (rInU X.K) := by
  intro pins s σ H x y v u Q I rx ry h
  rcases h with ⟨d, ds, hd, he, se, sd, hdep, q⟩ | h
  · obtain ⟨as, r1⟩ := Dp.reads I d x v hd rx
    have hroom : X.A.units + 1 + min (PyData.depthAll ds) d.depth < cLine := by
      have := Nat.min_le_right (PyData.depthAll ds) d.depth
      omega
    rcases he with he | he
    · obtain ⟨bs, r2⟩ := Dp.reads I (.list ds) y u he ry
      exact SeqAt.in_list_reads r2 r1 se sd hroom ⟨.bl _, H, I, rfl, q⟩
    · obtain ⟨bs, r2⟩ := Dp.reads I (.tuple ds) y u he ry
      exact SeqAt.in_tuple_reads r2 r1 se sd hroom ⟨.bl _, H, I, rfl, q⟩
  · exact op_in_str pins s σ H x y v u Q I rx ry h
theorem op_niU (hu : X.A.units + 64 < cLine) : OpR X (compareOp .NotIn) (rNiU X.K) := by
  intro pins s σ H x y v u Q I rx ry h
  rcases h with ⟨d, ds, hd, he, se, sd, hdep, q⟩ | h
  · obtain ⟨as, r1⟩ := Dp.reads I d x v hd rx
    have hroom : X.A.units + 1 + min (PyData.depthAll ds) d.depth < cLine := by
      have := Nat.min_le_right (PyData.depthAll ds) d.depth
      omega
    rcases he with he | he
    · obtain ⟨bs, r2⟩ := Dp.reads I (.list ds) y u he ry
      exact SeqAt.notIn_list_reads r2 r1 se sd hroom ⟨.bl _, H, I, rfl, q⟩
    · obtain ⟨bs, r2⟩ := Dp.reads I (.tuple ds) y u he ry
      exact SeqAt.notIn_tuple_reads r2 r1 se sd hroom ⟨.bl _, H, I, rfl, q⟩
  · exact op_notIn_str pins s σ H x y v u Q I rx ry h
end
theorem any_py (x : D) : ∀ ds : List D, (pys ds).any (fun z => PyData.eqv z (py x)) = ds.any fun z => deq z x
  | [] => by simp [pys]
  | d :: ds => by
    rw [pys, List.any_cons, List.any_cons, any_py x ds]
    rfl
theorem seq_dp {K : PySem.W.Frag} {G H : Hp} {n : Nat} (x : Ex G H) {v : V} {y : D} {ds : List D} (e : isSeq y ds) (r : Rp K G v y) (hy : dats n ds = true) : Dp K H v (.list (pys ds)) ∨ Dp K H v (.tuple (pys ds)) := by
  rcases e with e | e
  · subst e
    cases r with
    | lst h r => exact .inl (.lst (.inl (.inl (x _ _ h))) (r.dp (n := n) x hy))
  · subst e
    cases r with
    | tup h r => exact .inr (.tup (x.t h) (r.dp (n := n) x hy))
section
variable {K : PySem.W.Frag} {fx : Fx} {E : Env} {te ta tb : TE} {tt : TT} {c : Cn} {G H : Hp} {σ : L2.St} {Q : D → Env → Prop} {O : List D → Env → Prop}
theorem rop_in {x y : D} {ds : List D} (e : isSeq y ds) (hx : dat 60 x = true) (hy : dats 60 ds = true) (h : Q (.bl (ds.any fun z => deq z x)) E) : Rop K fx (rInU K) x y E Q := fun c G σ H X A v u rv ru P k =>
  .inl ⟨py x, pys ds, rv.dp A.ex hx, seq_dp A.ex e ru hy, (dats_ok ds 60 hy).1, (dat_ok x 60 hx).1, (dat_ok x 60 hx).2, by
    rw [any_py]
    exact k _ _ _ _ _ h A Mw.refl (.bl _)⟩
theorem rop_ni {x y : D} {ds : List D} (e : isSeq y ds) (hx : dat 60 x = true) (hy : dats 60 ds = true) (h : Q (.bl (!ds.any fun z => deq z x)) E) : Rop K fx (rNiU K) x y E Q := fun c G σ H X A v u rv ru P k =>
  .inl ⟨py x, pys ds, rv.dp A.ex hx, seq_dp A.ex e ru hy, (dats_ok ds 60 hy).1, (dat_ok x 60 hx).1, (dat_ok x 60 hx).2, by
    rw [any_py]
    exact k _ _ _ _ _ h A Mw.refl (.bl _)⟩
/-! sorted of texts -/
def rSortedU (K : PySem.W.Frag) : RC := fun vs H Q => rSortedI K vs H Q ∨ rSortedS K vs H Q
theorem cr_sortedU {X : Cx} : CallR X (.builtin "sorted") (rSortedU X.K) := cr_sortedI.or cr_sortedS
theorem rco_sortedI {ns : List Int} (h : ∀ ns' : List Int, ns'.Perm ns → ns'.Pairwise (· ≤ ·) → O (zs ns') E) : Rco K fx (rSortedU K) [.lst (zs ns)] E O := fun c G σ H X A vs r P k => .inl (rco_sorted h c G σ H X A vs r P k)
theorem rco_sortedS {xs : List Str} (hl : xs.length < 64) (h : ∀ ys : List Str, ys.Perm xs → PyProof.Rows.sortedS ys = true → O (ys.map D.str) E) : Rco K fx (rSortedU K) [.lst (xs.map D.str)] E O := fun c G σ H X A vs r P k => by
  obtain ⟨v, e', rr⟩ := one r
  subst e'
  cases rr with
  | lst h1 r1 =>
    rw [rps_strs r1] at h1
    refine .inr ⟨_, xs, rfl, .inl (.inl (A.ex _ _ h1)), hl, fun ys p h2 h3 hp => ?_⟩
    have m := Mv.hid (c := c) (o := HO.lst (ys.map V.str)) A.ex hp
    exact k p _ _ _ _ _ (h ys h2 h3) (A.move0 m (fun a u e => by rw [upd_ne (ne_of_none e hp)]; exact e)) m.mw ⟨A.ex.free hp, B_free A hp, own_free A hp⟩ upd_same (strs_rps ys)
/-! range with a step above 0 -/
def rangeC (lo c : Int) (n : Nat) : List D := (List.range n).map fun (i : Nat) => D.int (lo + c * i)
theorem rangeC_length (lo c : Int) (n : Nat) : (rangeC lo c n).length = n := by simp [rangeC]
theorem rangeC_get {lo c : Int} {n i : Nat} (h : i < n) : (rangeC lo c n)[i]? = some (.int (lo + c * i)) := by simp [rangeC, h]
theorem rc_get {lo c : Int} {n i : Nat} {d : D} (h : (rangeC lo c n)[i]? = some d) : i < n ∧ d = .int (lo + c * i) := by
  have hi : i < n := by
    have := (List.getElem?_eq_some_iff.mp h).1
    rwa [rangeC_length] at this
  rw [rangeC_get hi] at h
  exact ⟨hi, (Option.some.inj h).symm⟩
theorem walk_c (lo c : Int) (n : Nat) : Walk K G (rangeC lo c n) (Itc lo c n) := by
  intro H i x
  rw [rangeC_length]
  exact ⟨fun hi => ⟨hi, fun y H' ⟨e, q⟩ => ⟨_, rangeC_get hi, .inl ⟨e, by subst q; rw [show lo + (i : Int) * c = lo + c * (i : Int) by rw [Int.mul_comm]]; exact .int _⟩⟩⟩, fun hi => hi⟩
theorem wi_r3 {ta : TA} {Q : List D → Env → Prop} (h : Wa K fx ta E fun ds E' => ∃ (i j c : Int) (n : Nat), ds = [.int i, .int j, .int c] ∧ RgC i j c n ∧ Q (rangeC i c n) E') : Wi K fx (iRng3 ta) E Q := fun c G σ H X A R k =>
  h c G σ H X A _ fun vs ds E' G' H' q A' m r => by
    obtain ⟨i, j, cc, n, e, hj, q⟩ := q
    subst e
    cases r with
    | cons r rr =>
      cases rr with
      | cons r' rr =>
        cases rr with
        | cons r'' rr =>
          cases rr
          cases r
          cases r'
          cases r''
          exact ⟨i, j, cc, n, rfl, hj, k _ _ _ _ _ q A' m (walk_c i cc n)⟩
/-! indexes -/
theorem atI_nat {α : Type} {xs : List α} {i : Int} {k : Nat} {x : α} (e : i = k) (h : xs[k]? = some x) : atI xs i = some x := by
  subst e
  unfold atI ixN
  have hk := (List.getElem?_eq_some_iff.mp h).1
  rw [if_pos (by omega)]
  rw [if_pos (by omega)]
  simp only [Option.bind_some]
  exact h
theorem atI_last {α : Type} {xs : List α} {x : α} (h : xs[xs.length - 1]? = some x) : atI xs (-1) = some x := by
  have hk := (List.getElem?_eq_some_iff.mp h).1
  unfold atI ixN
  rw [if_neg (by omega), if_pos (by omega)]
  show xs[(-1 + (xs.length : Int)).toNat]? = _
  rw [show (-1 + (xs.length : Int)).toNat = xs.length - 1 by omega]
  exact h
end
end Z
namespace Z
open PySem L2
section
variable {K : PySem.W.Frag} {fx : Fx} {E : Env} {Q : D → Env → Prop} {O : List D → Env → Prop}
theorem rcb_tupL {ds : List D} (h : Q (.tup ds) E) : Rcb K fx (rTupU K) [.lst ds] E Q := rcb_tup (.inl rfl) h
theorem rcb_tupT {ds : List D} (h : Q (.tup ds) E) : Rcb K fx (rTupU K) [.tup ds] E Q := rcb_tup (.inr rfl) h
theorem rcb_minT {ns : List Int} (hn : 0 < ns.length) (h : ∀ m ∈ ns, (∀ y ∈ ns, m ≤ y) → Q (.int m) E) : Rcb K fx (rMinU K) [.tup (zs ns)] E Q := rcb_min (.inr rfl) hn h
theorem rcb_maxT {ns : List Int} (hn : 0 < ns.length) (h : ∀ m ∈ ns, (∀ y ∈ ns, y ≤ m) → Q (.int m) E) : Rcb K fx (rMaxU K) [.tup (zs ns)] E Q := rcb_max (.inr rfl) hn h
theorem rcb_minL {ns : List Int} (hn : 0 < ns.length) (h : ∀ m ∈ ns, (∀ y ∈ ns, m ≤ y) → Q (.int m) E) : Rcb K fx (rMinU K) [.lst (zs ns)] E Q := rcb_min (.inl rfl) hn h
theorem rcb_maxL {ns : List Int} (hn : 0 < ns.length) (h : ∀ m ∈ ns, (∀ y ∈ ns, y ≤ m) → Q (.int m) E) : Rcb K fx (rMaxU K) [.lst (zs ns)] E Q := rcb_max (.inl rfl) hn h
theorem rop_inT {x : D} {ds : List D} (hx : dat 60 x = true) (hy : dats 60 ds = true) (h : Q (.bl (ds.any fun z => deq z x)) E) : Rop K fx (rInU K) x (.tup ds) E Q := rop_in (.inr rfl) hx hy h
theorem rop_inL {x : D} {ds : List D} (hx : dat 60 x = true) (hy : dats 60 ds = true) (h : Q (.bl (ds.any fun z => deq z x)) E) : Rop K fx (rInU K) x (.lst ds) E Q := rop_in (.inl rfl) hx hy h
end
end Z
namespace Z
open PySem L2
section
variable {K : PySem.W.Frag} {fx : Fx} {E : Env} {te : TE} {P : Po}
theorem ws_asgN {i : Nat} (h : We K fx te E fun d E' => Wg K fx [i] (gName i) d E' P.nx) : Ws K fx (tAsg te (gName i)) E P := ws_asg h
end
end Z
namespace Z
open PySem L2
section
variable {K : PySem.W.Frag} {fx : Fx} {E : Env} {Q : D → Env → Prop} {O : List D → Env → Prop}
theorem deq_int (i j : Int) : deq (.int i) (.int j) = decide (i = j) := by
  simp only [deq, py, PyData.eqv]
  exact Bool.beq_eq_decide_eq i j
theorem deq_str (i j : Str) : deq (.str i) (.str j) = decide (i = j) := by
  simp only [deq, py, PyData.eqv]
  by_cases h : i = j
  · subst h; simp
  · simp [h]
theorem deq_tup (xs ys : List D) : deq (.tup xs) (.tup ys) = deqs xs ys := by simp [deq, deqs, py, PyData.eqv]
theorem deq_lst (xs ys : List D) : deq (.lst xs) (.lst ys) = deqs xs ys := by simp [deq, deqs, py, PyData.eqv]
theorem rop_eqI {i j : Int} (h : Q (.bl (decide (i = j))) E) : Rop K fx (rEqD K) (.int i) (.int j) E Q := rop_eq rfl rfl (by rw [deq_int]; exact h)
theorem rop_neI {i j : Int} (h : Q (.bl (!decide (i = j))) E) : Rop K fx (rNeD K) (.int i) (.int j) E Q := rop_ne rfl rfl (by rw [deq_int]; exact h)
theorem rop_eqZT {xs ys : List Int} (h : Q (.bl (decide (xs = ys))) E) : Rop K fx (rEqD K) (.tup (zs xs)) (.tup (zs ys)) E Q := rop_eq (by simp only [dat]; exact dats_zs ..) (by simp only [dat]; exact dats_zs ..) (by rw [deq_tup, deqs_zs]; exact h)
theorem rop_neZT {xs ys : List Int} (h : Q (.bl (!decide (xs = ys))) E) : Rop K fx (rNeD K) (.tup (zs xs)) (.tup (zs ys)) E Q := rop_ne (by simp only [dat]; exact dats_zs ..) (by simp only [dat]; exact dats_zs ..) (by rw [deq_tup, deqs_zs]; exact h)
theorem rop_eqZL {xs ys : List Int} (h : Q (.bl (decide (xs = ys))) E) : Rop K fx (rEqD K) (.lst (zs xs)) (.lst (zs ys)) E Q := rop_eq (by simp only [dat]; exact dats_zs ..) (by simp only [dat]; exact dats_zs ..) (by rw [deq_lst, deqs_zs]; exact h)
theorem rop_neZL {xs ys : List Int} (h : Q (.bl (!decide (xs = ys))) E) : Rop K fx (rNeD K) (.lst (zs xs)) (.lst (zs ys)) E Q := rop_ne (by simp only [dat]; exact dats_zs ..) (by simp only [dat]; exact dats_zs ..) (by rw [deq_lst, deqs_zs]; exact h)
theorem rop_eqS {i j : Str} (hi : SeqAt.shaped (.str i) = true) (hj : SeqAt.shaped (.str j) = true) (h : Q (.bl (decide (i = j))) E) : Rop K fx (rEqD K) (.str i) (.str j) E Q := rop_eq (by simp only [dat]; exact hi) (by simp only [dat]; exact hj) (by rw [deq_str]; exact h)
theorem rop_neS {i j : Str} (hi : SeqAt.shaped (.str i) = true) (hj : SeqAt.shaped (.str j) = true) (h : Q (.bl (!decide (i = j))) E) : Rop K fx (rNeD K) (.str i) (.str j) E Q := rop_ne (by simp only [dat]; exact hi) (by simp only [dat]; exact hj) (by rw [deq_str]; exact h)
end
end Z
namespace Z
open PySem L2
section
variable {K : PySem.W.Frag} {fx : Fx} {E : Env} {Q : D → Env → Prop} {O : List D → Env → Prop}
/-- texts as data -/
def ts (xs : List Str) : List D := xs.map D.str
theorem ts_length (xs : List Str) : (ts xs).length = xs.length := by simp [ts]
theorem ts_get {ns : List Str} {i : Nat} {d : D} (h : (ts ns)[i]? = some d) : ∃ x, ns[i]? = some x ∧ d = .str x := by
  unfold ts at h
  rw [List.getElem?_map] at h
  cases e : ns[i]? with
  | none => rw [e] at h; cases h
  | some x => rw [e] at h; exact ⟨x, rfl, (Option.some.inj h).symm⟩
theorem ts_at {ns : List Str} {i : Nat} {x : Str} (h : ns[i]? = some x) : (ts ns)[i]? = some (.str x) := by unfold ts; rw [List.getElem?_map, h]; rfl
theorem ts_atI {ns : List Str} {i : Int} {x : Str} (h : atI ns i = some x) : atI (ts ns) i = some (.str x) := by
  unfold atI at h ⊢
  rw [ts_length]
  rw [Option.bind_eq_some_iff] at h ⊢
  obtain ⟨j, h1, h2⟩ := h
  exact ⟨j, h1, ts_at h2⟩
def shapes (xs : List Str) : Bool := xs.all fun x => SeqAt.shaped (.str x)
theorem dats_ts (n : Nat) : ∀ {xs : List Str}, shapes xs = true → dats n (ts xs) = true
  | [], _ => by simp [ts, dats]
  | a :: r, h => by
    have h' : SeqAt.shaped (.str a) = true ∧ shapes r = true := by simpa [shapes] using h
    have := dats_ts n h'.2
    unfold ts at this ⊢
    simp [dats, dat, this, h'.1]
theorem deqs_ts : ∀ xs ys : List Str, deqs (ts xs) (ts ys) = decide (xs = ys)
  | [], [] => by simp [deqs, ts, pys, PyData.eqvAll]
  | [], _ :: _ => by simp [deqs, ts, pys, PyData.eqvAll]
  | _ :: _, [] => by simp [deqs, ts, pys, PyData.eqvAll]
  | a :: r, b :: q => by
    have := deqs_ts r q
    unfold deqs ts at this ⊢
    simp only [List.map_cons, pys, PyData.eqvAll, this, py, PyData.eqv]
    by_cases h : a = b
    · subst h; simp
    · simp [h]
theorem rop_eqTT {xs ys : List Str} (hx : shapes xs = true) (hy : shapes ys = true) (h : Q (.bl (decide (xs = ys))) E) : Rop K fx (rEqD K) (.tup (ts xs)) (.tup (ts ys)) E Q := rop_eq (by simp only [dat]; exact dats_ts _ hx) (by simp only [dat]; exact dats_ts _ hy) (by rw [deq_tup, deqs_ts]; exact h)
theorem rop_neTT {xs ys : List Str} (hx : shapes xs = true) (hy : shapes ys = true) (h : Q (.bl (!decide (xs = ys))) E) : Rop K fx (rNeD K) (.tup (ts xs)) (.tup (ts ys)) E Q := rop_ne (by simp only [dat]; exact dats_ts _ hx) (by simp only [dat]; exact dats_ts _ hy) (by rw [deq_tup, deqs_ts]; exact h)
end
end Z
namespace Z
open PySem L2
section
variable {K : PySem.W.Frag} {fx : Fx} {E : Env} {Q : D → Env → Prop} {O : List D → Env → Prop}
theorem rop_mulL {i j : Int} (hc : -2 ^ 64 < i ∧ i < 2 ^ 64) (h : Q (.int (i * j)) E) : Rop K fx (rMulU K) (.int i) (.int j) E Q := rop_mul (.inl (.inl hc)) h
theorem rop_mulR {i j : Int} (hc : -2 ^ 64 < j ∧ j < 2 ^ 64) (h : Q (.int (i * j)) E) : Rop K fx (rMulU K) (.int i) (.int j) E Q := rop_mul (.inl (.inr hc)) h
theorem rop_neZL0 {xs : List Int} (h : Q (.bl (!decide (xs = []))) E) : Rop K fx (rNeD K) (.lst (zs xs)) (.lst []) E Q := rop_neZL (ys := []) h
theorem rop_eqZL0 {xs : List Int} (h : Q (.bl (decide (xs = []))) E) : Rop K fx (rEqD K) (.lst (zs xs)) (.lst []) E Q := rop_eqZL (ys := []) h
theorem rcb_lenZ {ns : List Int} (h : Q (.int ns.length) E) : Rcb K fx (rLenU K) [.lst (zs ns)] E Q := rcb_lenL (by rw [zs_length]; exact h)
theorem rcb_lenZT {ns : List Int} (h : Q (.int ns.length) E) : Rcb K fx (rLenU K) [.tup (zs ns)] E Q := rcb_lenT (by rw [zs_length]; exact h)
theorem rcb_lenSL {ns : List Str} (h : Q (.int ns.length) E) : Rcb K fx (rLenU K) [.lst (ts ns)] E Q := rcb_lenL (by rw [ts_length]; exact h)
theorem rcb_lenST {ns : List Str} (h : Q (.int ns.length) E) : Rcb K fx (rLenU K) [.tup (ts ns)] E Q := rcb_lenT (by rw [ts_length]; exact h)
theorem mod_at {ns : List Int} {i : Int} (h0 : 0 < ns.length) : ∃ x, atI (zs ns) (i % (ns.length : Int)) = some (.int x) := by
  have h1 : 0 ≤ i % (ns.length : Int) := Int.emod_nonneg _ (by omega)
  have h2 : i % (ns.length : Int) < ns.length := Int.emod_lt_of_pos _ (by omega)
  obtain ⟨x, hx⟩ : ∃ x, ns[(i % (ns.length : Int)).toNat]? = some x := ⟨_, List.getElem?_eq_getElem (by omega)⟩
  exact ⟨x, zs_atI (atI_nat (by omega) hx)⟩
end
end Z
namespace Z
theorem mix_bound {m s : Int} (h0 : 0 ≤ m) (h1 : m < 2147483549) (s0 : 0 ≤ s) (s1 : s ≤ 1000000) : -(2 ^ 63) ≤ m * (2 * s + 2423) + 63053 * s * s + 93629 ∧ m * (2 * s + 2423) + 63053 * s * s + 93629 ≤ 2 ^ 63 := by
  have a1 : m * (2 * s + 2423) ≤ 2147483549 * 2002423 := Int.mul_le_mul (by omega) (by omega) (by omega) (by omega)
  have a0 : 0 ≤ m * (2 * s + 2423) := Int.mul_nonneg h0 (by omega)
  have b1 : 63053 * s * s ≤ 63053000000 * 1000000 := Int.mul_le_mul (by omega) (by omega) (by omega) (by omega)
  have b0 : 0 ≤ 63053 * s * s := Int.mul_nonneg (by omega) s0
  omega
end Z
namespace Z
theorem great_ok {x p : Int} {b : Bool} (h : p ≤ x) : 0 ≤ 2 * (x - p) + (if b = true then 1 else 0) := by split <;> omega
end Z
namespace Z
open PySem L2
section
variable {K : PySem.W.Frag} {fx : Fx} {E : Env} {te ta tb : TE} {t : TS} {P : Po} {Q : D → Env → Prop} {O : List D → Env → Prop}
/-- return x, x a list of its own: known from now on -/
theorem ws_retF {i : Nat} {ds : List D} (e : E.sl[i]? = some (.own ds)) (h : P.rt (.lst ds) (E.set i (.d (.lst ds)))) : Ws K fx (tRet (tVar i)) E P :=
  ws_freeze e (ws_ret (we_var (by
    have hi := (List.getElem?_eq_some_iff.mp e).1
    show (E.sl.set i _)[i]? = _
    rw [List.getElem?_set_self hi]) h))
/-- [e for x in ..] that draws nothing: each is so -/
theorem wo_each {wi : TI} {j : Nat} (p : D → Prop) (h : Wi K fx wi E fun its E1 => its.length ≤ 100000 ∧ (∀ s, E1.sl[j]? = some s → ¬ isOwn s) ∧
    (∀ (i : Nat) (d : D), its[i]? = some d → We K fx te ⟨(E1.sl.set j .no).set j (.d d), E1.n⟩ fun y E4 => p y ∧ E4.n = E1.n ∧ E4.sl.set j .no = E1.sl.set j .no) ∧ ∀ res : List D, res.length = its.length → (∀ y ∈ res, p y) → O res E1) : Wo K fx (tLc wi (gName j) tYes te [j]) E O := by
  refine wo_lc (js := [j]) fun c G σ H X A R k => h c G σ H X A R fun J its E' G' H' q => k J its E' G' H' ?_
  obtain ⟨hl, hn, hs, hO⟩ := q
  refine ⟨fun i hi => hi, hl, fun i hi s hz => ?_, fun i acc n => acc.length = i ∧ (∀ y ∈ acc, p y) ∧ n = E'.n, ⟨rfl, (fun y hy => by cases hy), rfl⟩, ?_, ?_⟩
  · have : i = j := by simpa using hi
    subst this
    exact hn s hz
  · rintro i d acc n hd ha ⟨h1, h2, rfl⟩
    refine wg_name ?_
    intro c G σ H X A P k
    refine k true _ G H ⟨fun _ => ?_, fun z => by cases z⟩ A Mw.refl
    refine We.mono (hs i d hd) ?_
    rintro y E4 ⟨q1, q2, q3⟩
    refine ⟨q3, by rw [List.length_append, h1]; rfl, fun z hz => ?_, q2⟩
    rcases List.mem_append.mp hz with hz | hz
    · exact h2 z hz
    · have : z = y := by simpa using hz
      rw [this]; exact q1
  · rintro acc n _ ⟨h1, h2, rfl⟩
    exact hO acc h1 h2
theorem zs_take60 (ns : List Int) (h : ns.length ≤ 63) : cutD (zs ns) none (some 60) = zs (ns.take 60) := by
  rw [zs_cut]
  have e0 : HT.sIx ns.length 0 none = 0 := rfl
  rw [e0, List.drop_zero]
  congr 1
  have e1 : HT.sIx ns.length ns.length (some 60) = min 60 ns.length := by
    with_unfolding_all rfl
  rw [e1, Nat.sub_zero]
  rcases Nat.le_total 60 ns.length with h | h
  · rw [Nat.min_eq_left h]
  · rw [Nat.min_eq_right h, List.take_of_length_le (Nat.le_refl _), List.take_of_length_le h]
end
end Z
namespace Z
open PySem L2
section
variable {K : PySem.W.Frag} {fx : Fx} {E : Env} {te ta tb : TE} {tt : TT} {t : TS} {P : Po} {Q : D → Env → Prop} {O : List D → Env → Prop}
/-- [x for x in .. if ..] -/
theorem wo_filt {wi : TI} {j : Nat} (f : D → Bool) (h : Wi K fx wi E fun its E1 => its.length ≤ 100000 ∧ (∀ s, E1.sl[j]? = some s → ¬ isOwn s) ∧ j < E1.sl.length ∧
    (∀ (i : Nat) (d : D), its[i]? = some d → Wt K fx tt ⟨(E1.sl.set j .no).set j (.d d), E1.n⟩ fun b E4 => b = f d ∧ E4 = ⟨(E1.sl.set j .no).set j (.d d), E1.n⟩) ∧ O (its.filter f) E1) : Wo K fx (tLc wi (gName j) tt (tVar j) [j]) E O := by
  refine wo_lc (js := [j]) fun c G σ H X A R k => h c G σ H X A R fun J its E' G' H' q => k J its E' G' H' ?_
  obtain ⟨hl, hn, hj, hs, hO⟩ := q
  refine ⟨fun i hi => hi, hl, fun i hi s hz => ?_, fun i acc n => acc = (its.take i).filter f ∧ n = E'.n, ⟨rfl, rfl⟩, ?_, ?_⟩
  · have : i = j := by simpa using hi
    subst this
    exact hn s hz
  · rintro i d acc n hd ha ⟨rfl, rfl⟩
    refine wg_name ?_
    have et : its.take (i + 1) = its.take i ++ [d] := by rw [List.take_succ, hd]; rfl
    have ew : ((E'.sl.set j .no).set j (.d d)).set j .no = E'.sl.set j .no := by rw [List.set_set, List.set_set]
    intro c G σ H X A P k
    refine hs i d hd c G σ H X A P fun b E4 G4 H4 ⟨q1, q2⟩ A4 m4 => k b E4 G4 H4 ⟨fun hb => ?_, fun hb => ?_⟩ A4 m4
    · subst q2
      refine we_var (x := d) ?_ ⟨ew, ?_, rfl⟩
      · show ((E'.sl.set j .no).set j (.d d))[j]? = _
        rw [List.getElem?_set_self (by simpa using hj)]
      · rw [et, List.filter_append, List.filter_cons, ← q1, hb]
        rfl
    · subst q2
      refine ⟨ew, ?_, rfl⟩
      rw [et, List.filter_append, List.filter_cons, ← q1, hb]
      simp
  · rintro acc n _ ⟨rfl, rfl⟩
    rw [List.take_length]
    exact hO
end
end Z
namespace Z
open PySem L2
section
variable {K : PySem.W.Frag} {fx : Fx} {E : Env} {te ta tb : TE} {tt : TT} {t : TS} {P : Po} {Q : D → Env → Prop} {O : List D → Env → Prop}
/-- what was drawn may be taken for more -/
theorem we_top {N : Nat} (h : We K fx te E fun d E' => E'.n ≤ N ∧ Q d (E'.at N)) : We K fx te E Q := fun c G σ H X A P k => h c G σ H X A P fun v d E' G' H' q A' m r => k v d (E'.at N) G' H' q.2 (A'.more q.1) m r
def isI : D → Bool
  | .int _ => true
  | _ => false
theorem isI_of {y : D} (h : isI y = true) : ∃ i : Int, y = .int i := by
  cases y <;> first | exact ⟨_, rfl⟩ | cases h
theorem all_I {ds : List D} {y : D} (h : ds.all isI = true) (hy : y ∈ ds) : ∃ i : Int, y = .int i := isI_of (List.all_eq_true.mp h y hy)
def isIB (lo hi : Int) : D → Bool
  | .int i => decide (lo ≤ i) && decide (i ≤ hi)
  | _ => false
theorem isIB_of {lo hi : Int} {y : D} (h : isIB lo hi y = true) : ∃ i : Int, y = .int i ∧ lo ≤ i ∧ i ≤ hi := by
  cases y with
  | int i => exact ⟨i, rfl, by simpa [isIB] using h⟩
  | _ => cases h
theorem all_IB {lo hi : Int} {ds : List D} {y : D} (h : ds.all (isIB lo hi) = true) (hy : y ∈ ds) : ∃ i : Int, y = .int i ∧ lo ≤ i ∧ i ≤ hi := isIB_of (List.all_eq_true.mp h y hy)
def isZs (lo hi : Nat) : D → Bool
  | .lst ds => ds.all isI && decide (lo ≤ ds.length) && decide (ds.length ≤ hi)
  | _ => false
theorem isZs_of {lo hi : Nat} {y : D} (h : isZs lo hi y = true) : ∃ ns, y = .lst (zs ns) ∧ lo ≤ ns.length ∧ ns.length ≤ hi := by
  cases y with
  | lst ds =>
    have h' : (ds.all isI = true ∧ lo ≤ ds.length) ∧ ds.length ≤ hi := by simpa only [isZs, Bool.and_eq_true, decide_eq_true_eq] using h
    obtain ⟨ns, e⟩ := of_zs (ds := ds) fun y hy => all_I h'.1.1 hy
    subst e
    rw [zs_length] at h'
    exact ⟨ns, rfl, h'.1.2, h'.2⟩
  | _ => cases h
theorem all_Zs {lo hi : Nat} {ds : List D} {y : D} (h : ds.all (isZs lo hi) = true) (hy : y ∈ ds) : ∃ ns, y = .lst (zs ns) ∧ lo ≤ ns.length ∧ ns.length ≤ hi := isZs_of (List.all_eq_true.mp h y hy)
end
end Z
namespace Z
open PySem L2
section
variable {K : PySem.W.Frag} {fx : Fx} {E : Env} {te ta tb : TE} {tt : TT} {t : TS} {P : Po} {Q : D → Env → Prop} {O : List D → Env → Prop}
/-- x as a value, x a list of its own: known from now on -/
theorem we_varF {i : Nat} {ds : List D} (e : E.sl[i]? = some (.own ds)) (h : Q (.lst ds) (E.set i (.d (.lst ds)))) : We K fx (tVar i) E Q := fun c G σ H X A R k => by
  obtain ⟨p, vs, e1, r, A', m, q⟩ := A.freeze e
  exact ⟨.ref p, e1, k _ _ _ _ _ h A' m (.lst q (r.mono m.ex))⟩
/-- a statement that may change a list of ints of its own -/
theorem ws_joinO {i : Nat} (p : List Int → Prop) (h : Ws K fx t E { nx := fun E' => ∃ fs, p fs ∧ E' = E.set i (.own (zs fs)), rt := P.rt, ro := P.ro, bk := P.bk, ct := P.ct }) (k : ∀ fs, p fs → P.nx (E.set i (.own (zs fs)))) : Ws K fx t E P :=
  Ws.mono h (fun E' ⟨fs, a, b⟩ => by rw [b]; exact k fs a) (fun _ _ q => q) (fun _ _ q => q) (fun _ q => q) fun _ q => q
theorem ws_join (M : Env → Prop) (h : Ws K fx t E { nx := M, rt := P.rt, ro := P.ro, bk := P.bk, ct := P.ct }) (k : ∀ E', M E' → P.nx E') : Ws K fx t E P :=
  Ws.mono h k (fun _ _ q => q) (fun _ _ q => q) (fun _ q => q) fun _ q => q
end
end Z
namespace Z
open PySem L2
theorem all_I2 {ds : List D} {y : D} (hy : y ∈ ds) (h : ds.all isI = true) : ∃ i : Int, y = .int i := all_I h hy
theorem all_IB2 {ds : List D} {y : D} (lo hi : Int) (hy : y ∈ ds) (h : ds.all (isIB lo hi) = true) : ∃ i : Int, y = .int i ∧ lo ≤ i ∧ i ≤ hi := all_IB h hy
theorem all_Zs2 {ds : List D} {y : D} (lo hi : Nat) (hy : y ∈ ds) (h : ds.all (isZs lo hi) = true) : ∃ ns, y = .lst (zs ns) ∧ lo ≤ ns.length ∧ ns.length ≤ hi := all_Zs h hy
theorem ix_nat {n k : Nat} {i : Int} (e : i = k) (h : k < n) : ixN n i = some k := by
  subst e
  unfold ixN
  rw [if_pos (by omega), if_pos (by omega)]
  simp
theorem zs_set (fs : List Int) (k : Nat) (v : Int) : (zs fs).set k (.int v) = zs (fs.set k v) := by
  unfold zs
  rw [List.map_set]
theorem mod_atZ {ns : List Int} {i : Int} (h0 : 0 < ns.length) : ∃ x : Int, atI (zs ns) (i % ((zs ns).length : Int)) = some (.int x) := by
  rw [zs_length]
  exact mod_at h0
theorem zs_atN {ns : List Int} {i : Int} (h0 : 0 ≤ i) (h : i < ns.length) : ∃ x : Int, atI (zs ns) i = some (.int x) :=
  ⟨_, zs_atI (atI_nat (k := i.toNat) (by omega) (List.getElem?_eq_getElem (by omega)))⟩
end Z
namespace Z
open PySem L2
/-- by places in both lists -/
def perm {α : Type} (l : List Nat) (us ws : List α) : List α := l.filterMap fun i => (us ++ ws)[i]?
theorem vals_get {vs : List V} {us : List Value} (r : Vals vs us) : ∀ i : Nat, (vs[i]? = none ∧ us[i]? = none) ∨ ∃ v u, vs[i]? = some v ∧ us[i]? = some u ∧ RelV v u := by
  induction r with
  | nil => intro i; exact .inl ⟨rfl, rfl⟩
  | cons h _ ih =>
    intro i
    cases i with
    | zero => exact .inr ⟨_, _, rfl, rfl, h⟩
    | succ i => simpa using ih i
theorem vals_app {vs zs : List V} {us ws : List Value} (r : Vals vs us) (q : Vals zs ws) : Vals (vs ++ zs) (us ++ ws) := by
  induction r with
  | nil => exact q
  | cons h _ ih => exact .cons h ih
theorem perm_vals {l : List Nat} {vs zs : List V} {us ws : List Value} (r : Vals vs us) (q : Vals zs ws) : Vals (perm l vs zs) (perm l us ws) := by
  have a := vals_app r q
  unfold perm
  induction l with
  | nil => exact .nil
  | cons i l ih =>
    rw [List.filterMap_cons, List.filterMap_cons]
    rcases vals_get a i with ⟨h1, h2⟩ | ⟨v, u, h1, h2, h3⟩
    · rw [h1, h2]; exact ih
    · rw [h1, h2]; exact .cons h3 ih
section
variable {α : Type} {K : PySem.W.Frag} {fx : Fx} {E : Env} {te ta tb : TE} {tt : TT} {c : Cn} {G H : Hp} {t : TS} {P : Po} {Q : D → Env → Prop} {O : List D → Env → Prop}
theorem rps_get {vs : List V} {us : List D} (r : Rps K G vs us) (i : Nat) : (vs[i]? = none ∧ us[i]? = none) ∨ ∃ v u, vs[i]? = some v ∧ us[i]? = some u ∧ Rp K G v u := by
  cases h : us[i]? with
  | none =>
    rw [List.getElem?_eq_none_iff] at h
    exact .inl ⟨by rw [List.getElem?_eq_none_iff, r.length]; exact h, rfl⟩
  | some d =>
    obtain ⟨v, h1, h2⟩ := r.get h
    exact .inr ⟨v, d, h1, rfl, h2⟩
theorem perm_rps {l : List Nat} {vs zs : List V} {us ws : List D} (r : Rps K G vs us) (q : Rps K G zs ws) : Rps K G (perm l vs zs) (perm l us ws) := by
  have a := r.append q
  unfold perm
  induction l with
  | nil => exact .nil
  | cons i l ih =>
    rw [List.filterMap_cons, List.filterMap_cons]
    rcases rps_get a i with ⟨h1, h2⟩ | ⟨v, u, h1, h2, h3⟩
    · rw [h1, h2]; exact ih
    · rw [h1, h2]; exact .cons h3 ih
theorem we_callP {pm : Pm α} {EX : XK} {l : List Nat} {n m : Nat} {ta tk : TA}
    (h : Wa K fx ta E fun ds E1 => Wa K fx tk E1 fun es E2 => (ds.length = n ∧ es.length = m) ∧ Called pm fx EX (perm l ds es) E2 Q fun _ _ => False) : We K fx (tCallN n m (spD K pm) (fun vs zs => perm l vs zs) EX ta tk) E Q :=
  we_callN (gD := fun ds es => perm l ds es) (fun G vs zs ds es r q _ _ => perm_rps r q) fun c G σ H X A P k => h c G σ H X A P fun ds vs E1 G1 H1 q => k ds vs E1 G1 H1 fun c G σ H X A P k => q c G σ H X A P fun es ws E2 G2 H2 q => k es ws E2 G2 H2 ⟨q.1.1, q.1.2, q.2⟩
end
end Z
namespace Z
open PySem L2
section
variable {K : PySem.W.Frag} {fx : Fx} {E : Env} {te : TE} {P : Po} {Q : D → Env → Prop} {O : List D → Env → Prop}
theorem ws_asg2 {i j n : Nat} (h : We K fx te E fun d E' => ∃ x y, d = .tup [x, y] ∧ n = 2 ∧ P.nx ((E'.set i (.d x)).set j (.d y))) : Ws K fx (tAsg te (gTup K n (gCons (gName i) (gCons (gName j) gNil)))) E P :=
  ws_asg (js := [i, j]) (We.mono h fun d E' ⟨x, y, e, en, q⟩ => by
    subst e en
    exact wg_tup rfl (wgs_cons (wg_name (wgs_cons (wg_name (wgs_nil q))))))
theorem nd_self {α : Type} [DecidableEq α] (a : α) : (!decide (a = a)) = false := by simp
theorem d_self {α : Type} [DecidableEq α] (a : α) : decide (a = a) = true := by simp
theorem at_snoc {α : Type} (xs : List α) (x : α) : atI (xs ++ [x]) (-1) = some x := by
  apply atI_last
  simp
theorem rop_neNil (h : Q (.bl false) E) : Rop K fx (rNeD K) (.lst []) (.lst []) E Q := rop_neF rfl rfl h
end
end Z
namespace Z
theorem spl {b : Bool} {A C : Prop} (h : b = true → A) (k : b = false → C) : (b = true → A) ∧ (b = false → C) := ⟨h, k⟩
end Z
namespace Z
open PySem L2
section
variable {K : PySem.W.Frag} {fx : Fx} {E : Env} {t : TS} {P : Po}
/-- a statement that leaves all as it is, or ends the def -/
theorem ws_joinE (h : Ws K fx t E { nx := fun E' => E' = E, rt := P.rt, ro := P.ro, bk := P.bk, ct := P.ct }) (k : P.nx E) : Ws K fx t E P :=
  ws_join (fun E' => E' = E) h fun E' e => by rw [e]; exact k
end
end Z
namespace Z
open PySem L2
section
variable {K : PySem.W.Frag} {fx : Fx} {E : Env} {te ta tb : TE} {tt : TT} {c : Cn} {G H : Hp} {σ : L2.St} {Q : D → Env → Prop} {O : List D → Env → Prop}
theorem roo_rep {xs : List D} {k : Int} (hk : 0 ≤ k ∧ k ≤ 1000) (hl : xs.length ≤ 1000) (h : O (List.replicate k.toNat xs).flatten E) : Roo K fx (rMulU K) (.lst xs) (.int k) E O := fun c G σ H X A v u rv ru P q => by
  cases ru
  cases rv with
  | @lst _ us _ h1 r1 =>
    have hz : us.length * k.toNat ≤ sizeLine := by
      have : us.length * k.toNat ≤ 1000 * 1000 := Nat.mul_le_mul (by rw [r1.length]; exact hl) (by omega)
      exact Nat.le_trans this (by decide)
    refine .inr (.inr (.inl ⟨_, k, _, rfl, rfl, A.ex _ _ h1, by omega, by omega, hz, fun p hp => ?_⟩))
    have m := Mv.hid (c := c) (o := HO.lst (List.replicate k.toNat us).flatten) A.ex hp
    exact q p _ _ _ _ _ h (A.move0 m (fun a u e => by rw [upd_ne (ne_of_none e hp)]; exact e)) m.mw ⟨A.ex.free hp, B_free A hp, own_free A hp⟩ upd_same (r1.rep k.toNat)
theorem we_rep (h : We K fx ta E fun x E1 => We K fx tb E1 fun y E2 => ∃ xs k, x = .lst xs ∧ y = .int k ∧ (0 ≤ k ∧ k ≤ 1000) ∧ xs.length ≤ 1000 ∧ Q (.lst (List.replicate k.toNat xs).flatten) E2) : We K fx (tOp (rMulU K) ta tb) E Q :=
  we_of (wo_op (We.mono h fun x E1 q => We.mono q fun y E2 ⟨xs, k, e1, e2, a, b, r⟩ => by
    subst e1 e2
    exact roo_rep a b r))
end
end Z
end
section
namespace Z
open PySem L2
section
variable {K : PySem.W.Frag} {fx : Fx} {E E' : Env} {te ta tb : TE} {tt : TT} {t u : TS} {P : Po} {Q : D → Env → Prop} {O : List D → Env → Prop}
/-- one statement and the rest, what the slots hold written out -/
theorem ws_seqN (e : E = E') (h : Ws K fx t E' { nx := fun E2 => Ws K fx u E2 P, rt := P.rt, ro := P.ro, bk := P.bk, ct := P.ct }) : Ws K fx (tSeq t u) E P := by
  subst e; exact ws_seq h
theorem ws_norm (e : E = E') (h : Ws K fx t E' P) : Ws K fx t E P := by
  subst e; exact h
end
end Z
namespace Z
open PySem L2
section
variable {K : PySem.W.Frag} {fx : Fx} {E : Env} {te : TE} {tt : TT} {c : Cn} {G H : Hp} {σ : St} {Q : D → Env → Prop} {O : List D → Env → Prop}
/-- a list in hand becomes known -/
theorem As.lay {G' H' : Hp} {E' : Env} {p : Addr} {vs : List V} {ds : List D} (A' : As K c G' σ E' H') (m : Mw c G H G' H') (f : Frs c G' σ E' p) (hp : H' p = some (.lst vs)) (r : Rps K G' vs ds) : As K c (upd G' p (.lst vs)) σ E' H' ∧ Mw c G H (upd G' p (.lst vs)) H' ∧ Rp K (upd G' p (.lst vs)) (.ref p) (.lst ds) := by
  obtain ⟨g, b, n⟩ := f
  have x : Ex G' (upd G' p (.lst vs)) := Ex.new g
  refine ⟨?_, ⟨m.ex.trans x, m.keep⟩, (.lst upd_same (r.mono x))⟩
  refine ⟨fun a o z => ?_, A'.g0.trans x, A'.keep, fun a q z => ?_, A'.tB, A'.len, fun j s q => ?_, A'.ne, A'.tap, A'.gtU (fun _ e => by cases e), A'.st, A'.tb⟩
  · by_cases y : a = p
    · subst y; rw [upd_same] at z; cases z; exact hp
    · rw [upd_ne y] at z; exact A'.ex a o z
  · by_cases y : a = p
    · subst y; exact absurd b q
    · rw [upd_ne y]; exact A'.sep a q z
  · have w := A'.sl j s q
    cases s with
    | no => trivial
    | d y => obtain ⟨u, a1, a2⟩ := w; exact ⟨u, a1, a2.mono x⟩
    | own es =>
      obtain ⟨p', vs', a1, a2, a3, a4, a5⟩ := w
      have : p' ≠ p := fun y => by
        subst y
        exact n j (get_join.mp a1) _ q trivial
      exact ⟨p', vs', a1, by rw [upd_ne this]; exact a2, a3, a4, a5.mono x⟩
    | slf p' C fs =>
      obtain ⟨dx, vs', a1, a2, a3, a4, a5⟩ := w
      have : p' ≠ p := fun y => by subst y; rw [hp] at a4; cases a4
      exact ⟨dx, vs', a1, by rw [upd_ne this]; exact a2, a3, a4, a5.mono x⟩
theorem rop_of {r : R2} {x y : D} (h : Roo K fx r x y E fun ds E' => Q (.lst ds) E') : Rop K fx r x y E Q := fun c G σ H X A v u rv ru P k =>
  h c G σ H X A v u rv ru P fun _ _ _ _ _ _ q A' m f hp r' =>
    have z := As.lay A' m f hp r'
    k _ _ _ _ _ q z.1 z.2.1 z.2.2
theorem rcb_of {r : RC} {xs : List D} (h : Rco K fx r xs E fun ds E' => Q (.lst ds) E') : Rcb K fx r xs E Q := fun c G σ H X A vs rv P k =>
  h c G σ H X A vs rv P fun _ _ _ _ _ _ q A' m f hp r' =>
    have z := As.lay A' m f hp r'
    k _ _ _ _ _ q z.1 z.2.1 z.2.2
/-- [xs] * k -/
theorem rop_rep {xs : List D} {k : Int} (hk : 0 ≤ k ∧ k ≤ 1000) (hl : xs.length ≤ 1000) (h : Q (.lst (List.replicate k.toNat xs).flatten) E) : Rop K fx (rMulU K) (.lst xs) (.int k) E Q := rop_of (roo_rep hk hl h)
theorem rop_rep1 {x : D} {k : Int} (hk : 0 ≤ k ∧ k ≤ 1000) (h : Q (.lst (List.replicate k.toNat x)) E) : Rop K fx (rMulU K) (.lst [x]) (.int k) E Q := rop_of (roo_rep hk (by simp) (by
  have e : ∀ n, (List.replicate n [x]).flatten = List.replicate n x := fun n => by
    induction n with
    | zero => rfl
    | succ n ih => rw [List.replicate_succ, List.flatten_cons, ih]; rfl
  rw [e]; exact h))
theorem rop_cat {xs ys : List D} (hl : xs.length + ys.length ≤ 1000000) (h : Q (.lst (xs ++ ys)) E) : Rop K fx (rAddU K) (.lst xs) (.lst ys) E Q := rop_of (roo_cat hl h)
/-- [e for x in .. if t], what is walked told by c: both functions are found on the way -/
theorem wo_mapC (α : Type) {wi : TI} {j : Nat} (h : Wi K fx wi E fun its E1 => ∃ (c : α → D) (xs : List α), its = xs.map c ∧ xs.length ≤ 100000 ∧ (∀ s, E1.sl[j]? = some s → ¬ isOwn s) ∧ ∃ (p : α → Bool) (g : α → D),
    (∀ a ∈ xs, Wt K fx tt ⟨(E1.sl.set j .no).set j (.d (c a)), E1.n⟩ fun b E3 => b = p a ∧ E3 = ⟨(E1.sl.set j .no).set j (.d (c a)), E1.n⟩) ∧
    (∀ a ∈ xs, p a = true → We K fx te ⟨(E1.sl.set j .no).set j (.d (c a)), E1.n⟩ fun y E4 => y = g a ∧ E4.n = E1.n ∧ E4.sl.set j .no = E1.sl.set j .no) ∧ O ((xs.filter p).map g) E1) : Wo K fx (tLc wi (gName j) tt te [j]) E O := by
  refine wo_lc (js := [j]) fun c G σ H X A R k => h c G σ H X A R fun J its E' G' H' q => k J its E' G' H' ?_
  obtain ⟨cc, xs, rfl, hl, hn, p, g, ht, hs, hO⟩ := q
  refine ⟨fun i hi => hi, by rw [List.length_map]; exact hl, fun i hi s hz => ?_, fun i acc n => acc = ((xs.take i).filter p).map g ∧ n = E'.n, ⟨rfl, rfl⟩, ?_, ?_⟩
  · have : i = j := by simpa using hi
    subst this
    exact hn s hz
  · rintro i d acc n hd ha ⟨rfl, rfl⟩
    rw [List.getElem?_map, Option.map_eq_some_iff] at hd
    obtain ⟨a, hd, rfl⟩ := hd
    have am := List.mem_of_getElem? hd
    refine wg_name ?_
    have et : xs.take (i + 1) = xs.take i ++ [a] := by rw [List.take_succ, hd]; rfl
    have ew : ((E'.sl.set j .no).set j (.d (cc a))).set j .no = E'.sl.set j .no := by rw [List.set_set, List.set_set]
    intro c G σ H X A P k
    refine ht a am c G σ H X A P fun b E4 G4 H4 ⟨q1, q2⟩ A4 m4 => k b E4 G4 H4 ⟨fun hb => ?_, fun hb => ?_⟩ A4 m4
    · subst q2
      refine We.mono (hs a am (by rw [← q1, hb])) fun y E5 h5 => ⟨h5.2.2, ?_, h5.2.1⟩
      rw [et, List.filter_append, List.map_append, List.filter_cons, ← q1, hb, h5.1]
      rfl
    · subst q2
      refine ⟨ew, ?_, rfl⟩
      rw [et, List.filter_append, List.map_append, List.filter_cons, ← q1, hb]
      simp
  · rintro acc n _ ⟨rfl, rfl⟩
    rw [List.length_map, List.take_length]
    exact hO
theorem wt_yes {Q : Bool → Env → Prop} (h : Q true E) : Wt K fx tYes E Q := fun c G σ H X A P k => k true _ G H h A Mw.refl
/-- [e for x in xs], xs of integers -/
theorem wo_mapZ {wi : TI} {j : Nat} (h : Wi K fx wi E fun its E1 => ∃ ns : List Int, its = zs ns ∧ ns.length ≤ 100000 ∧ (∀ s, E1.sl[j]? = some s → ¬ isOwn s) ∧ ∃ g : Int → D,
    (∀ a ∈ ns, We K fx te ⟨(E1.sl.set j .no).set j (.d (.int a)), E1.n⟩ fun y E4 => y = g a ∧ E4.n = E1.n ∧ E4.sl.set j .no = E1.sl.set j .no) ∧ O (ns.map g) E1) : Wo K fx (tLc wi (gName j) tYes te [j]) E O :=
  wo_mapC Int fun c G σ H X A R k => h c G σ H X A R fun J its E' G' H' q => k J its E' G' H' (by
    obtain ⟨ns, rfl, hl, hn, g, hs, hO⟩ := q
    exact ⟨D.int, ns, rfl, hl, hn, fun _ => true, g, fun a _ => wt_yes ⟨rfl, rfl⟩, fun a ha _ => hs a ha, by rw [List.filter_eq_self.mpr (by simp)]; exact hO⟩)
/-- [e for x in range(..)] -/
theorem wo_mapR {wi : TI} {j : Nat} (h : Wi K fx wi E fun its E1 => ∃ lo n, its = rangeD lo n ∧ n ≤ 100000 ∧ (∀ s, E1.sl[j]? = some s → ¬ isOwn s) ∧ ∃ g : Nat → D,
    (∀ i < n, We K fx te ⟨(E1.sl.set j .no).set j (.d (.int (lo + i))), E1.n⟩ fun y E4 => y = g i ∧ E4.n = E1.n ∧ E4.sl.set j .no = E1.sl.set j .no) ∧ O ((List.range n).map g) E1) : Wo K fx (tLc wi (gName j) tYes te [j]) E O :=
  wo_mapC Nat fun c G σ H X A R k => h c G σ H X A R fun J its E' G' H' q => k J its E' G' H' (by
    obtain ⟨lo, n, rfl, hl, hn, g, hs, hO⟩ := q
    exact ⟨fun (i : Nat) => D.int (lo + i), List.range n, rfl, by simpa using hl, hn, fun _ => true, g, fun a _ => wt_yes ⟨rfl, rfl⟩, fun a ha _ => hs a (by simpa using ha), by rw [List.filter_eq_self.mpr (by simp)]; exact hO⟩)
/-- [x for x in xs if t], [x for x in range(..) if t] -/
theorem wo_filtZ {wi : TI} {j : Nat} (h : Wi K fx wi E fun its E1 => ∃ ns : List Int, its = zs ns ∧ ns.length ≤ 100000 ∧ (∀ s, E1.sl[j]? = some s → ¬ isOwn s) ∧ j < E1.sl.length ∧ ∃ p : Int → Bool,
    (∀ a ∈ ns, Wt K fx tt ⟨(E1.sl.set j .no).set j (.d (.int a)), E1.n⟩ fun b E3 => b = p a ∧ E3 = ⟨(E1.sl.set j .no).set j (.d (.int a)), E1.n⟩) ∧ O (zs (ns.filter p)) E1) : Wo K fx (tLc wi (gName j) tt (tVar j) [j]) E O :=
  wo_mapC Int fun c G σ H X A R k => h c G σ H X A R fun J its E' G' H' q => k J its E' G' H' (by
    obtain ⟨ns, rfl, hl, hn, hj, p, hs, hO⟩ := q
    refine ⟨D.int, ns, rfl, hl, hn, p, D.int, hs, fun a ha _ => we_var (x := .int a) ?_ ⟨rfl, rfl, by rw [List.set_set, List.set_set]⟩, hO⟩
    show ((E'.sl.set j .no).set j (.d (.int a)))[j]? = _
    rw [List.getElem?_set_self (by simpa using hj)])
theorem wo_filtR {wi : TI} {j : Nat} (h : Wi K fx wi E fun its E1 => ∃ lo n, its = rangeD lo n ∧ n ≤ 100000 ∧ (∀ s, E1.sl[j]? = some s → ¬ isOwn s) ∧ j < E1.sl.length ∧ ∃ p : Nat → Bool,
    (∀ i < n, Wt K fx tt ⟨(E1.sl.set j .no).set j (.d (.int (lo + i))), E1.n⟩ fun b E3 => b = p i ∧ E3 = ⟨(E1.sl.set j .no).set j (.d (.int (lo + i))), E1.n⟩) ∧ O (((List.range n).filter p).map fun (i : Nat) => D.int (lo + i)) E1) : Wo K fx (tLc wi (gName j) tt (tVar j) [j]) E O :=
  wo_mapC Nat fun c G σ H X A R k => h c G σ H X A R fun J its E' G' H' q => k J its E' G' H' (by
    obtain ⟨lo, n, rfl, hl, hn, hj, p, hs, hO⟩ := q
    refine ⟨fun (i : Nat) => D.int (lo + i), List.range n, rfl, by simpa using hl, hn, p, fun (i : Nat) => D.int (lo + i), fun i hi => hs i (by simpa using hi), fun a ha _ => we_var (x := .int (lo + a)) ?_ ⟨rfl, rfl, by rw [List.set_set, List.set_set]⟩, hO⟩
    show ((E'.sl.set j .no).set j (.d (.int (lo + a))))[j]? = _
    rw [List.getElem?_set_self (by simpa using hj)])
/-- the same, none passes -/
theorem wo_filtR0 {wi : TI} {j : Nat} (h : Wi K fx wi E fun its E1 => ∃ lo n, its = rangeD lo n ∧ n ≤ 100000 ∧ (∀ s, E1.sl[j]? = some s → ¬ isOwn s) ∧ j < E1.sl.length ∧
    (∀ i < n, Wt K fx tt ⟨(E1.sl.set j .no).set j (.d (.int (lo + i))), E1.n⟩ fun b E3 => b = false ∧ E3 = ⟨(E1.sl.set j .no).set j (.d (.int (lo + i))), E1.n⟩) ∧ O [] E1) : Wo K fx (tLc wi (gName j) tt (tVar j) [j]) E O :=
  wo_filtR fun c G σ H X A R k => h c G σ H X A R fun J its E' G' H' q => k J its E' G' H' (by
    obtain ⟨lo, n, rfl, hl, hn, hj, hs, hO⟩ := q
    refine ⟨lo, n, rfl, hl, hn, hj, fun _ => false, hs, ?_⟩
    have e : (List.range n).filter (fun _ => false) = [] := by simp
    rw [e]; exact hO)
def gi (ns : List Int) (i : Int) : Int := ns.getD i.toNat 0
theorem gi_get {ns : List Int} {i : Int} (h0 : 0 ≤ i) (h : i < ns.length) : ns[i.toNat]? = some (gi ns i) := by
  unfold gi
  rw [List.getD_eq_getElem?_getD, List.getElem?_eq_getElem (by omega)]; rfl
theorem gi_nat {ns : List Int} {k : Nat} {x : Int} (h : ns[k]? = some x) : gi ns k = x := by
  unfold gi
  rw [List.getD_eq_getElem?_getD, Int.toNat_natCast, h]; rfl
theorem gi_at {ns : List Int} {i : Int} (h0 : 0 ≤ i) (h : i < ns.length) : atI (zs ns) i = some (.int (gi ns i)) := zs_atI (atI_nat (k := i.toNat) (by omega) (gi_get h0 h))
theorem rop_ixZ {ns : List Int} {i : Int} (h0 : 0 ≤ i) (h1 : i < ns.length) (h : Q (.int (gi ns i)) E) : Rop K fx (rIx K) (.lst (zs ns)) (.int i) E Q := rop_ixL (gi_at h0 h1) h
theorem rop_ixZT {ns : List Int} {i : Int} (h0 : 0 ≤ i) (h1 : i < ns.length) (h : Q (.int (gi ns i)) E) : Rop K fx (rIx K) (.tup (zs ns)) (.int i) E Q := rop_ixT (gi_at h0 h1) h
theorem zs_map {α : Type} (xs : List α) (e : α → Int) : xs.map (fun x => D.int (e x)) = zs (xs.map e) := by simp [zs, List.map_map]
end
end Z
namespace Z
theorem zs_rep (k : Nat) (x : Int) : zs (List.replicate k x) = List.replicate k (.int x) := by simp [zs]
end Z
end
section
/-! == and != of an instance whose class has an __eq__ of its own -/
namespace ZE
open PySem PySem.W
section
variable {prog : Program} {w : World} {A : Around} {E : Value → Shared → Prop} {s : Shared} {K : Frag} {x C L f : Addr} {h₀ : Heap} {m : Str → Option Value} {ox : Obj} {od : Option Obj} {name : Str} {b tb : Value}
theorem ifBoundB {M : Model} {B id : String} {args : List Value} {Q : Option Value → Shared → Prop} (X : K.In s.heap) (I : InstAt s.heap x ox C od) (hs : findIn K (.ref C) name = some (some (.builtin id))) (S : PySem.Slot B name id)
    (h : wpAny M A (call (.builtin id) (.ref x :: args)) (fun v => Q (some v)) E s) : wpAny M A (callSpecialIfBound? (.ref x) name args) Q E s := by
  simp only [callSpecialIfBound?, bindSpecialIfBound?]
  refine wpAny_holding (wpAny_bind (wpAny_bind (wpAny_bind (I.type.here ((looks_findIn X hs).here ?_)))))
  have fin : wpAny M A (call (.builtin id) ([.ref x] ++ args) >>= fun v => pure (some v)) Q E s := wpAny_bind (wpAny_mono h (fun v s' h' => wpAny_pure h') fun _ _ h' => h')
  simp only [S.bind]
  refine wpAny_bind (wpAny_askSetting (wpAny_ite ?_))
  split
  · exact wpAny_bind (wpAny_pure (wpAny_pure (by exact fin)))
  · exact wpAny_tryCatch (wpAny_bind (wpAny_pure (wpAny_pure (by exact fin))))
theorem checkB {M : Model} {id owner n : String} {rest : List Value} {Q : Unit → Shared → Prop} (X : K.In s.heap) (I : InstAt s.heap x ox C od) (hk : builtinKind id = some .slot) (hs : splitId id = some (owner, n))
    (ha : argsOk id ⟨.ref x :: rest, []⟩) (hm : mroIn K C (.type owner) = some true) (hq : Q () s) : wpAny M A (checkBuiltinCall id ⟨.ref x :: rest, []⟩) Q E s := by
  simp only [checkBuiltinCall, hk, hs]
  refine wpAny_bind ?_
  unfold isInstance
  refine wpAny_bind (I.type.here ((looks_mroIn X hm).here ?_))
  simp only [Bool.not_true, Bool.false_eq_true, if_false]
  cases hsig : Manifest.signature? id with
  | none => exact wpAny_pure hq
  | some sig =>
    simp only [argsOk, hsig] at ha
    have h2 : Bind.checkArgs id sig ⟨.ref x :: rest, []⟩ = pure () := ha
    show wpAny M A (Bind.checkArgs id sig ⟨.ref x :: rest, []⟩) Q E _
    rw [h2]; exact wpAny_pure hq
theorem ne_entry {M : Model} {Q : Fin → Shared → Prop} (hu : A.units < cLine) (X : K.In s.heap) (I : InstAt s.heap x ox C od) (hs : findIn K (.ref C) "__eq__" = some (some (.ref f))) (hf : isFn K (.ref f) = true)
    (h : wpAny M A (call (.ref f) [.ref x, b]) (fun v s' => ∃ r, v = .bool r ∧ Q (.done (.ret (.bool (!r)))) s') E s) : wpAny M A (Builtin.«object.__ne__» ⟨[.ref x, b], []⟩) Q E s := by
  unfold Builtin.«object.__ne__»
  refine wpAny_bind (wpAny_pure ?_)
  refine wpAny_bind (wpAny_cRoomFor hu ?_)
  refine wpAny_bind (ifBound_K X I hs hf (wpAny_mono h (fun v s' hv => ?_) fun _ _ e => e))
  obtain ⟨r, rfl, q⟩ := hv
  repeat wp_step
  exact q
theorem ne_call (hu : A.units + 1 < cLine) (X : K.In s.heap) (I : InstAt s.heap x ox C od) (hm : mroIn K C (.type "object") = some true) (hs : findIn K (.ref C) "__eq__" = some (some (.ref f))) (hf : isFn K (.ref f) = true) {Q : Value → Shared → Prop}
    (h : wpAny (model prog w) A.in1 (call (.ref f) [.ref x, b]) (fun v s' => ∃ r, v = .bool r ∧ Q (.bool (!r)) s') E s) : wpAny (model prog w) A (call (.builtin "object.__ne__") [.ref x, b]) Q E s :=
  wpAny_call (codeAny_call_builtin F.cmp_object.ne.plain F.cmpEntry_ne (checkB X I F.cmpKind_ne F.cmpSplit_ne (F.cmpArgs_ne _ _) hm (ne_entry (by exact hu) X I hs hf h)))
theorem ne_K {Q : Value → Shared → Prop} (hu : A.units + 1 < cLine) (X : K.In s.heap) (I : InstAt s.heap x ox C od) (hb : Looks (model prog w) s.heap (typeOf b) tb) (hn : notFirst K C tb = true)
    (hm : mroIn K C (.type "object") = some true) (hne : findIn K (.ref C) "__ne__" = some (some (.builtin "object.__ne__"))) (hs : findIn K (.ref C) "__eq__" = some (some (.ref f))) (hf : isFn K (.ref f) = true)
    (h : wpAny (model prog w) A.in1 (call (.ref f) [.ref x, b]) (fun v s' => ∃ r, v = .bool r ∧ Q (.bool (!r)) s') E s) : wpAny (model prog w) A (richCompare .NotEq (.ref x) b) Q E s := by
  have one : wpAny (model prog w) A (tryCompare (.ref x) (cmpInfo .NotEq).2.1 b) (fun r s' => ∃ v, r = some v ∧ Q v s') E s := by
    unfold tryCompare
    refine wpAny_bind (ifBoundB X I hne PySem.F.cmp_object.ne (ne_call hu X I hm hs hf (wpAny_mono h (fun v s' hv => ?_) fun _ _ e => e)))
    obtain ⟨r, rfl, q⟩ := hv
    exact ⟨r, rfl, wpAny_pure ⟨_, rfl, q⟩⟩
  unfold richCompare
  simp only [oneThing_ref]
  refine wpAny_holding (wpAny_bind (wpAny_cRoomFor (Nat.lt_of_succ_lt hu) ?_))
  refine wpAny_bind (I.type.here (wpAny_bind (hb.here ?_)))
  split
  · rename_i q
    have e : subIn K tb (.ref C) = some false := by
      rcases Bool.or_eq_true_iff.mp hn with e | e
      · rw [beq_iff_eq.mp e] at q; simp at q
      · exact beq_iff_eq.mp e
    refine wpAny_bind ((looks_subIn X e).here ?_)
    simp only [Bool.false_eq_true, if_false]
    refine wpAny_bind (wpAny_mono one (fun r s' z => ?_) fun _ _ e => e)
    obtain ⟨v, rfl, hq⟩ := z
    exact wpAny_pure hq
  · refine wpAny_bind (wpAny_pure ?_)
    simp only [Bool.false_eq_true, if_false]
    refine wpAny_bind (wpAny_mono one (fun r s' z => ?_) fun _ _ e => e)
    obtain ⟨v, rfl, hq⟩ := z
    exact wpAny_pure hq
end
end ZE
namespace L2
open PySem PySem.W
/-- a class with an __eq__ of its own at f, the __ne__ of object -/
structure EqO (K : PySem.W.Frag) (C f : Addr) : Prop where
  hs : PySem.W.findIn K (.ref C) "__eq__" = some (some (.ref f))
  hf : PySem.W.isFn K (.ref f) = true
  hne : PySem.W.findIn K (.ref C) "__ne__" = some (some (.builtin "object.__ne__"))
  hm : PySem.W.mroIn K C (.type "object") = some true
section
variable {X : Cx} {n : Nat}
def rOwnE (K : PySem.W.Frag) (C : Addr) (sp : Sp) (E : XK) : R2 := fun x y H Q => ∃ a dx fs t, x = .ref a ∧ H a = some (.ins C dx fs) ∧ TyX K H y t ∧ PySem.W.notFirst K C t = true ∧ sp [x, y] H (fun v H' => ∃ b, v = .bl b ∧ Q (.bl b) H') E
def rOwnN (K : PySem.W.Frag) (C : Addr) (sp : Sp) (E : XK) : R2 := fun x y H Q => ∃ a dx fs t, x = .ref a ∧ H a = some (.ins C dx fs) ∧ TyX K H y t ∧ PySem.W.notFirst K C t = true ∧ sp [x, y] H (fun v H' => ∃ b, v = .bl b ∧ Q (.bl (!b)) H') E
theorem own_call {CX : CXT} {f : Addr} {fd : FuncData} {ps : List Str} {sp : Sp} {E : XK} (F : FnOk X.prog X.w X.K X.mg X.base CX n f fd ps sp) {A : Around} (hr : Room n A) (hfr : A.frames = X.A.frames) (hb : Binds X.K fd ps []) (hx : Passes CX X E)
    {pins : List (Addr × Obj)} {s : Shared} {σ : St} {H : Hp} {a : Addr} {y : V} {u : Value} (I : Inv X pins σ H s) (ry : RelV y u) {Q : V → Hp → Prop} (hsp : sp [.ref a, y] H Q E) :
    wpAny (model X.prog X.w) A (call (.ref f) [.ref a, u]) (fun r s' => ∃ z H', RelV z r ∧ Inv X pins σ H' s' ∧ Q z H') X.xe s := by
  have e0 : Env0 X.prog X.w X.K X.mg X.base A X.stack s H := by
    have e := I.env0
    exact ⟨by rw [hfr]; exact e.frames, e.mod, e.bs, e.bsz, e.funs, e.frf, e.hok, e.bare⟩
  have hl := F.len _ _ _ _ hsp
  have r2 : Vals [V.ref a, y] [Value.ref a, u] := .cons rfl (.cons ry .nil)
  refine wpAny_call (codeAny_mono (F.run A X.stack s H ⟨[.ref a, u], []⟩ [.ref a, u] [.ref a, y] _ E hr e0 (by
    have := hb s [.ref a, u] I.kIn (by simpa using hl)
    simpa using this) r2 hsp) fun r s' hq => ?_)
  cases r with
  | error e => exact hx pins σ H s e s' I hq
  | ok fl =>
    cases fl with
    | ret w =>
      obtain ⟨z, H', I', rz, q⟩ := I.after hq
      exact ⟨z, H', rz, I', q⟩
    | next => exact False.elim hq
    | brk => exact False.elim hq
    | cont => exact False.elim hq
theorem op_ownE {CX : CXT} {C f : Addr} {fd : FuncData} {ps : List Str} {sp : Sp} {E : XK} (F : FnOk X.prog X.w X.K X.mg X.base CX n f fd ps sp) (hr : Room n X.A) (o : EqO X.K C f) (hb : Binds X.K fd ps []) (hx : Passes CX X E) : OpR X (compareOp .Eq) (rOwnE X.K C sp E) := by
  intro pins s σ H x y v u Q I rx ry hq
  obtain ⟨a, dx, fs, t, rfl, ha, ty, hn, hsp⟩ := hq
  cases rx
  obtain ⟨mA, J, _⟩ := ins_get I.hok ha
  obtain ⟨od, J, _⟩ := J.look
  obtain ⟨m, hF⟩ := I.fr
  obtain ⟨P, Z, hP, _⟩ := kit_of I ry ty
  show wpAny (model X.prog X.w) X.A (richCompare .Eq (.ref a) u) (EP X pins σ Q) X.xe s
  refine PySem.W.cmp_K (op := .Eq) (tb := t) hr.units0 hF I.ok.mod.kin J (Z.ty _ _ I.kIn hP) hn o.hs o.hf ?_
  refine wpAny_mono (own_call F hr rfl hb hx I ry hsp) (fun r s' z => ?_) fun _ _ x => x
  obtain ⟨z, H', rz, I', b, rfl, q⟩ := z
  cases rz
  exact ⟨.bl b, H', I', rfl, q⟩
theorem op_ownN {CX : CXT} {C f : Addr} {fd : FuncData} {ps : List Str} {sp : Sp} {E : XK} (F : FnOk X.prog X.w X.K X.mg X.base CX n f fd ps sp) (hr : Room (n + 1) X.A) (o : EqO X.K C f) (hb : Binds X.K fd ps []) (hx : Passes CX X E) : OpR X (compareOp .NotEq) (rOwnN X.K C sp E) := by
  intro pins s σ H x y v u Q I rx ry hq
  obtain ⟨a, dx, fs, t, rfl, ha, ty, hn, hsp⟩ := hq
  cases rx
  obtain ⟨mA, J, _⟩ := ins_get I.hok ha
  obtain ⟨od, J, _⟩ := J.look
  obtain ⟨P, Z, hP, _⟩ := kit_of I ry ty
  show wpAny (model X.prog X.w) X.A (richCompare .NotEq (.ref a) u) (EP X pins σ Q) X.xe s
  refine ZE.ne_K (tb := t) (by have := hr.un; omega) I.kIn J (Z.ty _ _ I.kIn hP) hn o.hm o.hne o.hs o.hf ?_
  refine wpAny_mono (own_call F hr.in1 rfl hb hx I ry hsp) (fun r s' z => ?_) fun _ _ x => x
  obtain ⟨z, H', rz, I', b, rfl, q⟩ := z
  cases rz
  exact ⟨b, rfl, .bl (!b), H', I', rfl, q⟩
theorem op_eith {m : Value → Value → Sem Value} {r1 r2 : R2} (h1 : OpR X m r1) (h2 : OpR X m r2) : OpR X m (fun x y H Q => r1 x y H Q ∨ r2 x y H Q) := by
  intro pins s σ H x y v u Q I rx ry hq
  rcases hq with hq | hq
  · exact h1 pins s σ H x y v u Q I rx ry hq
  · exact h2 pins s σ H x y v u Q I rx ry hq
abbrev rEqOr (K : PySem.W.Frag) (C : Addr) (sp : Sp) (E : XK) : R2 := fun x y H Q => rEqD K x y H Q ∨ rOwnE K C sp E x y H Q
abbrev rNeOr (K : PySem.W.Frag) (C : Addr) (sp : Sp) (E : XK) : R2 := fun x y H Q => rNeD K x y H Q ∨ rOwnN K C sp E x y H Q
end
end L2
namespace Z
open PySem L2
section
variable {α : Type} {K : PySem.W.Frag} {fx : Fx} {E : Env} {c : Cn} {G H : Hp} {σ : St} {Q : D → Env → Prop}
/-- the rule of one reading is a rule of the reading of either -/
theorem rop_l {r1 r2 : R2} {x y : D} (h : Rop K fx r1 x y E Q) : Rop K fx (fun x y H Q => r1 x y H Q ∨ r2 x y H Q) x y E Q := fun c G σ H X A v u rv ru P k => .inl (h c G σ H X A v u rv ru P k)
theorem rop_r {r1 r2 : R2} {x y : D} (h : Rop K fx r2 x y E Q) : Rop K fx (fun x y H Q => r1 x y H Q ∨ r2 x y H Q) x y E Q := fun c G σ H X A v u rv ru P k => .inr (h c G σ H X A v u rv ru P k)
theorem nf_self {C : Addr} : PySem.W.notFirst K C (.ref C) = true := by simp [PySem.W.notFirst]
theorem rop_ownE {pm : Pm α} {EX : XK} {C : Addr} {fs : List (Str × D)} {y : D} {t : Value} (ht : TyD K y t) (hn : PySem.W.notFirst K C t = true) (h : Called pm fx EX [.ob C fs, y] E (fun d E' => ∃ b, d = .bl b ∧ Q (.bl b) E') fun _ _ => False) (hxx : isEx y = false := by with_unfolding_all rfl) :
    Rop K fx (rOwnE K C (spD K pm) EX) (.ob C fs) y E Q := fun c G σ H X A v u rv ru P k => by
  cases rv with
  | @ob a _ dx vs _ h1 r1 =>
    have ru' := ru
    refine ⟨a, dx, vs, t, rfl, A.ex _ _ h1, TyD.ofX A.ex ru ht hxx, hn, called X A (.cons (.ob h1 r1) (.cons ru .nil)) h (fun v d E' G' H' q A' m r => ?_) fun _ _ _ _ _ _ q => q.elim⟩
    obtain ⟨b, rfl, q⟩ := q
    cases r
    exact ⟨b, rfl, k _ _ _ _ _ q A' m (.bl b)⟩
theorem rop_ownN {pm : Pm α} {EX : XK} {C : Addr} {fs : List (Str × D)} {y : D} {t : Value} (ht : TyD K y t) (hn : PySem.W.notFirst K C t = true) (h : Called pm fx EX [.ob C fs, y] E (fun d E' => ∃ b, d = .bl b ∧ Q (.bl (!b)) E') fun _ _ => False) (hxx : isEx y = false := by with_unfolding_all rfl) :
    Rop K fx (rOwnN K C (spD K pm) EX) (.ob C fs) y E Q := fun c G σ H X A v u rv ru P k => by
  cases rv with
  | @ob a _ dx vs _ h1 r1 =>
    refine ⟨a, dx, vs, t, rfl, A.ex _ _ h1, TyD.ofX A.ex ru ht hxx, hn, called X A (.cons (.ob h1 r1) (.cons ru .nil)) h (fun v d E' G' H' q A' m r => ?_) fun _ _ _ _ _ _ q => q.elim⟩
    obtain ⟨b, rfl, q⟩ := q
    cases r
    exact ⟨b, rfl, k _ _ _ _ _ q A' m (.bl (!b))⟩
end
end Z
end
section
/-! the tuple read backwards -/
namespace HT
open PySem PySem.Spec PyProof.Rows
section
variable {prog : Program} {w : World} {A : Around} {E : Value → Shared → Prop} {s : Shared}
theorem adjust_rev (n : Nat) : Builtin.Slice.sliceAdjust none none (-1) (n : Int) = ((n : Int) - 1, -1) := by
  unfold Builtin.Slice.sliceAdjust
  simp
theorem places_rev (n : Nat) : Builtin.Slice.slicePlaces ((n : Int) - 1) (-1) (-1) = n := by
  unfold Builtin.Slice.slicePlaces
  simp
  split <;> omega
theorem fm_congr {α β : Type} {f g : α → Option β} : ∀ {l : List α}, (∀ a ∈ l, f a = g a) → l.filterMap f = l.filterMap g
  | [], _ => rfl
  | a :: l, h => by
    rw [List.filterMap_cons, List.filterMap_cons, h a (by simp), fm_congr fun b hb => h b (by simp [hb])]
theorem sliceApplied_rev {sl : Addr} {vl vu vs : Value} {n : Nat} {Q : Int × Int × Nat → Shared → Prop} (hs : s.heap.IsSliceOf sl vl vu vs) (pl : IsPart vl none) (pu : IsPart vu none) (ps : IsPart vs (some (-1)))
    (h : Q ((n : Int) - 1, -1, n) s) : wpAny (model prog w) A (Builtin.Slice.sliceApplied (.ref sl) (pure (n : Int))) Q E s := by
  obtain ⟨os, hos, hcs, hds⟩ := id hs
  unfold Builtin.Slice.sliceApplied Builtin.Slice.sliceFields
  refine wpAny_bind (wpAny_bind (wpAny_field hos hds (x := vl) rfl (wpAny_bind (wpAny_field hos hds (x := vu) rfl (wpAny_bind (wpAny_field hos hds (x := vs) rfl (wpAny_pure ?_)))))))
  refine wpAny_bind (slicePart_ ps ?_)
  show wpAny _ _ (if ((-1 : Int) == 0) = true then _ else _) _ _ s
  rw [if_neg (by decide)]
  refine wpAny_bind (slicePart_ pl (wpAny_bind (slicePart_ pu (wpAny_bind (wpAny_pure ?_)))))
  show wpAny _ _ (match Builtin.Slice.sliceAdjust none none (-1) (n : Int) with | (lo, hi) => pure (lo, (-1 : Int), Builtin.Slice.slicePlaces lo hi (-1))) _ _ s
  rw [adjust_rev]
  show wpAny _ _ (pure (((n : Int) - 1), (-1 : Int), Builtin.Slice.slicePlaces ((n : Int) - 1) (-1) (-1))) _ _ s
  rw [places_rev]
  exact wpAny_pure h
theorem pick_rev (xs : Array Value) : ((List.range xs.size).filterMap fun (m : Nat) => xs[(((xs.size : Nat) : Int) - 1 + (m : Int) * -1).toNat]?).toArray = xs.toList.reverse.toArray := by
  congr 1
  apply List.ext_getElem?
  intro i
  have e : ((List.range xs.size).filterMap fun (m : Nat) => xs[(((xs.size : Nat) : Int) - 1 + (m : Int) * -1).toNat]?) = (List.range xs.size).map fun m => xs.toList.reverse.getD m .none := by
    rw [← List.filterMap_eq_map]
    refine fm_congr fun m hm => ?_
    have hm' : m < xs.size := List.mem_range.mp hm
    have e1 : (((xs.size : Nat) : Int) - 1 + (m : Int) * -1).toNat = xs.size - 1 - m := by omega
    rw [e1]
    show _ = some (xs.toList.reverse.getD m .none)
    rw [List.getD_eq_getElem?_getD, List.getElem?_reverse (by simpa using hm'), Array.length_toList]
    rw [Array.getElem?_toList, Array.getElem?_eq_getElem (by omega)]
    rfl
  rw [e]
  by_cases hi : i < xs.size
  · rw [List.getElem?_map, List.getElem?_range hi]
    show some (xs.toList.reverse.getD i .none) = _
    rw [List.getD_eq_getElem?_getD]
    have : i < xs.toList.reverse.length := by simpa using hi
    rw [List.getElem?_eq_getElem this]
    rfl
  · rw [List.getElem?_eq_none (by simpa using hi), List.getElem?_eq_none (by simpa using hi)]
theorem getItem_tuple_rev {t sl : Addr} {items : Array Value} {vl vu vs : Value} {Q : Value → Shared → Prop} (ht : IsTup s.heap t items) (hs : s.heap.IsSliceOf sl vl vu vs) (pl : IsPart vl none) (pu : IsPart vu none) (ps : IsPart vs (some (-1)))
    (h : Q (.ref s.heap.objs.size) { s with heap := s.heap.push { cls := .type "tuple", data := .seq items.toList.reverse.toArray } })
    (hsz : items.size ≤ sizeLine) : wpAny (model prog w) A (getItem (.ref t) (.ref sl)) Q E s := by
  have htake : sizeOk (.seq items.toList.reverse.toArray) := by
    show items.toList.reverse.toArray.size ≤ sizeLine
    rw [List.size_toArray, List.length_reverse, Array.length_toList]
    exact hsz
  obtain ⟨os, hos, hcs, hds⟩ := id hs
  have hTs : s.TypeIs (.ref sl) "slice" := ⟨os, hos, hcs⟩
  unfold getItem
  try with_reducible refine wpAny_holding ?_
  first | refine wpAny_bind (wpAny_pure ?_) | skip
  refine wpAny_bind (wpAny_sequenceKey ht.typeIs (by decide) ?_)
  refine wpAny_bind (wpAny_callSpecial?_slot (name := Str.ofString "__getitem__") ht.typeIs PyProof.Rows.slot_tuple_getitem
    (wpAny_call_entry PyProof.Rows.slot_tuple_getitem ht.typeIs entry_tuple_getitem ?_ (args_tuple_getitem _ _)))
  show wpAny _ _ (Builtin.Tuple.tupleItemsOf (.ref t) >>= _) _ _ s
  refine wpAny_bind (tupleItemsOf_ ht ?_)
  refine wpAny_bind (wpAny_typeOf hTs ?_)
  rw [if_pos (by decide)]
  refine wpAny_bind (sliceApplied_rev hs pl pu ps ?_)
  have hno : ¬ ((((items.size : Nat) : Int) - 1 == 0 && (-1 : Int) == 1 && (items.size == items.size)) = true) := by
    simp
  show wpAny _ _ (if (((items.size : Nat) : Int) - 1 == 0 && (-1 : Int) == 1 && (items.size == items.size)) = true then _ else _) _ _ s
  rw [if_neg hno, pick_rev]
  first
    | exact wpAny_bind (m := Builtin.Tuple.tupleExact _) (wpAny_newObj_type (wpAny_pure ⟨_, rfl, wpAny_pure h⟩) htake)
    | exact wpAny_bind (m := Builtin.Tuple.tupleExact _) (wpAny_newObj_type (wpAny_bind (wpAny_pure (wpAny_pure ⟨_, rfl, wpAny_pure h⟩))) htake)
    | exact wpAny_bind (wpAny_bind (m := Builtin.Tuple.tupleExact _) (wpAny_newObj_type (wpAny_pure (wpAny_pure ⟨_, rfl, wpAny_pure h⟩)) htake))
    | exact wpAny_bind (wpAny_bind (m := Builtin.Tuple.tupleExact _) (wpAny_newObj_type (wpAny_pure ⟨_, rfl, wpAny_pure h⟩) htake))
end
end HT
namespace Z
open PySem PySem.Spec PyProof.Rows L2
section
variable {X : Cx}
def tRevU (K : PySem.W.Frag) (te : TE) : TE := fun σ H Q => te σ H fun x H1 => (∃ a xs, x = .ref a ∧ SqL K H1 a xs ∧ ∀ p, H1 p = none → Q (.ref p) (upd H1 p (.lst xs.reverse))) ∨ ∃ a xs, x = .ref a ∧ SqT K H1 a xs ∧ ∀ p, H1 p = none → Q (.ref p) (upd H1 p (.tup xs.reverse))
theorem pe_rev {e : Expr} {te : TE} {k : Nat} {p1 p2 p3 pos : Pos} (he : PE X e te) : PE X (.Subscript e (.Slice none none (some (.UnaryOp .USub (.Constant (.int 1) k p1) p2)) p3) pos) (tRevU X.K te) := by
  refine ⟨fun pins s σ H Q I h => ?_⟩
  refine Subscript_ (thn (he.run pins s σ H _ I h) fun v s1 ⟨x, H1, I1, r1, q1⟩ => ?_)
  have hst : PO X (some (.UnaryOp .USub (.Constant (.int 1) k p1) p2)) (tPart (tUn (rU fun i => .int (-i)) (tC (.int 1)))) := po_some (pe_un un_neg pe_int)
  refine wpAny_Slice (thn (po_none.run pins s1 σ H1 (fun o H2 => o = none ∧ H2 = H1) I1 ⟨rfl, rfl⟩) fun vl s2 ⟨l, H2, I2, pl, el, e2⟩ => ?_)
  subst el e2
  refine thn (po_none.run pins s2 σ H2 (fun o H3 => o = none ∧ H3 = H2) I2 ⟨rfl, rfl⟩) fun vu s3 ⟨u, H3, I3, pu, eu, e3⟩ => ?_
  subst eu e3
  refine thn (hst.run pins s3 σ H3 (fun o H4 => o = some (-1) ∧ H4 = H3) I3 ⟨1, rfl, -1, rfl, rfl, rfl⟩) fun vs s4 ⟨o, H4, I4, ps, eo, e4⟩ => ?_
  subst eo e4
  have I5 : Inv X pins σ H4 { s4 with heap := s4.heap.push { cls := .type "slice", data := .fields #[vl, vu, vs] } } := I4.kept (t' := s4.toks) fun b ob q => Heap.get?_push_of_some _ q
  rcases q1 with q1 | q1
  · obtain ⟨a, xs, ex, hx, q⟩ := q1
    subst ex
    cases r1
    obtain ⟨its, r, ht, hz⟩ := I5.list hx
    have hlen := r.length
    show wpAny (model X.prog X.w) X.A (subscriptTail e (.Slice none none (some (.UnaryOp .USub (.Constant (.int 1) k p1) p2)) p3) (.ref a) (.ref s4.heap.objs.size)) (EP X pins σ Q) X.xe { s4 with heap := s4.heap.push { cls := .type "slice", data := .fields #[vl, vu, vs] } }
    refine tail_any (ops := [.ref a, .ref s4.heap.objs.size]) ht.isList.typeIs (PySem.slot_list_getitem.lookup) ?_ (by with_unfolding_all rfl)
    refine wpAny_getItem_list_slice ht.isList (Heap.IsSliceOf.new _ vl vu vs) pl pu ps (by decide) ?_ (by rw [List.size_toArray]; omega)
    rw [PySem.W.krv_pick]
    refine ⟨.ref _, _, I5.laid (t' := s4.toks) (o := .lst xs.reverse) (fun b ob q => Heap.get?_push_of_some _ q) (Nat.le_refl _) ?_, rfl, q _ (I5.hok.fresh (Nat.le_refl _))⟩
    exact ⟨by rw [List.length_reverse]; exact hz, _, 0, r.reverse, Heap.get?_push_size _ rfl⟩
  · obtain ⟨a, xs, ex, hx, q⟩ := q1
    subst ex
    cases r1
    obtain ⟨its, r, ht, hz⟩ := I5.tuple hx
    have hlen := r.length
    show wpAny (model X.prog X.w) X.A (subscriptTail e (.Slice none none (some (.UnaryOp .USub (.Constant (.int 1) k p1) p2)) p3) (.ref a) (.ref s4.heap.objs.size)) (EP X pins σ Q) X.xe { s4 with heap := s4.heap.push { cls := .type "slice", data := .fields #[vl, vu, vs] } }
    refine tail_any (ops := [.ref a, .ref s4.heap.objs.size]) ht.typeIs (PyProof.Rows.slot_tuple_getitem.lookup) ?_ (by with_unfolding_all rfl)
    refine HT.getItem_tuple_rev ht (Heap.IsSliceOf.new _ vl vu vs) pl pu ps ?_ (by rw [List.size_toArray]; omega)
    refine ⟨.ref _, _, I5.laid (t' := s4.toks) (o := .tup xs.reverse) (fun b ob q => Heap.get?_push_of_some _ q) (Nat.le_refl _) ?_, rfl, q _ (I5.hok.fresh (Nat.le_refl _))⟩
    exact ⟨by rw [List.length_reverse]; exact hz, _, r.reverse, IsTup.new _ _⟩
end
section
variable {K : PySem.W.Frag} {fx : Fx} {E : Env} {te : TE} {ta : TA} {c : Cn} {G H : Hp} {σ : L2.St} {Q : D → Env → Prop} {O : List D → Env → Prop}
theorem we_revT (h : We K fx te E fun d E' => ∃ ds, d = .tup ds ∧ Q (.tup ds.reverse) E') : We K fx (tRevU K te) E Q := fun c G σ H X A P k =>
  h c G σ H X A _ fun v d E' G' H' q A' m r => by
    obtain ⟨ds, rfl, q⟩ := q
    cases r with
    | @tup a vs _ h1 r1 =>
      refine .inr ⟨a, vs, rfl, A'.ex.t h1, fun p hp => ?_⟩
      have m2 : Mv c G' H' (upd G' p (.tup vs.reverse)) (upd H' p (.tup vs.reverse)) := Mv.laid A'.ex hp
      refine k (.ref p) _ E' _ _ q (A'.move0 m2 fun a u e => by rw [upd_ne (ne_of_none e hp)]; exact e) (m.trans m2.mw) (.tup ?_ (r1.reverse.mono m2.ex))
      exact .inl (.inl upd_same)
theorem wo_rev (h : We K fx te E fun d E' => ∃ ds, d = .lst ds ∧ O ds.reverse E') : Wo K fx (tRevU K te) E O := fun c G σ H X A P k =>
  h c G σ H X A _ fun v d E' G' H' q A' m r => by
    obtain ⟨ds, rfl, q⟩ := q
    cases r with
    | @lst a vs _ h1 r1 =>
      refine .inl ⟨a, vs, rfl, .inl (.inl (A'.ex _ _ h1)), fun p hp => ?_⟩
      have m2 := Mv.hid (c := c) (o := HO.lst vs.reverse) A'.ex hp
      exact k p _ _ _ _ _ q (A'.move0 m2 (fun a u e => by rw [upd_ne (ne_of_none e hp)]; exact e)) (m.trans m2.mw) ⟨A'.ex.free hp, B_free A' hp, own_free A' hp⟩ upd_same r1.reverse
end
end Z
namespace Z
open PySem L2
section
variable {K : PySem.W.Frag} {fx : Fx} {E : Env} {te : TE} {tt : TT} {ta : TA} {c : Cn} {G H : Hp} {σ : L2.St} {Q : List D → Env → Prop} {O : List D → Env → Prop}
def zipD (xs ys : List D) : List D := List.zipWith (fun x y => D.tup [x, y]) xs ys
theorem zipD_length (xs ys : List D) : (zipD xs ys).length = min xs.length ys.length := by simp [zipD]
theorem walk_zl {a b : Addr} {vs us : List V} {xs ys : List D} (ha : SqL K G a vs) (hb : SqL K G b us) (ra : Rps K G vs xs) (rb : Rps K G us ys) : Walk K G (zipD xs ys) (Itz K a b) := by
  intro H i e
  have la := ra.length
  have lb := rb.length
  refine ⟨fun hi => ?_, fun hi => ?_⟩
  · rw [zipD_length] at hi
    obtain ⟨x, hx⟩ : ∃ x, xs[i]? = some x := ⟨_, List.getElem?_eq_getElem (by omega)⟩
    obtain ⟨y, hy⟩ : ∃ y, ys[i]? = some y := ⟨_, List.getElem?_eq_getElem (by omega)⟩
    obtain ⟨v, hv, rv⟩ := ra.get hx
    obtain ⟨u, hu, ru⟩ := rb.get hy
    refine ⟨⟨vs, us, v, u, e.l ha, e.l hb, hv, hu⟩, fun z H' ⟨T, v', u', e1, e2, e3, e4, e5⟩ => ?_⟩
    have w1 := e4 vs (e.l ha)
    have w2 := e5 us (e.l hb)
    rw [hv] at w1; rw [hu] at w2
    cases w1; cases w2
    refine ⟨.tup [x, y], by simp [zipD, List.getElem?_zipWith, hx, hy], .inr ⟨T, [v, u], [x, y], e1, e2, e3, rfl, .cons rv (.cons ru .nil)⟩⟩
  · rw [zipD_length] at hi
    exact ⟨vs, us, e.l ha, e.l hb, by omega⟩
theorem walk_zt {a b : Addr} {vs us : List V} {xs ys : List D} (ha : SqT K G a vs) (hb : SqT K G b us) (ra : Rps K G vs xs) (rb : Rps K G us ys) : Walk K G (zipD xs ys) (RZ.ItzT K a b) := by
  intro H i e
  have la := ra.length
  have lb := rb.length
  refine ⟨fun hi => ?_, fun hi => ?_⟩
  · rw [zipD_length] at hi
    obtain ⟨x, hx⟩ : ∃ x, xs[i]? = some x := ⟨_, List.getElem?_eq_getElem (by omega)⟩
    obtain ⟨y, hy⟩ : ∃ y, ys[i]? = some y := ⟨_, List.getElem?_eq_getElem (by omega)⟩
    obtain ⟨v, hv, rv⟩ := ra.get hx
    obtain ⟨u, hu, ru⟩ := rb.get hy
    refine ⟨⟨vs, us, v, u, e.t ha, e.t hb, hv, hu⟩, fun z H' ⟨T, v', u', e1, e2, e3, e4, e5⟩ => ?_⟩
    have w1 := e4 vs (e.t ha)
    have w2 := e5 us (e.t hb)
    rw [hv] at w1; rw [hu] at w2
    cases w1; cases w2
    refine ⟨.tup [x, y], by simp [zipD, List.getElem?_zipWith, hx, hy], .inr ⟨T, [v, u], [x, y], e1, e2, e3, rfl, .cons rv (.cons ru .nil)⟩⟩
  · rw [zipD_length] at hi
    exact ⟨vs, us, e.t ha, e.t hb, by omega⟩
theorem wi_zipL (h : Wa K fx ta E fun ds E' => ∃ xs ys, ds = [.lst xs, .lst ys] ∧ Q (zipD xs ys) E') : Wi K fx (RZ.iZipA K ta) E Q := fun c G σ H X A R k => h c G σ H X A _ fun vs ds E' G' H' q A' m r => by
  obtain ⟨xs, ys, rfl, q⟩ := q
  cases r with
  | cons r1 r =>
    cases r with
    | cons r2 r =>
      cases r
      cases r1 with
      | @lst a us _ h1 r1 =>
        cases r2 with
        | @lst b ws _ h2 r2 =>
          exact ⟨a, b, us, ws, rfl, .inl ⟨.inl (.inl (A'.ex _ _ h1)), .inl (.inl (A'.ex _ _ h2)), k _ _ _ _ _ q A' m (walk_zl (.inl (.inl h1)) (.inl (.inl h2)) r1 r2)⟩⟩
theorem wi_zipT (h : Wa K fx ta E fun ds E' => ∃ xs ys, ds = [.tup xs, .tup ys] ∧ Q (zipD xs ys) E') : Wi K fx (RZ.iZipA K ta) E Q := fun c G σ H X A R k => h c G σ H X A _ fun vs ds E' G' H' q A' m r => by
  obtain ⟨xs, ys, rfl, q⟩ := q
  cases r with
  | cons r1 r =>
    cases r with
    | cons r2 r =>
      cases r
      cases r1 with
      | @tup a us _ h1 r1 =>
        cases r2 with
        | @tup b ws _ h2 r2 =>
          exact ⟨a, b, us, ws, rfl, .inr ⟨A'.ex.t h1, A'.ex.t h2, k _ _ _ _ _ q A' m (walk_zt h1 h2 r1 r2)⟩⟩
/-- [e for x, y in .. if t], what is walked told by c1, c2 -/
theorem wo_mapC2 (α : Type) {wi : TI} {n j l : Nat} {O : List D → Env → Prop} (h : Wi K fx wi E fun its E1 => ∃ (c1 c2 : α → D) (xs : List α), its = xs.map (fun a => .tup [c1 a, c2 a]) ∧ n = 2 ∧ xs.length ≤ 100000 ∧ noOwn E1.sl [j, l] ∧ ∃ (p : α → Bool) (g : α → D),
    (∀ a ∈ xs, Wt K fx tt ⟨((wipeL E1.sl [j, l]).set j (.d (c1 a))).set l (.d (c2 a)), E1.n⟩ fun b E3 => b = p a ∧ E3 = ⟨((wipeL E1.sl [j, l]).set j (.d (c1 a))).set l (.d (c2 a)), E1.n⟩) ∧
    (∀ a ∈ xs, p a = true → We K fx te ⟨((wipeL E1.sl [j, l]).set j (.d (c1 a))).set l (.d (c2 a)), E1.n⟩ fun y E4 => y = g a ∧ E4.n = E1.n ∧ wipeL E4.sl [j, l] = wipeL E1.sl [j, l]) ∧ O ((xs.filter p).map g) E1) :
    Wo K fx (tLc wi (gTup K n (gCons (gName j) (gCons (gName l) gNil))) tt te [j, l]) E O := by
  refine wo_lc (js := [j] ++ ([l] ++ [])) fun c G σ H X A R k => h c G σ H X A R fun J its E' G' H' q => k J its E' G' H' ?_
  obtain ⟨c1, c2, xs, rfl, rfl, hl, hn, p, g, ht, hs, hO⟩ := q
  have ew : ∀ a, wipeL (((wipeL E'.sl [j, l]).set j (.d (c1 a))).set l (.d (c2 a))) [j, l] = wipeL E'.sl [j, l] := fun a => by
    apply List.ext_getElem?
    intro i
    simp only [wipeL, List.getElem?_set, List.length_set]
    (repeat' split) <;> simp_all
  refine ⟨by simp, by rw [List.length_map]; exact hl, hn, fun i acc n => acc = ((xs.take i).filter p).map g ∧ n = E'.n, ⟨rfl, rfl⟩, ?_, ?_⟩
  · rintro i d acc n hd ha ⟨rfl, rfl⟩
    rw [List.getElem?_map, Option.map_eq_some_iff] at hd
    obtain ⟨a, hd, rfl⟩ := hd
    have am := List.mem_of_getElem? hd
    refine wg_tup rfl (wgs_cons (wg_name (wgs_cons (wg_name (wgs_nil ?_)))))
    have et : xs.take (i + 1) = xs.take i ++ [a] := by rw [List.take_succ, hd]; rfl
    intro c G σ H X A P k
    refine ht a am c G σ H X A P fun b E4 G4 H4 ⟨q1, q2⟩ A4 m4 => k b E4 G4 H4 ⟨fun hb => ?_, fun hb => ?_⟩ A4 m4
    · subst q2
      refine We.mono (hs a am (by rw [← q1, hb])) fun y E5 h5 => ⟨h5.2.2, ?_, h5.2.1⟩
      rw [et, List.filter_append, List.map_append, List.filter_cons, ← q1, hb, h5.1]
      rfl
    · subst q2
      refine ⟨ew a, ?_, rfl⟩
      rw [et, List.filter_append, List.map_append, List.filter_cons, ← q1, hb]
      simp
  · rintro acc n _ ⟨rfl, rfl⟩
    rw [List.length_map, List.take_length]
    exact hO
end
end Z
namespace Z
open PySem PySem.Spec PyProof.Rows L2
/-- o.m(e, .., k = v, ..) -/
def tMethN (C : Addr) (m : Str) (n k : Nat) (sp : Sp) (gV : List V → List V → List V) (E : XK) (ta : TE) (t tk : TA) : TE := fun σ H Q => ta σ H fun x H1 => ∃ a dx fs, x = .ref a ∧ H1 a = some (.ins C dx fs) ∧ fs.lookup m = none ∧
  t σ H1 fun vs H2 => tk σ H2 fun zs H3 => vs.length = n ∧ zs.length = k ∧ sp (gV (x :: vs) zs) H3 Q E
section
variable {X : Cx} {CX : CXT} {k n : Nat} {f C : Addr} {fd : FuncData} {ps ks : List Str} {sp : Sp} {E : XK} {m : Str} {apos pos : Pos} {e o : Expr} {es : List Expr} {kws : List Keyword} {ta : TE} {t tk : TA} {g : List Value → List Value → List Value} {gV : List V → List V → List V}
theorem pe_methK0 {pl : Sem Bool} (he : PE X o ta) (c : Cls X.K C) (hm : Meth X.K C m f) (F : FnOk X.prog X.w X.K X.mg X.base CX k f fd ps sp) (hr : Room k X.A) (hb : KBn X.K fd ps 1 ks g gV) (hx : Passes CX X E)
    (hkw : PK X kws tk) (hall : (backToKw pos (keywordEach kws X.env)).all (·.1.isSome) = true := by rfl) (hks : (backToKw pos (keywordEach kws X.env)).filterMap (·.1) = ks := by rfl)
    (hpl : ((backTo pos (starEach [] X.env)).any (·.1) || (backToKw pos (keywordEach kws X.env)).any (·.1.isNone)) = false := by rfl)
    (ht : eval (.Call (.Attribute o m apos) [] kws pos) X.env = (do
      let ov ← eval o X.env
      standAt apos.atName
      let (f, first) ← holding [ov] (getMethod ov m pl)
      callWith pos f first (backTo pos (starEach [] X.env)) (backToKw pos (keywordEach kws X.env))) := by rfl) :
    PE X (.Call (.Attribute o m apos) [] kws pos) (tMethN C m 0 ks.length sp gV E ta tNil tk) := by
  refine ⟨fun pins s σ H Q I h => ?_⟩
  refine PySem.W.methodCall_KW (pl := pl) (thn (he.run pins s σ H _ I h) fun u s1 ⟨x, H1, I1, rx, a, dx, fs, ex, ea, l, q⟩ => ?_) ht
  subst ex
  obtain rfl : u = Value.ref a := rx
  refine getmeth_ok I1 ea c hm l ?_
  refine PySem.W.callWith_KW0 (h₀ := X.base) (first := [.ref a]) I.ok.mod.kin hm.kp hall ?_ hpl
  refine thn (hkw.run pos pins s1 σ H1 _ I1 q) fun ws s2 ⟨zs, H2, I2, rz, l1, l2, q2⟩ => ⟨I2.kIn, ?_⟩
  rw [hks]
  exact run_fnN (us := [.ref a]) (vs := [.ref a]) F hr hb hx I2 (.cons rfl .nil) rz rfl l2 q2
theorem pe_methK {pl : Sem Bool} (he : PE X o ta) (c : Cls X.K C) (hm : Meth X.K C m f) (F : FnOk X.prog X.w X.K X.mg X.base CX k f fd ps sp) (hr : Room k X.A) (hb : KBn X.K fd ps (n + 1) ks g gV) (hx : Passes CX X E)
    (hp : PA X (e :: es) t) (hkw : PK X kws tk) (hall : (backToKw pos (keywordEach kws X.env)).all (·.1.isSome) = true := by rfl) (hks : (backToKw pos (keywordEach kws X.env)).filterMap (·.1) = ks := by rfl)
    (hse : starEach (e :: es) X.env = (false, eval e X.env) :: starEach es X.env := by rfl)
    (hpl : ((backTo pos (starEach (e :: es) X.env)).any (·.1) || (backToKw pos (keywordEach kws X.env)).any (·.1.isNone)) = false := by rfl)
    (ht : eval (.Call (.Attribute o m apos) (e :: es) kws pos) X.env = (do
      let ov ← eval o X.env
      standAt apos.atName
      let (f, first) ← holding [ov] (getMethod ov m pl)
      callWith pos f first (backTo pos (starEach (e :: es) X.env)) (backToKw pos (keywordEach kws X.env))) := by rfl) :
    PE X (.Call (.Attribute o m apos) (e :: es) kws pos) (tMethN C m n ks.length sp gV E ta t tk) := by
  refine ⟨fun pins s σ H Q I h => ?_⟩
  refine PySem.W.methodCall_KW (pl := pl) (thn (he.run pins s σ H _ I h) fun u s1 ⟨x, H1, I1, rx, a, dx, fs, ex, ea, l, q⟩ => ?_) ht
  subst ex
  obtain rfl : u = Value.ref a := rx
  refine getmeth_ok I1 ea c hm l ?_
  refine PySem.W.callWith_KW (h₀ := X.base) (first := [.ref a]) I.ok.mod.kin hm.kp hall (thn (hp.run pos pins s1 σ H1 _ I1 q) fun us s2 ⟨vs, H2, I2, r, q2⟩ => ?_) hpl hse
  refine thn (hkw.run pos pins s2 σ H2 _ I2 q2) fun ws s3 ⟨zs, H3, I3, rz, l1, l2, q3⟩ => ⟨I3.kIn, ?_⟩
  rw [hks]
  exact run_fnN (us := .ref a :: us) (vs := .ref a :: vs) F hr hb hx I3 (.cons rfl r) rz (by rw [List.length_cons, l1]) l2 q3
end
section
variable {α : Type} {K : PySem.W.Frag} {fx : Fx} {E : Env} {te : TE} {ta tk : TA} {Q : D → Env → Prop}
theorem we_methP {pm : Pm α} {EX : XK} {l : List Nat} {n k : Nat} {C : Addr} {m : Str} (h : We K fx te E fun o E0 => ∃ fs, o = .ob C fs ∧ fs.lookup m = none ∧ Wa K fx ta E0 fun ds E1 => Wa K fx tk E1 fun es E2 => (ds.length = n ∧ es.length = k) ∧ Called pm fx EX (perm l (o :: ds) es) E2 Q fun _ _ => False) :
    We K fx (tMethN C m n k (spD K pm) (fun vs zs => perm l vs zs) EX te ta tk) E Q := fun c G σ H X A P k => h c G σ H X A _ fun v d E1 G1 H1 q1 A1 m1 r1 => by
  obtain ⟨fs, rfl, hl, q⟩ := q1
  cases r1 with
  | @ob a _ dx vs _ h1 rf =>
    refine ⟨a, dx, vs, rfl, A1.ex _ _ h1, rf.nolook hl, q c G1 σ H1 X A1 _ fun us ds E2 G2 H2 q2 A2 m2 r2 => q2 c G2 σ H2 X A2 _ fun ws es E3 G3 H3 q3 A3 m3 r3 => ?_⟩
    obtain ⟨⟨l1, l2⟩, q3⟩ := q3
    have ro : Rp K G3 (.ref a) (.ob C fs) := (Rp.ob h1 rf).mono (m2.ex.trans m3.ex)
    refine ⟨by rw [r2.length]; exact l1, by rw [r3.length]; exact l2, called X A3 (perm_rps (.cons ro (r2.mono m3.ex)) r3) q3 (fun v d E' G' H' q A' m r => k v d E' G' H' q A' (((m1.trans m2).trans m3).trans m) r) fun _ _ _ _ _ _ q => q.elim⟩
end
end Z
namespace Z
open PySem L2
section
variable {K : PySem.W.Frag} {fx : Fx} {E : Env} {te : TE} {tt : TT} {ta : TA} {c : Cn} {G H : Hp} {σ : L2.St} {Q : D → Env → Prop} {O : List D → Env → Prop}
theorem zs_rev (ns : List Int) : (zs ns).reverse = zs ns.reverse := by simp [zs]
theorem we_revTZ (h : We K fx te E fun d E' => ∃ ns, d = .tup (zs ns) ∧ Q (.tup (zs ns.reverse)) E') : We K fx (tRevU K te) E Q :=
  we_revT (We.mono h fun d E' ⟨ns, e, q⟩ => ⟨zs ns, e, by rw [zs_rev]; exact q⟩)
theorem we_revLZ (h : We K fx te E fun d E' => ∃ ns, d = .lst (zs ns) ∧ Q (.lst (zs ns.reverse)) E') : We K fx (tRevU K te) E Q :=
  we_of (wo_rev (We.mono h fun d E' ⟨ns, e, q⟩ => ⟨zs ns, e, by rw [zs_rev]; exact q⟩))
theorem rop_catZ {xs ys : List Int} (hl : xs.length + ys.length ≤ 1000000) (h : Q (.lst (zs (xs ++ ys))) E) : Rop K fx (rAddU K) (.lst (zs xs)) (.lst (zs ys)) E Q :=
  rop_cat (by rw [zs_length, zs_length]; exact hl) (by rw [zs_app]; exact h)
theorem rop_catTZ {xs ys : List Int} (hl : xs.length + ys.length ≤ 1000000) (h : Q (.tup (zs (xs ++ ys))) E) : Rop K fx (rAddU K) (.tup (zs xs)) (.tup (zs ys)) E Q :=
  rop_catT (by rw [zs_length, zs_length]; exact hl) (by rw [zs_app]; exact h)
theorem zs_one (i : Int) : zs [i] = [.int i] := rfl
theorem rop_catZ1 {xs : List Int} {i : Int} (hl : xs.length ≤ 100000) (h : Q (.lst (zs (xs ++ [i]))) E) : Rop K fx (rAddU K) (.lst (zs xs)) (.lst [.int i]) E Q := rop_catZ (ys := [i]) (by simp only [List.length_cons, List.length_nil]; omega) h
theorem rop_cat1Z {xs : List Int} {i : Int} (hl : xs.length ≤ 100000) (h : Q (.lst (zs (i :: xs))) E) : Rop K fx (rAddU K) (.lst [.int i]) (.lst (zs xs)) E Q := rop_catZ (xs := [i]) (by simp only [List.length_cons, List.length_nil]; omega) h
theorem rop_repZ {x : Int} {k : Int} (hk : 0 ≤ k ∧ k ≤ 1000) (h : Q (.lst (zs (List.replicate k.toNat x))) E) : Rop K fx (rMulU K) (.lst [.int x]) (.int k) E Q := rop_rep1 hk (by rw [← zs_rep]; exact h)
/-- the part from a to b, both within -/
theorem zs_cutN {ns : List Int} {a b : Int} (h0 : 0 ≤ a) (h1 : a ≤ b) (h2 : b ≤ ns.length) : cutD (zs ns) (some a) (some b) = zs ((ns.drop a.toNat).take (b.toNat - a.toNat)) := by
  rw [zs_cut]
  have e1 : HT.sIx ns.length 0 (some a) = a.toNat := by unfold HT.sIx; simp only [Option.elim]; (repeat' split) <;> omega
  have e2 : HT.sIx ns.length ns.length (some b) = b.toNat := by unfold HT.sIx; simp only [Option.elim]; (repeat' split) <;> omega
  rw [e1, e2]
theorem zs_cutT {ns : List Int} {b : Int} (h1 : 0 ≤ b) (h2 : b ≤ ns.length) : cutD (zs ns) none (some b) = zs (ns.take b.toNat) := by
  rw [zs_cut]
  have e1 : HT.sIx ns.length 0 none = 0 := by unfold HT.sIx; simp
  have e2 : HT.sIx ns.length ns.length (some b) = b.toNat := by unfold HT.sIx; simp only [Option.elim]; (repeat' split) <;> omega
  rw [e1, e2]; simp
theorem zs_cutD {ns : List Int} {a : Int} (h1 : 0 ≤ a) (h2 : a ≤ ns.length) : cutD (zs ns) (some a) none = zs (ns.drop a.toNat) := by
  rw [zs_cut]
  have e1 : HT.sIx ns.length 0 (some a) = a.toNat := by unfold HT.sIx; simp only [Option.elim]; (repeat' split) <;> omega
  have e2 : HT.sIx ns.length ns.length none = ns.length := by unfold HT.sIx; simp
  rw [e1, e2, List.take_of_length_le (by rw [List.length_drop]; omega)]
theorem zipD_zs (xs ys : List Int) : zipD (zs xs) (zs ys) = (xs.zip ys).map fun p => .tup [.int p.1, .int p.2] := by
  unfold zipD zs
  rw [List.zipWith_map, List.zip, List.map_zipWith]
/-- [e for x, y in zip(xs, ys)] -/
theorem wo_mapZip {wi : TI} {n j l : Nat} (h : Wi K fx wi E fun its E1 => ∃ xs ys : List Int, its = zipD (zs xs) (zs ys) ∧ n = 2 ∧ xs.length ≤ 100000 ∧ noOwn E1.sl [j, l] ∧ ∃ g : Int → Int → D,
    (∀ a b, (a, b) ∈ xs.zip ys → We K fx te ⟨((wipeL E1.sl [j, l]).set j (.d (.int a))).set l (.d (.int b)), E1.n⟩ fun y E4 => y = g a b ∧ E4.n = E1.n ∧ wipeL E4.sl [j, l] = wipeL E1.sl [j, l]) ∧ O (List.zipWith g xs ys) E1) :
    Wo K fx (tLc wi (gTup K n (gCons (gName j) (gCons (gName l) gNil))) tYes te [j, l]) E O :=
  wo_mapC2 (Int × Int) fun c G σ H X A R k => h c G σ H X A R fun J its E' G' H' q => k J its E' G' H' (by
    obtain ⟨xs, ys, rfl, hn2, hl, hn, g, hs, hO⟩ := q
    refine ⟨fun p => .int p.1, fun p => .int p.2, xs.zip ys, zipD_zs xs ys, hn2, by rw [List.length_zip]; omega, hn, fun _ => true, fun p => g p.1 p.2, fun a _ => wt_yes ⟨rfl, rfl⟩, fun a ha _ => hs a.1 a.2 ha, ?_⟩
    rw [List.filter_eq_self.mpr (by simp), List.zip, List.map_zipWith]
    exact hO)
theorem rop_repT {xs : List D} {k : Int} (hn : xs ≠ []) (hk : 1 ≤ k ∧ k ≤ 1000) (hl : xs.length ≤ 1000) (h : Q (.tup (List.replicate k.toNat xs).flatten) E) : Rop K fx (rMulU K) (.tup xs) (.int k) E Q := fun c G σ H X A v u rv ru P q => by
  cases ru
  by_cases e : k = 1
  · subst e
    have e2 : (List.replicate (1 : Int).toNat xs).flatten = xs := by
      show (List.replicate 1 xs).flatten = xs
      simp
    rw [e2] at h
    cases rv with
    | @tup a us _ h1 r1 => exact .inr (.inr (.inr (.inr ⟨a, us, rfl, rfl, A.ex.t h1, q _ _ _ _ _ h A Mw.refl (.tup h1 r1)⟩)))
  · cases rv with
    | @tup a us _ h1 r1 =>
      have hu : us ≠ [] := fun z => hn (List.eq_nil_of_length_eq_zero (by rw [← r1.length, z]; rfl))
      refine .inr (.inr (.inr (.inl ⟨a, k, us, rfl, rfl, A.ex.t h1, hu, by omega, hk.2, by rw [r1.length]; exact hl, fun p hp => ?_⟩)))
      have m2 : Mv c G H (upd G p (.tup (List.replicate k.toNat us).flatten)) (upd H p (.tup (List.replicate k.toNat us).flatten)) := Mv.laid A.ex hp
      exact q (.ref p) _ E _ _ h (A.move0 m2 fun a u e => by rw [upd_ne (ne_of_none e hp)]; exact e) m2.mw (.tup (.inl (.inl upd_same)) ((r1.rep k.toNat).mono m2.ex))
theorem rop_repT1 {x : D} {k : Int} (hk : 1 ≤ k ∧ k ≤ 1000) (h : Q (.tup (List.replicate k.toNat x)) E) : Rop K fx (rMulU K) (.tup [x]) (.int k) E Q := rop_repT (by simp) hk (by simp) (by
  have e : ∀ n, (List.replicate n [x]).flatten = List.replicate n x := fun n => by
    induction n with
    | zero => rfl
    | succ n ih => rw [List.replicate_succ, List.flatten_cons, ih]; rfl
  rw [e]; exact h)
theorem rop_repTZ {x : Int} {k : Int} (hk : 1 ≤ k ∧ k ≤ 1000) (h : Q (.tup (zs (List.replicate k.toNat x))) E) : Rop K fx (rMulU K) (.tup [.int x]) (.int k) E Q := rop_repT1 hk (by rw [← zs_rep]; exact h)
theorem wg_unl {n : Nat} {gs : TGs} {js : List Nat} {ds : List D} {E : Env} {Q : Env → Prop} (e : ds.length = n) (h : Wgs K fx js gs ds E Q) : Wg K fx js (gUnl K n gs) (.lst ds) E Q := fun c G σ H X A x r P k => by
  cases r with
  | lst hq rs => exact ⟨_, _, rfl, .inl (.inl (A.ex _ _ hq)), by rw [rs.length]; exact e, h c G σ H X A _ rs P k⟩
theorem ws_unl2 {i j n : Nat} {P : Po} (h : We K fx te E fun d E' => ∃ x y, d = .lst [x, y] ∧ n = 2 ∧ P.nx ((E'.set i (.d x)).set j (.d y))) : Ws K fx (tAsg te (gUnl K n (gCons (gName i) (gCons (gName j) gNil)))) E P :=
  ws_asg (js := [i] ++ ([j] ++ [])) (We.mono h fun d E' ⟨x, y, e, hn, q⟩ => by
    subst e hn
    exact wg_unl rfl (wgs_cons (wg_name (wgs_cons (wg_name (wgs_nil q))))))
end
end Z
namespace Z
theorem mix_boundG {m s a b c : Int} (h0 : 0 ≤ m) (h1 : m < 2147483648) (s0 : 0 ≤ s) (s1 : s ≤ 1000000) (a0 : 0 ≤ a ∧ a ≤ 100000) (b0 : 0 ≤ b ∧ b ≤ 100000) (c0 : 0 ≤ c ∧ c ≤ 1000000) : -(2 ^ 63) ≤ m * (2 * s + a) + b * s * s + c ∧ m * (2 * s + a) + b * s * s + c ≤ 2 ^ 63 := by
  have e1 : 0 ≤ m * (2 * s + a) := Int.mul_nonneg h0 (by omega)
  have e2 : m * (2 * s + a) ≤ 2147483648 * 2100000 := Int.mul_le_mul (by omega) (by omega) (by omega) (by omega)
  have e3 : 0 ≤ b * s := Int.mul_nonneg b0.1 s0
  have e4 : b * s ≤ 100000 * 1000000 := Int.mul_le_mul b0.2 s1 s0 (by omega)
  have e5 : 0 ≤ b * s * s := Int.mul_nonneg e3 s0
  have e6 : b * s * s ≤ (100000 * 1000000) * 1000000 := Int.mul_le_mul e4 s1 s0 (by omega)
  omega
end Z
namespace Z
open PySem L2
section
variable {K : PySem.W.Frag} {fx : Fx} {E : Env} {te : TE} {tl th : TO} {Q : D → Env → Prop}
theorem Wp.mono {to : TO} {Q Q' : Option Int → Env → Prop} (h : Wp K fx to E Q) (m : ∀ o E', Q o E' → Q' o E') : Wp K fx to E Q' := fun c G σ H X A P k => h c G σ H X A P fun o E' G' H' q => k o E' G' H' (m _ _ q)
/-- parts of lists and tuples of integers: x[a:a+l], x[:b], x[a:] -/
theorem we_sl2T (a l : Nat) (h : We K fx te E fun d E1 => Wp K fx tl E1 fun lo E2 => Wp K fx th E2 fun hi E3 => ∃ i, lo = some i ∧ ∃ j, hi = some j ∧ ∃ ns, d = .tup (zs ns) ∧ (i = a ∧ j = a + l ∧ a + l ≤ ns.length) ∧ Q (.tup (zs ((ns.drop a).take l))) E3) : We K fx (tSl (rSlU K) te tl th) E Q :=
  we_slT (We.mono h fun d E1 h => Wp.mono h fun lo E2 h => Wp.mono h fun hi E3 ⟨i, e1, j, e2, ns, e3, e4, q⟩ => ⟨zs ns, e3, by
    rw [e1, e2, zs_cutN (by omega) (by omega) (by omega), show i.toNat = a by omega, show j.toNat - a = l by omega]; exact q⟩)
theorem we_sl2L (a l : Nat) (h : We K fx te E fun d E1 => Wp K fx tl E1 fun lo E2 => Wp K fx th E2 fun hi E3 => ∃ i, lo = some i ∧ ∃ j, hi = some j ∧ ∃ ns, d = .lst (zs ns) ∧ (i = a ∧ j = a + l ∧ a + l ≤ ns.length) ∧ Q (.lst (zs ((ns.drop a).take l))) E3) : We K fx (tSl (rSlU K) te tl th) E Q :=
  we_of (wo_sl (We.mono h fun d E1 h => Wp.mono h fun lo E2 h => Wp.mono h fun hi E3 ⟨i, e1, j, e2, ns, e3, e4, q⟩ => ⟨zs ns, e3, by
    rw [e1, e2, zs_cutN (by omega) (by omega) (by omega), show i.toNat = a by omega, show j.toNat - a = l by omega]; exact q⟩))
theorem we_slPT (b : Nat) (h : We K fx te E fun d E1 => Wp K fx tl E1 fun lo E2 => Wp K fx th E2 fun hi E3 => lo = none ∧ ∃ j, hi = some j ∧ ∃ ns, d = .tup (zs ns) ∧ (j = b ∧ b ≤ ns.length) ∧ Q (.tup (zs (ns.take b))) E3) : We K fx (tSl (rSlU K) te tl th) E Q :=
  we_slT (We.mono h fun d E1 h => Wp.mono h fun lo E2 h => Wp.mono h fun hi E3 ⟨e1, j, e2, ns, e3, e4, q⟩ => ⟨zs ns, e3, by
    rw [e1, e2, zs_cutT (by omega) (by omega), show j.toNat = b by omega]; exact q⟩)
theorem we_slPL (b : Nat) (h : We K fx te E fun d E1 => Wp K fx tl E1 fun lo E2 => Wp K fx th E2 fun hi E3 => lo = none ∧ ∃ j, hi = some j ∧ ∃ ns, d = .lst (zs ns) ∧ (j = b ∧ b ≤ ns.length) ∧ Q (.lst (zs (ns.take b))) E3) : We K fx (tSl (rSlU K) te tl th) E Q :=
  we_of (wo_sl (We.mono h fun d E1 h => Wp.mono h fun lo E2 h => Wp.mono h fun hi E3 ⟨e1, j, e2, ns, e3, e4, q⟩ => ⟨zs ns, e3, by
    rw [e1, e2, zs_cutT (by omega) (by omega), show j.toNat = b by omega]; exact q⟩))
theorem we_slST (a : Nat) (h : We K fx te E fun d E1 => Wp K fx tl E1 fun lo E2 => Wp K fx th E2 fun hi E3 => ∃ i, lo = some i ∧ hi = none ∧ ∃ ns, d = .tup (zs ns) ∧ (i = a ∧ a ≤ ns.length) ∧ Q (.tup (zs (ns.drop a))) E3) : We K fx (tSl (rSlU K) te tl th) E Q :=
  we_slT (We.mono h fun d E1 h => Wp.mono h fun lo E2 h => Wp.mono h fun hi E3 ⟨i, e1, e2, ns, e3, e4, q⟩ => ⟨zs ns, e3, by
    rw [e1, e2, zs_cutD (by omega) (by omega), show i.toNat = a by omega]; exact q⟩)
theorem we_slSL (a : Nat) (h : We K fx te E fun d E1 => Wp K fx tl E1 fun lo E2 => Wp K fx th E2 fun hi E3 => ∃ i, lo = some i ∧ hi = none ∧ ∃ ns, d = .lst (zs ns) ∧ (i = a ∧ a ≤ ns.length) ∧ Q (.lst (zs (ns.drop a))) E3) : We K fx (tSl (rSlU K) te tl th) E Q :=
  we_of (wo_sl (We.mono h fun d E1 h => Wp.mono h fun lo E2 h => Wp.mono h fun hi E3 ⟨i, e1, e2, ns, e3, e4, q⟩ => ⟨zs ns, e3, by
    rw [e1, e2, zs_cutD (by omega) (by omega), show i.toNat = a by omega]; exact q⟩))
theorem zs_zipWith (f : Int → Int → Int) (xs ys : List Int) : List.zipWith (fun a b => D.int (f a b)) xs ys = zs (List.zipWith f xs ys) := by unfold zs; rw [List.map_zipWith]
end
end Z
namespace Z
open PySem L2
section
variable {K : PySem.W.Frag} {fx : Fx} {E : Env} {te : TE} {Q : D → Env → Prop}
def revP (Q : D → Env → Prop) (d : D) (E : Env) : Prop := (∃ ns, d = .tup (zs ns) ∧ Q (.tup (zs ns.reverse)) E) ∨ ∃ ns, d = .lst (zs ns) ∧ Q (.lst (zs ns.reverse)) E
theorem revP_T {ns : List Int} (h : Q (.tup (zs ns.reverse)) E) : revP Q (.tup (zs ns)) E := .inl ⟨ns, rfl, h⟩
theorem revP_L {ns : List Int} (h : Q (.lst (zs ns.reverse)) E) : revP Q (.lst (zs ns)) E := .inr ⟨ns, rfl, h⟩
theorem we_revZ (h : We K fx te E (revP Q)) : We K fx (tRevU K te) E Q := fun c G σ H X A P k =>
  h c G σ H X A _ fun v d E' G' H' q A' m r => by
    rcases q with ⟨ns, rfl, q⟩ | ⟨ns, rfl, q⟩
    · cases r with
      | @tup a vs _ h1 r1 =>
        refine .inr ⟨a, vs, rfl, A'.ex.t h1, fun p hp => ?_⟩
        have m2 : Mv c G' H' (upd G' p (.tup vs.reverse)) (upd H' p (.tup vs.reverse)) := Mv.laid A'.ex hp
        refine k (.ref p) _ E' _ _ q (A'.move0 m2 fun a u e => by rw [upd_ne (ne_of_none e hp)]; exact e) (m.trans m2.mw) (Rp.tup (vs := vs.reverse) (.inl (.inl upd_same)) (by rw [← zs_rev]; exact r1.reverse.mono m2.ex))
    · cases r with
      | @lst a vs _ h1 r1 =>
        refine .inl ⟨a, vs, rfl, .inl (.inl (A'.ex _ _ h1)), fun p hp => ?_⟩
        have m2 := Mv.hid (c := c) (o := HO.lst vs.reverse) A'.ex hp
        have z := As.lay (A'.move0 m2 (fun a u e => by rw [upd_ne (ne_of_none e hp)]; exact e)) (m.trans m2.mw) ⟨A'.ex.free hp, B_free A' hp, own_free A' hp⟩ upd_same r1.reverse
        rw [zs_rev] at z
        exact k _ _ _ _ _ q z.1 z.2.1 z.2.2
theorem nd_of {α : Type} [DecidableEq α] {a b : α} (h : a = b) : (!decide (a = b)) = false := by simp [h]
theorem d_of {α : Type} [DecidableEq α] {a b : α} (h : a = b) : decide (a = b) = true := by simp [h]
end
end Z
namespace Z
open PySem L2
section
variable {K : PySem.W.Frag} {fx : Fx} {E : Env} {ta : TA} {P : Po}
theorem ws_par3 {i j l : Nat} (h : Wa K fx ta E fun ds E' => ∃ x y z, ds = [x, y, z] ∧ P.nx (((E'.set i (.d x)).set j (.d y)).set l (.d z))) : Ws K fx (tPar3 i j l ta) E P := fun c G σ H Z X A k =>
  h c G σ H X A _ fun vs ds E' G' H' q A' m r => by
    obtain ⟨x, y, z, e, q⟩ := q
    subst e
    cases r with
    | cons r1 r =>
      cases r with
      | cons r2 r =>
        cases r with
        | cons r3 r =>
          cases r
          exact ⟨_, _, _, rfl, k.nx _ _ _ _ q (((A'.putD i r1).putD j r2).putD l r3) m.ex⟩
end
end Z
namespace Z
open PySem L2
section
variable {K : PySem.W.Frag} {fx : Fx} {E : Env} {te : TE} {tt : TT} {Q : D → Env → Prop} {O : List D → Env → Prop}
theorem rcb_gcd {a b : Int} (h : Q (.int ((Nat.gcd a.natAbs b.natAbs : Nat) : Int)) E) : Rcb K fx rGcd [.int a, .int b] E Q := fun c G σ H X A vs r P k => by
  cases r with
  | cons r1 r =>
    cases r with
    | cons r2 r =>
      cases r; cases r1; cases r2
      exact ⟨a, b, rfl, k _ _ _ _ _ h A Mw.refl (.int _)⟩
/-- [x for x in range(a, b, c) if t] -/
theorem wo_filtC {wi : TI} {j : Nat} (h : Wi K fx wi E fun its E1 => ∃ lo st n, its = rangeC lo st n ∧ n ≤ 100000 ∧ (∀ s, E1.sl[j]? = some s → ¬ isOwn s) ∧ j < E1.sl.length ∧ ∃ p : Nat → Bool,
    (∀ i < n, Wt K fx tt ⟨(E1.sl.set j .no).set j (.d (.int (lo + st * i))), E1.n⟩ fun b E3 => b = p i ∧ E3 = ⟨(E1.sl.set j .no).set j (.d (.int (lo + st * i))), E1.n⟩) ∧ O (((List.range n).filter p).map fun (i : Nat) => D.int (lo + st * i)) E1) : Wo K fx (tLc wi (gName j) tt (tVar j) [j]) E O :=
  wo_mapC Nat fun c G σ H X A R k => h c G σ H X A R fun J its E' G' H' q => k J its E' G' H' (by
    obtain ⟨lo, st, n, rfl, hl, hn, hj, p, hs, hO⟩ := q
    refine ⟨fun (i : Nat) => D.int (lo + st * i), List.range n, rfl, by simpa using hl, hn, p, fun (i : Nat) => D.int (lo + st * i), fun i hi => hs i (by simpa using hi), fun a ha _ => we_var (x := .int (lo + st * a)) ?_ ⟨rfl, rfl, by rw [List.set_set, List.set_set]⟩, hO⟩
    show ((E'.sl.set j .no).set j (.d (.int (lo + st * a))))[j]? = _
    rw [List.getElem?_set_self (by simpa using hj)])
theorem filt_first {n i : Nat} {p : Nat → Bool} (hi : i < n) (hp : p i = true) (hn : ∀ k < i, p k = false) : ∃ r, (List.range n).filter p = i :: r := by
  have e : List.range n = List.range i ++ (List.range (n - i)).map (i + ·) := by
    rw [← List.range_add]; congr 1; omega
  have e2 : n - i = (n - i - 1) + 1 := by omega
  rw [e, List.filter_append, List.filter_eq_nil_iff.mpr (by intro k hk; rw [List.mem_range] at hk; simp [hn k hk]), e2, List.range_succ_eq_map]
  simp [List.filter_cons, hp]
end
end Z
namespace Z
open PySem L2
section
variable {K : PySem.W.Frag} {fx : Fx} {E : Env} {te : TE} {P : Po}
theorem ws_asg3 {i j l n : Nat} (h : We K fx te E fun d E' => ∃ x y z, d = .tup [x, y, z] ∧ n = 3 ∧ P.nx (((E'.set i (.d x)).set j (.d y)).set l (.d z))) : Ws K fx (tAsg te (gTup K n (gCons (gName i) (gCons (gName j) (gCons (gName l) gNil))))) E P :=
  ws_asg (js := [i] ++ ([j] ++ ([l] ++ []))) (We.mono h fun d E' ⟨x, y, z, e, hn, q⟩ => by
    subst e hn
    exact wg_tup rfl (wgs_cons (wg_name (wgs_cons (wg_name (wgs_cons (wg_name (wgs_nil q))))))))
theorem ws_asg4 {i j l m n : Nat} (h : We K fx te E fun d E' => ∃ x y z w, d = .tup [x, y, z, w] ∧ n = 4 ∧ P.nx ((((E'.set i (.d x)).set j (.d y)).set l (.d z)).set m (.d w))) : Ws K fx (tAsg te (gTup K n (gCons (gName i) (gCons (gName j) (gCons (gName l) (gCons (gName m) gNil)))))) E P :=
  ws_asg (js := [i] ++ ([j] ++ ([l] ++ ([m] ++ [])))) (We.mono h fun d E' ⟨x, y, z, w, e, hn, q⟩ => by
    subst e hn
    exact wg_tup rfl (wgs_cons (wg_name (wgs_cons (wg_name (wgs_cons (wg_name (wgs_cons (wg_name (wgs_nil q))))))))))
end
end Z
namespace Z
open PySem L2
section
variable {K : PySem.W.Frag} {fx : Fx} {E : Env} {Q : D → Env → Prop}
theorem deq_bl (a b : Bool) : deq (.bl a) (.bl b) = decide (a = b) := by cases a <;> cases b <;> simp [deq, py, PyData.eqv]
theorem rop_eqB {i j : Bool} (h : Q (.bl (decide (i = j))) E) : Rop K fx (rEqD K) (.bl i) (.bl j) E Q := rop_eq rfl rfl (by rw [deq_bl]; exact h)
theorem rop_neB {i j : Bool} (h : Q (.bl (!decide (i = j))) E) : Rop K fx (rNeD K) (.bl i) (.bl j) E Q := rop_ne rfl rfl (by rw [deq_bl]; exact h)
theorem rop_eqP {a b c d : Int} (h : Q (.bl (decide ((a, b) = (c, d)))) E) : Rop K fx (rEqD K) (.tup [.int a, .int b]) (.tup [.int c, .int d]) E Q := rop_eqZT (xs := [a, b]) (ys := [c, d]) (by
  have e : decide ([a, b] = [c, d]) = decide ((a, b) = (c, d)) := by simp
  rw [e]; exact h)
theorem rop_neP {a b c d : Int} (h : Q (.bl (!decide ((a, b) = (c, d)))) E) : Rop K fx (rNeD K) (.tup [.int a, .int b]) (.tup [.int c, .int d]) E Q := rop_neZT (xs := [a, b]) (ys := [c, d]) (by
  have e : decide ([a, b] = [c, d]) = decide ((a, b) = (c, d)) := by simp
  rw [e]; exact h)
theorem rop_isB {a b : Bool} (h : Q (.bl (decide (a = b))) E) : Rop K fx (fun x y H Q => ∃ a b, x = V.bl a ∧ y = V.bl b ∧ Q (V.bl (decide (a = b))) H) (.bl a) (.bl b) E Q := fun c G σ H X A v u rv ru P k => by
  cases rv; cases ru; exact ⟨a, b, rfl, rfl, k _ _ _ _ _ h A Mw.refl (.bl _)⟩
theorem rop_isnB {a b : Bool} (h : Q (.bl (!decide (a = b))) E) : Rop K fx (fun x y H Q => ∃ a b, x = V.bl a ∧ y = V.bl b ∧ Q (V.bl (!decide (a = b))) H) (.bl a) (.bl b) E Q := fun c G σ H X A v u rv ru P k => by
  cases rv; cases ru; exact ⟨a, b, rfl, rfl, k _ _ _ _ _ h A Mw.refl (.bl _)⟩
end
end Z
namespace Z
open PySem L2
section
variable {K : PySem.W.Frag} {fx : Fx} {E : Env} {Q : D → Env → Prop}
theorem rop_inS2 {x a b : Str} (hx : SeqAt.shaped (.str x) = true) (ha : SeqAt.shaped (.str a) = true) (hb : SeqAt.shaped (.str b) = true) (h : Q (.bl (decide (x = a ∨ x = b))) E) : Rop K fx (rInU K) (.str x) (.tup [.str a, .str b]) E Q :=
  rop_inT (by simp only [dat]; exact hx) (by simp only [dats, dat, ha, hb]; rfl) (by
    have e : ([D.str a, D.str b].any fun z => deq z (.str x)) = decide (x = a ∨ x = b) := by
      simp only [List.any_cons, List.any_nil, deq_str, Bool.or_false]
      rw [Bool.decide_or, decide_eq_decide.mpr (eq_comm (a := a)), decide_eq_decide.mpr (eq_comm (a := b))]
    rw [e]; exact h)
end
end Z
namespace Z
open PySem L2
section
variable {K : PySem.W.Frag} {fx : Fx} {E : Env} {te : TE} {O : List D → Env → Prop}
theorem wo_top {N : Nat} (h : Wo K fx te E fun ds E' => E'.n ≤ N ∧ O ds (E'.at N)) : Wo K fx te E O := fun c G σ H X A P k => h c G σ H X A P fun p vs ds E' G' H' q A' m f hp r => k p vs ds (E'.at N) G' H' q.2 (A'.more q.1) m ⟨f.1, f.2.1, f.2.2⟩ hp r
end
end Z
namespace Z
open PySem L2
theorem ix_last {n : Nat} (h : 0 < n) : ixN n (-1) = some (n - 1) := by
  unfold ixN
  rw [if_neg (by omega), if_pos (by omega)]
  congr 1; omega
theorem zs_last {ns : List Int} (h : 0 < ns.length) : ∃ x : Int, atI (zs ns) (-1) = some (.int x) :=
  ⟨_, zs_atI (atI_last (List.getElem?_eq_getElem (by omega)))⟩
end Z
end
section
/-! enumerate(tuple) -/
namespace ZT
open PySem
theorem meets_enumerate_newT (l : Addr) (items : Array Value) (n : Nat) (dct : Option Addr) (sl : Array (Option Value)) :
    Meets (Builtin.«enumerate.__new__» ⟨[.type "enumerate", .ref l], []⟩) (fun _ R s => s.heap.get? l = some { cls := .type "tuple", dict := dct, data := .seq items n, slots := sl } ∧
      R (.ok (.ret (.ref (s.heap.push { cls := .type "tuple_iterator", data := .fields #[.ref l, .int 0 0] }).objs.size)))
        { s with heap := (s.heap.push { cls := .type "tuple_iterator", data := .fields #[.ref l, .int 0 0] }).push { cls := .type "enumerate", data := .fields #[.none, .bool false, .ref s.heap.objs.size, rawInt 0, .none, .none] } }) :=
  .of_wp fun prog w A R s h => by
    obtain ⟨hp, g, d, tk, os⟩ := s
    obtain ⟨hl, h⟩ := h
    have hL : hp.IsTuple l items := ⟨_, hl, rfl, n, rfl⟩
    have hsub := sub_enumerate
    wp_walk using wpAny_loadPart' hl, wpAny_pyIter_tuple hL
    refine wpAny_stack_any fun st => wpAny_pure ?_
    split
    · rename_i c _ _ _ _ _
      cases (c == Value.type "enumerate")
      · wp_walk using wpAny_loadPart' hl, wpAny_pyIter_tuple hL
        exact ⟨_, rfl, h⟩
      · wp_walk using wpAny_loadPart' hl, wpAny_pyIter_tuple hL
        exact ⟨_, rfl, h⟩
    · wp_walk using wpAny_loadPart' hl, wpAny_pyIter_tuple hL
      exact ⟨_, rfl, h⟩
section
variable {prog : Program} {w : World} {A : Around} {E : Value → Shared → Prop} {s : Shared}
theorem call_enumerate_tuple {l : Addr} {items : Array Value} {Q : Value → Shared → Prop} (hL : s.heap.IsTuple l items)
    (h : ∀ h', IsEnum h' (s.heap.objs.size + 1) s.heap.objs.size 0 .none → h'.IsTupleIter s.heap.objs.size l 0 → h'.objs.size = s.heap.objs.size + 2 →
      (∀ b o, s.heap.get? b = some o → h'.get? b = some o) → Q (.ref (s.heap.objs.size + 1)) { s with heap := h' }) :
    wpAny (model prog w) A (call (.type "enumerate") [.ref l]) Q E s := by
  obtain ⟨⟨c, dct, dt, sl⟩, hl, hc, n, hd⟩ := hL
  replace hc : c = .type "tuple" := hc
  replace hd : dt = .seq items n := hd
  subst hc hd
  refine callType_new F.called_enumerate (by decide) (F.typeCall_enumerate_1 _) (F.newCall_enumerate_1 _) (fun obj => F.args_object_init_2 obj _) F.entry_enumerate_new
    (meets_enumerate_newT l items n dct sl) ⟨hl, ?_⟩
  have hz : (s.heap.push { cls := .type "tuple_iterator", data := .fields #[.ref l, .int 0 0] }).objs.size = s.heap.objs.size + 1 := Heap.size_push ..
  show _ ∧ _
  rw [hz]
  have he : IsEnum ((s.heap.push { cls := .type "tuple_iterator", data := .fields #[.ref l, .int 0 0] }).push
      { cls := .type "enumerate", data := .fields #[.none, .bool false, .ref s.heap.objs.size, rawInt 0, .none, .none] }) (s.heap.objs.size + 1) s.heap.objs.size 0 .none := by
    have := Heap.get?_push_size (s.heap.push { cls := .type "tuple_iterator", data := .fields #[.ref l, .int 0 0] })
      (o := { cls := .type "enumerate", data := .fields #[.none, .bool false, .ref s.heap.objs.size, rawInt 0, .none, .none] }) rfl
    rw [hz] at this; exact this
  refine ⟨⟨_, he, rfl⟩, h _ he ⟨_, Heap.get?_push_of_some _ (Heap.get?_push_size _ rfl), rfl, rfl⟩ (by rw [Heap.size_push, hz]) fun b o x => Heap.get?_push_of_some _ (Heap.get?_push_of_some _ x)⟩
theorem pyNext_enumT_end {e it t : Addr} {i : Nat} {c : Int} {items : Array Value} {old : Value} {Q : Option Value → Shared → Prop} (hh : A.handled = none) (he : IsEnum s.heap e it c old) (hit : s.heap.IsTupleIter it t i) (ht : s.heap.IsTuple t items) (hx : items[i]? = none)
    (hQ : ∀ h', Heap.ExtBut it s.heap h' → Q none { s with heap := h' }) : wpAny (model prog w) A (pyNext (.ref e)) Q E s := by
  have hT : s.TypeIs (.ref e) "enumerate" := ⟨_, he, rfl⟩
  unfold pyNext
  refine wpAny_bind (wpAny_attempt (wpAny_callSpecial?_slot (name := Str.ofString "__next__") hT F.slot_enumerate_next
    (wpAny_call_entry F.slot_enumerate_next hT F.entry_enumerate_next ?_ (F.args_enumerate_next_1 _))))
  show wpAny _ _ (field (.ref e) 2 >>= _) _ _ _
  refine wpAny_bind (wpAny_field he rfl (x := .ref it) rfl ?_)
  refine wpAny_bind (wpAny_nextOf_tuple_end hh hit ht hx fun h' x he' hx' => ?_)
  obtain ⟨o, ho, hc⟩ := hx'
  refine wpAny_bind (wpAny_isInstance (T := "StopIteration") (b := true) ⟨o, ho, hc⟩ isSubtype_stop ?_)
  exact wpAny_pure (hQ _ he')
end
end ZT
namespace L2
open PySem PySem.Spec PyProof.Rows
def IteT (K : PySem.W.Frag) (a : Addr) : It :=
  ⟨fun i H => ∃ (xs : List V) (x : V), SqT K H a xs ∧ xs[i]? = some x, fun i H v H' => ∃ T x, v = .ref T ∧ H T = none ∧ H' = upd H T (.tup [.int (i : Nat), x]) ∧ ∀ xs, SqT K H a xs → xs[i]? = some x, fun i H => ∃ xs : List V, SqT K H a xs ∧ xs.length ≤ i⟩
theorem turn_enumT {P : Program} {w : World} {K : PySem.W.Frag} {elts : List Expr} {kk : Nat} {tpos : Pos} (a e it : Addr) (hae : a ≠ e) (hai : a ≠ it) :
    Turn P w K (.Tuple elts kk tpos) (IteT K a) [e, it] e (fun i h => (∃ old, IsEnum h e it ((i : Nat) : Int) old) ∧ h.IsTupleIter it a i ∧ e ≠ it) where
  mem := by simp
  obj := fun i h st b hb => by
    obtain ⟨⟨old, he⟩, ⟨o, ho, hc, hd⟩, _⟩ := st
    have e' : b = e ∨ b = it := by simpa using hb
    rcases e' with z | z
    · rw [z]; exact ⟨_, he, fun v q => nomatch q⟩
    · rw [z]; exact ⟨o, ho, fun v q => by rw [hd] at q; cases q⟩
  keep := fun i h h' st k => let ⟨⟨old, he⟩, hi, hne⟩ := st; ⟨⟨old, k e (by simp) _ he⟩, hi.at fun o q => k it (by simp) o q, hne⟩
  item := by
    intro X hP hw hK hc i pins s σ H E I hf st hg
    subst hP hw hK
    obtain ⟨⟨old, he⟩, hit, hne⟩ := st
    obtain ⟨xs, x, hq, hx⟩ := hg
    obtain ⟨its, rv, p, hz⟩ := I.tuple hq
    obtain ⟨u, hu, ru⟩ := rv.get hx
    have hel : e < s.heap.objs.size := Heap.lt_size he
    have hil : it < s.heap.objs.size := by obtain ⟨_, q, _⟩ := hit; exact Heap.lt_size q
    have hlt : i < its.toArray.size := by have := (List.getElem?_eq_some_iff.mp hu).1; simpa using this
    have D := Draws.tuple (prog := X.prog) (w := X.w) (A := X.A.in1) (I.ok.hd hc) it a hai its.toArray
    refine wpAny_pyNext_enum_itemD D he ⟨hit, p⟩ hlt hne (by simp [hne, Ne.symm hae]) fun u2 h' tk hu2 ho st' hT hsz hk => ?_
    have eu : u2 = u := by
      have h2 : its.toArray[i]? = some u2 := hu2
      have h3 : its.toArray[i]? = some u := by simpa using hu
      rw [h2] at h3; exact Option.some.inj h3
    subst eu
    refine ⟨_, rfl, wpAny_letOwnedTupleGo_enum (s := { s with heap := h', toks := tk + 1 }) ho fun h'' he' sb => ?_⟩
    have hT2 : h''.get? s.heap.objs.size = some { cls := .type "tuple", data := .seq #[.int i tk, u2] } := (sb.2 _ (Nat.ne_of_gt hel)).trans hT
    have new : ObjOk X.prog X.w (upd H s.heap.objs.size (.tup [.int (i : Nat), x])) h'' s.heap.objs.size (.tup [.int (i : Nat), x]) :=
      ⟨by show 2 ≤ sizeLine; decide, [.int i tk, u2], .cons ⟨_, rfl⟩ (.cons ru .nil), ⟨_, hT2, rfl, _, rfl⟩⟩
    have I1 : Inv X pins σ (upd H s.heap.objs.size (.tup [.int (i : Nat), x])) { s with heap := h'', toks := tk + 1 } :=
      I.turnedNew (ch := [e, it]) (fun b ob hb q => (sb.2 b (fun z => hb (by simp [z]))).trans (hk b ob (fun z => hb (by simp [z])) (fun z => hb (by simp [z])) q)) hf (Nat.le_refl _) new
    refine ⟨.ref s.heap.objs.size, _, I1, rfl, ⟨_, x, rfl, I.hok.fresh (Nat.le_refl _), rfl, fun ys hy => by rw [I.tuple_inj hy hq]; exact hx⟩, ⟨⟨u2, ?_⟩, st'.1.at fun o q => (sb.2 it (Ne.symm hne)).trans q, hne⟩, fun b hb => ?_⟩
    · have e1 : ((i + 1 : Nat) : Int) = (i : Int) + 1 := by omega
      rw [e1]; exact he'
    · have hb' : b < s.heap.objs.size := by
        have e' : b = e ∨ b = it := by simpa using hb
        rcases e' with z | z
        · rw [z]; exact hel
        · rw [z]; exact hil
      rw [upd_ne (Nat.ne_of_lt hb')]
      exact (hf b hb).1
  done := by
    intro X hP hw hK hc i pins s σ H E I hf st hg
    subst hP hw hK
    obtain ⟨⟨old, he⟩, hit, hne⟩ := st
    obtain ⟨xs, hq, hx⟩ := hg
    obtain ⟨its, rv, p, hz⟩ := I.tuple hq
    obtain ⟨f0, f1, f2, f3, f4, f5⟩ := hf it (by simp)
    have hl := rv.length
    exact ZT.pyNext_enumT_end (I.ok.hd hc) he hit p (by simp; omega) fun h' eb => ⟨rfl, I.turned (t' := s.toks) (fun b o hb q => eb b o hb q) f0 f1 f3 f4 f5⟩
  self := fun A i s Q E st h => let ⟨⟨_, he⟩, _⟩ := st; wpAny_pyIter_enum he h
def iEnumA (K : PySem.W.Frag) (ta : TA) : TI := fun σ H R => ta σ H fun vs H1 => ∃ a xs, vs = [.ref a] ∧ ((SqL K H1 a xs ∧ R (Ite K a) H1) ∨ (SqT K H1 a xs ∧ R (IteT K a) H1))
theorem pi_enumA {X : Cx} {e : Expr} {ta : TA} {p pos tpos : Pos} {elts : List Expr} {kk : Nat} (hg : Gl X "enumerate") (hm : X.mg "enumerate" = none) (ha : PA X [e] ta) (hs : starEach [e] X.env = [(false, eval e X.env)] := by rfl) :
    PI X (.Tuple elts kk tpos) (.Call (.Name "enumerate" p) [e] [] pos) (iEnumA X.K ta) := by
  refine ⟨fun pins s σ H R I h => ?_⟩
  refine Call_ (ld_blt I hg hm boot_enumerate (PyProof.Rows.callWith_type1 (thn (ha.run pos pins s σ H _ I h) fun us s1 ⟨vs, H1, I1, r1, q1⟩ => ?_) hs rfl))
  obtain ⟨a, xs, ex, q1⟩ := q1
  subst ex
  cases r1 with
  | cons r rr =>
    cases rr
    cases r
    have fp : ∀ b ∈ [s1.heap.objs.size + 1, s1.heap.objs.size], FpOk X pins H1 b := fun b hb => by
      have e' : b = s1.heap.objs.size + 1 ∨ b = s1.heap.objs.size := by simpa using hb
      have hle : s1.heap.objs.size ≤ b := by
        rcases e' with z | z
        · rw [z]; exact Nat.le_add_right _ _
        · rw [z]; exact Nat.le_refl _
      exact I1.fpOk hle (I1.hok.fresh hle)
    rcases q1 with ⟨hq, q⟩ | ⟨hq, q⟩
    · obtain ⟨its, rv, p', hz⟩ := I1.list hq
      refine call_enumerate_list p'.isList fun h' he hit hsz hk => wpAny_pyIter_enum he ?_
      have I2 : Inv X pins σ H1 { s1 with heap := h' } := I1.kept (t' := s1.toks) hk
      exact ⟨s1.heap.objs.size + 1, [s1.heap.objs.size + 1, s1.heap.objs.size], _, _, H1, rfl, I2, turn_enum a (s1.heap.objs.size + 1) s1.heap.objs.size, ⟨⟨.none, he⟩, hit, Nat.succ_ne_self _⟩, fp, q⟩
    · obtain ⟨its, rv, p', hz⟩ := I1.tuple hq
      have hlt : a < s1.heap.objs.size := by obtain ⟨o, ho, _⟩ := id p'; exact Heap.lt_size ho
      refine ZT.call_enumerate_tuple (show s1.heap.IsTuple a its.toArray from p') fun h' he hit hsz hk => wpAny_pyIter_enum he ?_
      have I2 : Inv X pins σ H1 { s1 with heap := h' } := I1.kept (t' := s1.toks) hk
      exact ⟨s1.heap.objs.size + 1, [s1.heap.objs.size + 1, s1.heap.objs.size], _, _, H1, rfl, I2, turn_enumT a (s1.heap.objs.size + 1) s1.heap.objs.size (Nat.ne_of_lt (Nat.lt_succ_of_lt hlt)) (Nat.ne_of_lt hlt), ⟨⟨.none, he⟩, hit, Nat.succ_ne_self _⟩, fp, q⟩
end L2
namespace Z
open PySem L2
section
variable {K : PySem.W.Frag} {fx : Fx} {E : Env} {ta : TA} {c : Cn} {G H : Hp} {σ : L2.St} {Q : List D → Env → Prop}
def enumD (ds : List D) : List D := (List.range ds.length).map fun (i : Nat) => D.tup [.int i, ds.getD i .non]
theorem enumD_length (ds : List D) : (enumD ds).length = ds.length := by simp [enumD]
theorem enumD_get {ds : List D} {i : Nat} {d : D} (h : ds[i]? = some d) : (enumD ds)[i]? = some (.tup [.int i, d]) := by
  have hi := (List.getElem?_eq_some_iff.mp h).1
  unfold enumD
  rw [List.getElem?_map, List.getElem?_range hi]
  show some (D.tup [.int i, ds.getD i .non]) = _
  rw [List.getD_eq_getElem?_getD, h]
  rfl
theorem walk_el {a : Addr} {vs : List V} {xs : List D} (ha : SqL K G a vs) (ra : Rps K G vs xs) : Walk K G (enumD xs) (Ite K a) := by
  intro H i e
  have la := ra.length
  refine ⟨fun hi => ?_, fun hi => ?_⟩
  · rw [enumD_length] at hi
    obtain ⟨x, hx⟩ : ∃ x, xs[i]? = some x := ⟨_, List.getElem?_eq_getElem hi⟩
    obtain ⟨v, hv, rv⟩ := ra.get hx
    refine ⟨⟨vs, v, e.l ha, hv⟩, fun z H' ⟨T, v', e1, e2, e3, e4⟩ => ?_⟩
    have w1 := e4 vs (e.l ha)
    rw [hv] at w1
    cases w1
    exact ⟨_, enumD_get hx, .inr ⟨T, [.int i, v], [.int i, x], e1, e2, e3, rfl, .cons (.int _) (.cons rv .nil)⟩⟩
  · rw [enumD_length] at hi
    exact ⟨vs, e.l ha, by omega⟩
theorem walk_et {a : Addr} {vs : List V} {xs : List D} (ha : SqT K G a vs) (ra : Rps K G vs xs) : Walk K G (enumD xs) (IteT K a) := by
  intro H i e
  have la := ra.length
  refine ⟨fun hi => ?_, fun hi => ?_⟩
  · rw [enumD_length] at hi
    obtain ⟨x, hx⟩ : ∃ x, xs[i]? = some x := ⟨_, List.getElem?_eq_getElem hi⟩
    obtain ⟨v, hv, rv⟩ := ra.get hx
    refine ⟨⟨vs, v, e.t ha, hv⟩, fun z H' ⟨T, v', e1, e2, e3, e4⟩ => ?_⟩
    have w1 := e4 vs (e.t ha)
    rw [hv] at w1
    cases w1
    exact ⟨_, enumD_get hx, .inr ⟨T, [.int i, v], [.int i, x], e1, e2, e3, rfl, .cons (.int _) (.cons rv .nil)⟩⟩
  · rw [enumD_length] at hi
    exact ⟨vs, e.t ha, by omega⟩
theorem wi_enum (h : Wa K fx ta E fun ds E' => ∃ d xs, ds = [d] ∧ isSeq d xs ∧ Q (enumD xs) E') : Wi K fx (iEnumA K ta) E Q := fun c G σ H X A R k => h c G σ H X A _ fun vs ds E' G' H' q A' m r => by
  obtain ⟨d, xs, rfl, hd, q⟩ := q
  cases r with
  | cons r1 r =>
    cases r
    rcases hd with rfl | rfl
    · cases r1 with
      | @lst a us _ h1 r1 => exact ⟨a, us, rfl, .inl ⟨.inl (.inl (A'.ex _ _ h1)), k _ _ _ _ _ q A' m (walk_el (.inl (.inl h1)) r1)⟩⟩
    · cases r1 with
      | @tup a us _ h1 r1 => exact ⟨a, us, rfl, .inr ⟨A'.ex.t h1, k _ _ _ _ _ q A' m (walk_et h1 r1)⟩⟩
end
end Z
namespace Z
open PySem L2
section
variable {K : PySem.W.Frag} {fx : Fx} {E : Env} {ty tx : TE} {Q : D → Env → Prop}
/-- {k1: v1, k2: v2}.get(x, y), all texts -/
theorem we_get2 {k1 v1 k2 v2 : Str} (hk : k1 ≠ k2) (h : We K fx ty E fun d E1 => ∃ x, d = .str x ∧ We K fx tx E1 fun z E2 => ∃ y, z = .str y ∧ Q (.str (if x = k1 then v1 else if x = k2 then v2 else y)) E2) :
    We K fx (tDGet2 (tDisp [(tC (.str k1), tC (.str v1)), (tC (.str k2), tC (.str v2))]) ty tx) E Q := fun c G σ H X A P k => by
  intro p hp
  show (upd H p (.dK [])) p = some (.dK []) ∧ ∃ kvs : List (Key × V), [(V.str k1, V.str v1), (V.str k2, V.str v2)] = kvs.map (fun kv => (kV kv.1, kv.2)) ∧ kvs.length ≤ 15 ∧ _
  refine ⟨upd_same, [(Sum.inr k1, .str v1), (Sum.inr k2, .str v2)], rfl, by simp, ?_⟩
  have em : mergeK [] [((Sum.inr k1 : Key), V.str v1), ((Sum.inr k2 : Key), V.str v2)] = [(Sum.inr k1, .str v1), (Sum.inr k2, .str v2)] := by
    simp [mergeK, putK, hk]
  rw [em]
  let kvs : List (Key × V) := [(Sum.inr k1, .str v1), (Sum.inr k2, .str v2)]
  have m1 := Mv.hid (c := c) (o := HO.dK []) A.ex hp
  have e2 : upd (upd H p (.dK [])) p (.dK kvs) = upd H p (.dK kvs) := by
    funext a
    by_cases ha : a = p
    · subst ha; rw [upd_same, upd_same]
    · rw [upd_ne ha, upd_ne ha, upd_ne ha]
  show ∃ a, V.ref p = .ref a ∧ IsD (upd (upd H p (.dK [])) p (.dK kvs)) a ∧ _
  rw [e2]
  have m2 := Mv.hid (c := c) (o := HO.dK kvs) A.ex hp
  have A2 := A.move0 m2 fun a u e => by rw [upd_ne (ne_of_none e hp)]; exact e
  have hFp : ∀ H' : Hp, c.F ≠ some p := fun _ e => (A.tB p e).1 (B_free A hp)
  refine ⟨p, rfl, .inl ⟨kvs, .inl upd_same⟩, h c G σ _ X A2 _ fun v d E1 G1 H1 q1 A1 w1 r1 => ?_⟩
  obtain ⟨x, rfl, q1⟩ := q1
  refine q1 c G1 σ H1 X A1 _ fun z dz E2 G2 H2 q2 A3 w2 r2 => ?_
  obtain ⟨y, rfl, q2⟩ := q2
  have hd1 : H1 p = some (.dK kvs) := w1.keep p _ upd_same (hFp H) (fun _ _ e => by cases e)
  have hd2 : H2 p = some (.dK kvs) := w2.keep p _ hd1 (hFp H) (fun _ _ e => by cases e)
  cases r1
  cases r2
  refine ⟨valV kvs (Sum.inr x), DGet.k (k := (Sum.inr x : Key)) hd2, k _ _ _ _ _ q2 A3 ⟨(m2.ex.trans w1.ex).trans w2.ex, fun a o e f kk => w2.keep a o (w1.keep a o (m2.keep a o e f kk) f kk) f kk⟩ ?_⟩
  by_cases h1 : x = k1
  · subst h1
    rw [valV_pos rfl, if_pos rfl]
    exact .str _
  · rw [valV_neg (by simpa using fun e => h1 e.symm), if_neg h1]
    by_cases h2 : x = k2
    · subst h2
      rw [valV_pos rfl, if_pos rfl]
      exact .str _
    · rw [valV_neg (by simpa using fun e => h2 e.symm), if_neg h2]
      exact .str _
end
end Z
namespace Z
theorem units1 {n m : Nat} (h : n + 64 < m) : n + 1 < m := by omega
end Z
end
section
/-! l.index(x) of texts; walking enumerate by two names; ("w",) * k -/
namespace L2
open PySem
theorem Room.units65 {k : Nat} {A : Around} (r : Room k A) : A.units + 65 < cLine := by have := r.un; omega
end L2
namespace Z
open PySem L2
section
variable {K : PySem.W.Frag} {fx : Fx} {E : Env} {te tx : TE} {tt : TT} {Q : D → Env → Prop} {O : List D → Env → Prop}
theorem pys_get : ∀ {ds : List D} {i : Nat}, (pys ds)[i]? = (ds[i]?).map py
  | [], _ => by simp [pys]
  | d :: ds, 0 => by simp [pys]
  | d :: ds, i + 1 => by rw [pys, List.getElem?_cons_succ, List.getElem?_cons_succ]; exact pys_get
theorem we_idxS (h : We K fx te E fun d E1 => ∃ xs : List Str, d = .lst (ts xs) ∧ We K fx tx E1 fun z E2 => ∃ (x : Str) (j : Nat), z = .str x ∧ shapes xs = true ∧ SeqAt.shaped (.str x) = true ∧ xs[j]? = some x ∧ (∀ m, m < j → xs[m]? ≠ some x) ∧ Q (.int (j : Nat)) E2) :
    We K fx (tBM K "list" (rIndexD K) te (tCons tx tNil)) E Q := fun c G σ H X A P k => by
  refine h c G σ H X A _ fun v d E1 G1 H1 q1 A1 m1 r1 => ?_
  obtain ⟨xs, rfl, q1⟩ := q1
  cases r1 with
  | @lst a vs _ ha rs =>
    refine ⟨.inl ⟨rfl, vs, .inl (.inl (A1.ex _ _ ha))⟩, ?_⟩
    refine q1 c G1 σ H1 X A1 _ fun v2 d2 E2 G2 H2 q2 A2 m2 r2 => ?_
    obtain ⟨x, j, rfl, sx, s1, hj, hn, q3⟩ := q2
    have r2' := r2
    cases r2
    refine ⟨a, .str x, .str x, pys (ts xs), j, .str x, rfl, rfl, ?_, .str x, ?_, s1, ?_, ?_, ?_, k _ _ _ _ _ q3 A2 (m1.trans m2) (.int _)⟩
    · exact .lst (.inl (.inl (A2.ex _ _ (m2.ex _ _ ha)))) ((rs.mono m2.ex).dp (n := 60) A2.ex (dats_ts _ sx))
    · have e : py (.lst (ts xs)) = .list (pys (ts xs)) := by rw [py]
      have q := dat_ok (.lst (ts xs)) 60 (by simp only [dat]; exact dats_ts _ sx)
      rw [e] at q
      have h2 : (PyData.list (pys (ts xs))).depth ≤ 64 := Nat.le_trans q.2 (by decide)
      exact Bool.and_eq_true_iff.mpr ⟨q.1, decide_eq_true h2⟩
    · rw [pys_get, ts_at hj]; rfl
    · simp [PyData.eqv]
    · intro m z' hm hz
      rw [pys_get] at hz
      obtain ⟨d, hd, rfl⟩ := Option.map_eq_some_iff.mp hz
      obtain ⟨y, hy, rfl⟩ := ts_get hd
      have : y ≠ x := fun e => hn m hm (by rw [hy, e])
      simp [py, PyData.eqv, this]
theorem wo_enumF0 {wi : TI} {n j l : Nat} (h : Wi K fx wi E fun its E1 => ∃ ws : List Str, its = enumD (ts ws) ∧ n = 2 ∧ ws.length ≤ 100000 ∧ noOwn E1.sl [j, l] ∧
    (∀ (i : Nat) (x : Str), ws[i]? = some x → Wt K fx tt ⟨((wipeL E1.sl [j, l]).set j (.d (.int i))).set l (.d (.str x)), E1.n⟩ fun b E3 => b = false ∧ E3 = ⟨((wipeL E1.sl [j, l]).set j (.d (.int i))).set l (.d (.str x)), E1.n⟩) ∧ O [] E1) :
    Wo K fx (tLc wi (gTup K n (gCons (gName j) (gCons (gName l) gNil))) tt te [j, l]) E O :=
  wo_mapC2 Nat fun c G σ H X A R k => h c G σ H X A R fun J its E' G' H' q => k J its E' G' H' (by
    obtain ⟨ws, rfl, hn2, hl, hn, ht, hO⟩ := q
    refine ⟨fun i => .int (i : Nat), fun i => (ts ws).getD i .non, List.range (ts ws).length, rfl, hn2, by rw [List.length_range, ts_length]; exact hl, hn, fun _ => false, fun _ => .non, fun i hi => ?_, fun _ _ e => Bool.noConfusion e, ?_⟩
    · have hi := List.mem_range.mp hi
      rw [ts_length] at hi
      have hx : ws[i]? = some ws[i] := List.getElem?_eq_getElem hi
      have := ht i ws[i] hx
      have eg : (ts ws).getD i .non = .str ws[i] := by rw [List.getD_eq_getElem?_getD, ts_at hx]; rfl
      dsimp only
      rw [eg]
      exact this
    · rw [List.filter_eq_nil_iff.mpr (by simp), List.map_nil]
      exact hO)
theorem enumTS_get {ws : List Str} {i : Nat} {d : D} (h : (enumD (ts ws))[i]? = some d) : ∃ w, ws[i]? = some w ∧ d = .tup [.int i, .str w] := by
  have hi : i < (enumD (ts ws)).length := (List.getElem?_eq_some_iff.mp h).1
  rw [enumD_length, ts_length] at hi
  have hx : ws[i]? = some ws[i] := List.getElem?_eq_getElem hi
  rw [enumD_get (ts_at hx), Option.some_inj] at h
  exact ⟨_, hx, h.symm⟩
theorem wg_tup2 {i j n : Nat} {x y : D} {Q : Env → Prop} (e : n = 2) (h : Q ((E.set i (.d x)).set j (.d y))) : Wg K fx [i, j] (gTup K n (gCons (gName i) (gCons (gName j) gNil))) (.tup [x, y]) E Q := by
  subst e
  exact wg_tup (js := [i] ++ ([j] ++ [])) rfl (wgs_cons (wg_name (wgs_cons (wg_name (wgs_nil h)))))
theorem rop_repTS {x : Str} {k : Int} (hk : 1 ≤ k ∧ k ≤ 1000) (h : Q (.tup (ts (List.replicate k.toNat x))) E) : Rop K fx (rMulU K) (.tup [.str x]) (.int k) E Q := rop_repT1 hk (by
  have e : ∀ m, ts (List.replicate m x) = List.replicate m (.str x) := fun m => by unfold ts; rw [List.map_replicate]
  rw [← e]; exact h)
theorem shapes_rep {x : Str} (h : SeqAt.shaped (.str x) = true) (k : Nat) : shapes (List.replicate k x) = true := by
  unfold shapes
  rw [List.all_eq_true]
  intro y hy
  rw [List.eq_of_mem_replicate hy]
  exact h
theorem shapes_map {f : Str → Str} {xs : List Str} (h : ∀ x, SeqAt.shaped (.str x) = true → SeqAt.shaped (.str (f x)) = true) (hx : shapes xs = true) : shapes (xs.map f) = true := by
  unfold shapes at *
  rw [List.all_eq_true] at *
  intro y hy
  obtain ⟨x, h1, rfl⟩ := List.mem_map.mp hy
  exact h x (hx x h1)
theorem rop_eqTL {xs ys : List Str} (hx : shapes xs = true) (hy : shapes ys = true) (h : Q (.bl (decide (xs = ys))) E) : Rop K fx (rEqD K) (.lst (ts xs)) (.lst (ts ys)) E Q := rop_eq (by simp only [dat]; exact dats_ts _ hx) (by simp only [dat]; exact dats_ts _ hy) (by rw [deq_lst, deqs_ts]; exact h)
theorem rop_neTL {xs ys : List Str} (hx : shapes xs = true) (hy : shapes ys = true) (h : Q (.bl (!decide (xs = ys))) E) : Rop K fx (rNeD K) (.lst (ts xs)) (.lst (ts ys)) E Q := rop_ne (by simp only [dat]; exact dats_ts _ hx) (by simp only [dat]; exact dats_ts _ hy) (by rw [deq_lst, deqs_ts]; exact h)
theorem wo_mapT {wi : TI} {j : Nat} (h : Wi K fx wi E fun its E1 => ∃ ws : List Str, its = ts ws ∧ ws.length ≤ 100000 ∧ (∀ s, E1.sl[j]? = some s → ¬ isOwn s) ∧ ∃ g : Str → D, (∀ a ∈ ws, We K fx te ⟨(E1.sl.set j .no).set j (.d (.str a)), E1.n⟩ fun y E4 => y = g a ∧ E4.n = E1.n ∧ E4.sl.set j .no = E1.sl.set j .no) ∧ O (ws.map g) E1) : Wo K fx (tLc wi (gName j) tYes te [j]) E O :=
  wo_mapC Str fun c G σ H X A R k => h c G σ H X A R fun J its E' G' H' q => k J its E' G' H' (by
    obtain ⟨ws, rfl, hl, hn, g, hs, hO⟩ := q
    refine ⟨.str, ws, rfl, hl, hn, fun _ => true, g, fun a _ => wt_yes ⟨rfl, rfl⟩, fun a ha _ => hs a ha, ?_⟩
    rw [List.filter_eq_self.mpr (by simp)]
    exact hO)
theorem wo_filtT {wi : TI} {j : Nat} (h : Wi K fx wi E fun its E1 => ∃ ws : List Str, its = ts ws ∧ ws.length ≤ 100000 ∧ (∀ s, E1.sl[j]? = some s → ¬ isOwn s) ∧ j < E1.sl.length ∧ ∃ p : Str → Bool, (∀ a ∈ ws, Wt K fx tt ⟨(E1.sl.set j .no).set j (.d (.str a)), E1.n⟩ fun b E3 => b = p a ∧ E3 = ⟨(E1.sl.set j .no).set j (.d (.str a)), E1.n⟩) ∧ O (ts (ws.filter p)) E1) : Wo K fx (tLc wi (gName j) tt (tVar j) [j]) E O :=
  wo_mapC Str fun c G σ H X A R k => h c G σ H X A R fun J its E' G' H' q => k J its E' G' H' (by
    obtain ⟨ws, rfl, hl, hn, hj, p, ht, hO⟩ := q
    refine ⟨.str, ws, rfl, hl, hn, p, .str, ht, fun a _ _ => we_var (x := .str a) ?_ ⟨rfl, rfl, ?_⟩, hO⟩
    · show ((E'.sl.set j .no).set j (.d (.str a)))[j]? = _
      rw [List.getElem?_set_self (by rw [List.length_set]; exact hj)]
    · show ((E'.sl.set j .no).set j (.d (.str a))).set j .no = _
      rw [List.set_set, List.set_set])
theorem ts_map {α : Type} (xs : List α) (e : α → Str) : xs.map (fun x => D.str (e x)) = ts (xs.map e) := by unfold ts; rw [List.map_map]; rfl
theorem ts_cutT {ws : List Str} {b : Int} (h1 : 0 ≤ b) (h2 : b ≤ ws.length) : cutD (ts ws) none (some b) = ts (ws.take b.toNat) := by
  unfold cutD
  have e1 : HT.sIx (ts ws).length 0 none = 0 := by unfold HT.sIx; simp
  have e2 : HT.sIx (ts ws).length (ts ws).length (some b) = b.toNat := by rw [ts_length]; unfold HT.sIx; simp only [Option.elim]; (repeat' split) <;> omega
  rw [e1, e2]
  unfold ts
  simp
theorem we_slPTS {tl th : TO} (b : Nat) (h : We K fx te E fun d E1 => Wp K fx tl E1 fun lo E2 => Wp K fx th E2 fun hi E3 => lo = none ∧ ∃ j, hi = some j ∧ ∃ ws, d = .tup (ts ws) ∧ (j = b ∧ b ≤ ws.length) ∧ Q (.tup (ts (ws.take b))) E3) : We K fx (tSl (rSlU K) te tl th) E Q :=
  we_slT (We.mono h fun d E1 h => Wp.mono h fun lo E2 h => Wp.mono h fun hi E3 ⟨e1, j, e2, ws, e3, e4, q⟩ => ⟨ts ws, e3, by
    rw [e1, e2, ts_cutT (by omega) (by omega), show j.toNat = b by omega]; exact q⟩)
theorem rop_inSL2 {x a b : Str} (hx : SeqAt.shaped (.str x) = true) (ha : SeqAt.shaped (.str a) = true) (hb : SeqAt.shaped (.str b) = true) (h : Q (.bl (decide (a = x ∨ b = x))) E) : Rop K fx (rInU K) (.str x) (.lst [.str a, .str b]) E Q :=
  rop_inL (by simp only [dat]; exact hx) (by simp only [dats, dat, ha, hb]; rfl) (by
    have e : ([D.str a, D.str b].any fun z => deq z (.str x)) = decide (a = x ∨ b = x) := by
      simp only [List.any_cons, List.any_nil, deq_str, Bool.or_false]
      rw [Bool.decide_or]
    rw [e]; exact h)
theorem rcb_listT {ds : List D} (h : Q (.lst ds) E) : Rcb K fx (rListU K) [.tup ds] E Q := rcb_of (rco_list (.inr rfl) h)
theorem rcb_listL {ds : List D} (h : Q (.lst ds) E) : Rcb K fx (rListU K) [.lst ds] E Q := rcb_of (rco_list (.inl rfl) h)
end
end Z
end
section
/-! static methods; C(k = v); len and str of an own class; a list of its own lent to a call -/
namespace Z
open PySem L2
/-! ### the head's facts with static methods -/
abbrev AlY := (He.AlD × He.AlD) × Bool
def obsY (n : Nat) (fa : List He.Fa) (fn : List He.DefD) (fs : List He5.DefA) (ex : PySem.W.Frag → Bool) (g : Addr → Option Obj) : AlY :=
  ((He.obsD fa fn (He.frG g (He5.asA g n)), He5.obsA [] fs (He.frG g (He5.asA g n))), ex (He.frG g (He5.asA g n)))
def hookY (n : Nat) (fa : List He.Fa) (fn : List He.DefD) (fs : List He5.DefA) (ex : PySem.W.Frag → Bool) : PySem.W.Hook where
  α := AlY
  obs := fun s => obsY n fa fn fs ex s.heap.get?
  val := fun _ => ((He.valD fn, He5.valA fs), true)
  says := fun _ h => ∃ K : PySem.W.Frag, K.In h ∧ He.SaysD fa fn K ∧ He5.SaysA [] fs K ∧ ex K = true
  of := fun _ _ e => ⟨_, He.frG_in, congrArg (fun z : AlY => z.1.1) e, congrArg (fun z : AlY => z.1.2) e, congrArg Prod.snd e⟩
  keeps := fun _ _ _ ⟨K, hK, c⟩ k => ⟨K, PySem.W.Frag.In.keeps hK k, c⟩
theorem obsY_eq {n : Nat} {fa : List He.Fa} {fn : List He.DefD} {fs : List He5.DefA} {ex : PySem.W.Frag → Bool} {g : Addr → Option Obj} {s : Shared} (h : ∀ a, g a = s.heap.get? a) : obsY n fa fn fs ex g = (hookY n fa fn fs ex).obs s := by
  have e : g = s.heap.get? := funext h
  rw [e] <;> rfl
/-- a static method's def that callers may call -/
structure Gs (P : Program) (w : World) (K : PySem.W.Frag) (mg : Str → Option Value) (base : Heap) (CX : CXT) (k : Nat) (d : He5.DefA) (ps : List Str) (sp : Sp) (fd : FuncData) : Prop where
  ok : FnOk P w K mg base CX k (d.at_ K) fd ps sp
  fn : FunD K d.name d.qual d.params d.body d.scope (d.dvs K) (d.kws K) (d.at_ K) fd
end Z
namespace L2
open PySem
/-- C.m is a static method: its record at p, its def at f -/
structure SMet (K : PySem.W.Frag) (C : Addr) (m : Str) (p f : Addr) : Prop where
  cr : ClX.CRead K C (.type "type")
  at_ : PySem.W.findCls K (.ref C) (.type "type") m = some (.get (.builtin "staticmethod.__get__") (.ref p) .none (.ref C))
  rc : ∃ rest, PySem.W.recIn K p "staticmethod" = some (.ref f :: rest)
section
variable {X : Cx} {pins : List (Addr × Obj)} {σ : St} {H : Hp} {s : Shared} {C p f : Addr} {m : Str} {A : Around} {E : Value → Shared → Prop}
theorem getsm_ok {pl : Sem Bool} {Q : Value × List Value → Shared → Prop} (I : Inv X pins σ H s) (k : SMet X.K C m p f) (hh : PySem.W.handedIn (.ref f) = true) (h : ∀ s', Inv X pins σ H s' → Q (.ref f, []) s') : wpAny (model X.prog X.w) A (getMethod (.ref C) m pl) Q E s := by
  obtain ⟨rest, hp⟩ := k.rc
  refine PySem.W.method_cls I.kIn k.cr.ga ?_
  refine PySem.W.cls_bind I.kIn k.cr.rd k.at_ ?_
  exact wpAny_call (PySem.W.sm_get (s := { s with toks := s.toks + 1 }) I.kIn hp (PySem.W.handed_on hh (h _ (I.tok _))))
/-- C.m(e, ..), m static; C.m(k = v, ..) -/
def tSM (C : Addr) (sp : Sp) (dvs : List V) (E : XK) (ta : TE) (t : TA) : TE := fun σ H Q => ta σ H fun x H1 => x = .ref C ∧ t σ H1 fun vs H2 => sp (vs ++ dvs) H2 Q E
def tSMN (C : Addr) (m : Nat) (sp : Sp) (gV : List V → List V → List V) (E : XK) (ta : TE) (tk : TA) : TE := fun σ H Q => ta σ H fun x H1 => x = .ref C ∧ tCallN 0 m sp gV E tNil tk σ H1 Q
variable {CX : CXT} {k : Nat} {fd : FuncData} {ps ks : List Str} {sp : Sp} {EE : XK} {dvs : List V} {ds : List Value} {o e : Expr} {es : List Expr} {apos pos : Pos} {ta : TE} {t tk : TA} {kws : List Keyword} {g : List Value → List Value → List Value} {gV : List V → List V → List V} {pl : Sem Bool}
theorem pe_sm (he : PE X o ta) (c : SMet X.K C m p f) (hh : PySem.W.handedIn (.ref f) = true) (hk : PySem.W.keepIn X.K (.ref f) = true) (F : FnOk X.prog X.w X.K X.mg X.base CX k f fd ps sp) (hr : Room k X.A) (hb : Binds X.K fd ps ds) (hd : Vals dvs ds) (hx : Passes CX X EE) (ha : PA X (e :: es) t)
    (hst : starEach (e :: es) X.env = (false, eval e X.env) :: starEach es X.env := by rfl) (hpl : (backTo pos (starEach es X.env)).any (·.1) = false := by rfl)
    (ht : eval (.Call (.Attribute o m apos) (e :: es) [] pos) X.env = (do
      let ov ← eval o X.env
      standAt apos.atName
      let (f, first) ← holding [ov] (getMethod ov m pl)
      callWith pos f first (backTo pos (starEach (e :: es) X.env)) (backToKw pos (keywordEach [] X.env))) := by rfl) :
    PE X (.Call (.Attribute o m apos) (e :: es) [] pos) (tSM C sp dvs EE ta t) := by
  refine ⟨fun pins s σ H Q I h => ?_⟩
  refine PySem.W.methodCall_KW (pl := pl) (thn (he.run pins s σ H _ I h) fun u s1 ⟨x, H1, I1, rx, ex, q⟩ => ?_) ht
  subst ex
  obtain rfl : u = Value.ref C := rx
  refine getsm_ok I1 c hh fun s2 I2 => ?_
  refine PySem.W.callWith_K (h₀ := X.base) I.ok.mod.kin hk (thn (ha.run pos pins s2 σ H1 _ I2 q) fun us s3 ⟨vs, H2, I3, rv, q2⟩ => ⟨I3.kIn, ?_⟩) hst hpl
  exact run_fn F hr hb hd hx I3 rv q2
theorem pe_smN (he : PE X o ta) (c : SMet X.K C m p f) (hh : PySem.W.handedIn (.ref f) = true) (hk : PySem.W.keepIn X.K (.ref f) = true) (F : FnOk X.prog X.w X.K X.mg X.base CX k f fd ps sp) (hr : Room k X.A) (hb : KBn X.K fd ps 0 ks g gV) (hx : Passes CX X EE) (hkw : PK X kws tk)
    (hall : (backToKw pos (keywordEach kws X.env)).all (·.1.isSome) = true := by rfl) (hks : (backToKw pos (keywordEach kws X.env)).filterMap (·.1) = ks := by rfl)
    (hpl : ((backTo pos (starEach [] X.env)).any (·.1) || (backToKw pos (keywordEach kws X.env)).any (·.1.isNone)) = false := by rfl)
    (ht : eval (.Call (.Attribute o m apos) [] kws pos) X.env = (do
      let ov ← eval o X.env
      standAt apos.atName
      let (f, first) ← holding [ov] (getMethod ov m pl)
      callWith pos f first (backTo pos (starEach [] X.env)) (backToKw pos (keywordEach kws X.env))) := by rfl) :
    PE X (.Call (.Attribute o m apos) [] kws pos) (tSMN C ks.length sp gV EE ta tk) := by
  refine ⟨fun pins s σ H Q I h => ?_⟩
  refine PySem.W.methodCall_KW (pl := pl) (thn (he.run pins s σ H _ I h) fun u s1 ⟨x, H1, I1, rx, ex, q⟩ => ?_) ht
  subst ex
  obtain rfl : u = Value.ref C := rx
  refine getsm_ok I1 c hh fun s2 I2 => ?_
  refine PySem.W.callWith_KW0 (h₀ := X.base) I.ok.mod.kin hk hall ?_ hpl
  refine thn (hkw.run pos pins s2 σ H1 _ I2 q) fun ws s3 ⟨zs, H2, I3, rz, l1, l2, q2⟩ => ⟨I3.kIn, ?_⟩
  rw [hks]
  exact run_fnN F hr hb hx I3 .nil rz l1 l2 q2
/-- C(k = v, ..) -/
theorem pe_makeN0 {x : Str} {p' : Pos} (M : Mk X.K C f) (F : FnOk X.prog X.w X.K X.mg X.base CX k f fd ps sp) (hr : Room (k + 1) X.A) (hg : Gl X x) (hm : X.mg x = some (.ref C)) (hb : KBn X.K fd ps 1 ks g gV) (hx : Passes CX X EE) (hkw : PK X kws tk)
    (hall : (backToKw pos (keywordEach kws X.env)).all (·.1.isSome) = true := by rfl) (hks : (backToKw pos (keywordEach kws X.env)).filterMap (·.1) = ks := by rfl)
    (hdb : (x == ("__debug__" : Str)) = false := by decide) (hpl : ((backTo pos (starEach [] X.env)).any (·.1) || (backToKw pos (keywordEach kws X.env)).any (·.1.isNone)) = false := by rfl) :
    PE X (.Call (.Name x p') [] kws pos) (tMakeN C 0 ks.length sp gV EE tNil tk) := by
  refine ⟨fun pins s σ H Q I h => ?_⟩
  refine wpAny_Call_Name_kw (ld_glob I hg hm ?_ hdb)
  refine PySem.W.callWith_KW0 (h₀ := X.base) I.ok.mod.kin M.kp hall ?_ hpl
  refine thn (hkw.run pos pins s σ H _ I h) fun ws s2 ⟨zs, H2, I2, rz, l1, l2, q2⟩ => ⟨I2.kIn, ?_⟩
  rw [hks]
  exact run_makeN M F hr hb hx I2 .nil rz l1 l2 q2
end
/-! ### len(x), str(x) of an own class -/
section
variable {X : Cx} {n : Nat}
structure SpO (K : PySem.W.Frag) (C : Addr) (name : Str) (f : Addr) : Prop where
  hs : PySem.W.findIn K (.ref C) name = some (some (.ref f))
  hf : PySem.W.isFn K (.ref f) = true
theorem own_call1 {CX : CXT} {f : Addr} {fd : FuncData} {ps : List Str} {sp : Sp} {E : XK} (F : FnOk X.prog X.w X.K X.mg X.base CX n f fd ps sp) {A : Around} (hr : Room n A) (hfr : A.frames = X.A.frames) (hb : Binds X.K fd ps []) (hx : Passes CX X E)
    {pins : List (Addr × Obj)} {s : Shared} {σ : St} {H : Hp} {a : Addr} (I : Inv X pins σ H s) {Q : V → Hp → Prop} (hsp : sp [.ref a] H Q E) :
    wpAny (model X.prog X.w) A (call (.ref f) [.ref a]) (fun r s' => ∃ z H', RelV z r ∧ Inv X pins σ H' s' ∧ Q z H') X.xe s := by
  have e0 : Env0 X.prog X.w X.K X.mg X.base A X.stack s H := by
    have e := I.env0
    exact ⟨by rw [hfr]; exact e.frames, e.mod, e.bs, e.bsz, e.funs, e.frf, e.hok, e.bare⟩
  have hl := F.len _ _ _ _ hsp
  have r2 : Vals [V.ref a] [Value.ref a] := .cons rfl .nil
  refine wpAny_call (codeAny_mono (F.run A X.stack s H ⟨[.ref a], []⟩ [.ref a] [.ref a] _ E hr e0 (by
    have := hb s [.ref a] I.kIn (by simpa using hl)
    simpa using this) r2 hsp) fun r s' hq => ?_)
  cases r with
  | error e => exact hx pins σ H s e s' I hq
  | ok fl =>
    cases fl with
    | ret w =>
      obtain ⟨z, H', I', rz, q⟩ := I.after hq
      exact ⟨z, H', rz, I', q⟩
    | next => exact False.elim hq
    | brk => exact False.elim hq
    | cont => exact False.elim hq
def rLenO (C : Addr) (sp : Sp) (E : XK) : List V → Hp → VK → Prop := fun xs H Q => ∃ a dx fs, xs = [.ref a] ∧ H a = some (.ins C dx fs) ∧ sp [.ref a] H (fun v H' => ∃ i : Int, v = .int i ∧ 0 ≤ i ∧ i < 2 ^ 63 ∧ Q (.int i) H') E
def rStrO (C : Addr) (sp : Sp) (E : XK) : List V → Hp → VK → Prop := fun xs H Q => ∃ a dx fs, xs = [.ref a] ∧ H a = some (.ins C dx fs) ∧ sp [.ref a] H (fun v H' => ∃ x : Str, v = .str x ∧ Q (.str x) H') E
theorem call_lenO {CX : CXT} {C f : Addr} {fd : FuncData} {ps : List Str} {sp : Sp} {E : XK} (F : FnOk X.prog X.w X.K X.mg X.base CX n f fd ps sp) (hr : Room (n + 1) X.A) (o : SpO X.K C "__len__" f) (hb : Binds X.K fd ps []) (hx : Passes CX X E) : CallR X (.builtin "len") (rLenO C sp E) := by
  intro pins s σ H xs us Q I r hq
  obtain ⟨a, dx, fs, rfl, ha, hsp⟩ := hq
  obtain ⟨u, rfl, ru⟩ := vals1 r
  cases ru
  obtain ⟨mA, J, _⟩ := ins_get I.hok ha
  obtain ⟨od, J, _⟩ := J.look
  refine Calls.call_function_entry kind_len plain_len entry_len (args_len1 _) ?_
  unfold Builtin.«len»
  refine wpAny_bind (m := oneArg "len" _) (wpAny_pure ?_)
  refine wpAny_bind (m := callSpecial? (.ref a) (Str.ofString "__len__")) (PySem.W.special_fn I.kIn J o.hs (beq_iff_eq.mp o.hf) (wpAny_mono (own_call1 F hr.in1 rfl hb hx I hsp) (fun r s' z => ?_) fun _ _ x => x))
  obtain ⟨z, H', rz, I', i, rfl, h0, h1, q⟩ := z
  obtain ⟨tk, rfl⟩ := rz
  refine wpAny_bind (wpAny_holding (wpAny_pure ?_))
  refine wpAny_bind (wpAny_letGo ?_)
  show wpAny _ _ (if i < 0 then _ else _) _ _ _
  rw [if_neg (by omega)]
  show wpAny _ _ (if i ≥ 2 ^ 63 then _ else _) _ _ _
  rw [if_neg (by omega)]
  exact wpAny_bind (wpAny_mkInt (wpAny_pure ⟨_, rfl, .int i, H', I'.tok _, ⟨_, rfl⟩, q⟩))
theorem call_strO {CX : CXT} {C f : Addr} {fd : FuncData} {ps : List Str} {sp : Sp} {E : XK} (F : FnOk X.prog X.w X.K X.mg X.base CX n f fd ps sp) (hr : Room (n + 2) X.A) (o : SpO X.K C "__str__" f) (hb : Binds X.K fd ps []) (hx : Passes CX X E) : CallR X (.type "str") (rStrO C sp E) := by
  intro pins s σ H xs us Q I r hq
  obtain ⟨a, dx, fs, rfl, ha, hsp⟩ := hq
  obtain ⟨u, rfl, ru⟩ := vals1 r
  cases ru
  obtain ⟨mA, J, _⟩ := ins_get I.hok ha
  obtain ⟨od, J, _⟩ := J.look
  refine PySem.W.kso_call (by have := hr.un; show X.A.units + 1 + 1 < _; omega) I.kIn J o.hs o.hf ?_
  refine wpAny_mono (own_call1 F (Room.in1 (Room.in1 hr)) rfl hb hx I hsp) (fun r s' z => ?_) fun _ _ x => x
  obtain ⟨z, H', rz, I', x, rfl, q⟩ := z
  obtain ⟨tk, rfl⟩ := rz
  exact ⟨.str x, H', I', ⟨_, rfl⟩, q⟩
end
end L2
namespace Z
open PySem L2
section
variable {α : Type} {K : PySem.W.Frag} {fx : Fx} {E : Env} {te ta tf : TE} {tt : TT} {c : Cn} {G H : Hp} {σ : St} {Q : D → Env → Prop} {O : List D → Env → Prop} {P : Po}
/-! ### static methods, C(k = v), len, str -/
theorem we_sm {pm : Pm α} {EX : XK} {dvs : List V} {dds : List D} {C : Addr} {t : TA} (hd : ∀ G, Rps K G dvs dds) (h : We K fx te E fun o E0 => o = .ad C ∧ Wa K fx t E0 fun ds E1 => Called pm fx EX (ds ++ dds) E1 Q fun _ _ => False) : We K fx (tSM C (spD K pm) dvs EX te t) E Q := fun c G σ H X A P k =>
  h c G σ H X A _ fun v d E0 G0 H0 q0 A0 m0 r0 => by
    obtain ⟨rfl, q0⟩ := q0
    cases r0
    refine ⟨rfl, q0 c G0 σ H0 X A0 _ fun vs ds E1 G1 H1 q1 A1 m1 r1 => ?_⟩
    exact called X A1 (r1.append (hd G1)) q1 (fun v d E' G' H' q A' m r => k _ _ _ _ _ q A' ((m0.trans m1).trans m) r) fun _ _ _ _ _ _ q => q.elim
theorem we_smN {pm : Pm α} {EX : XK} {gV : List V → List V → List V} {gD : List D → List D → List D} {m : Nat} {C : Addr} {tk : TA} (hd : ∀ G vs zs ds es, Rps K G vs ds → Rps K G zs es → ds.length = 0 → es.length = m → Rps K G (gV vs zs) (gD ds es))
    (h : We K fx te E fun o E0 => o = .ad C ∧ Wa K fx tk E0 fun es E2 => es.length = m ∧ Called pm fx EX (gD [] es) E2 Q fun _ _ => False) : We K fx (tSMN C m (spD K pm) gV EX te tk) E Q := fun c G σ H X A P k =>
  h c G σ H X A _ fun v d E0 G0 H0 q0 A0 m0 r0 => by
    obtain ⟨rfl, q0⟩ := q0
    cases r0
    refine ⟨rfl, ?_⟩
    refine q0 c G0 σ H0 X A0 _ fun zs es E2 G2 H2 q2 A2 m2 r2 => ?_
    obtain ⟨l2, q2⟩ := q2
    refine ⟨rfl, by rw [r2.length]; exact l2, ?_⟩
    exact called X A2 (hd G2 _ _ _ _ .nil r2 rfl l2) q2 (fun v d E' G' H' q A' m r => k _ _ _ _ _ q A' ((m0.trans m2).trans m) r) fun _ _ _ _ _ _ q => q.elim
theorem rcb_lenO {pm : Pm α} {EX : XK} {C : Addr} {fs : List (Str × D)} (h : Called pm fx EX [.ob C fs] E (fun d E' => ∃ i : Int, d = .int i ∧ 0 ≤ i ∧ i < 2 ^ 63 ∧ Q (.int i) E') fun _ _ => False) : Rcb K fx (rLenO C (spD K pm) EX) [.ob C fs] E Q := fun c G σ H X A vs r P k => by
  obtain ⟨v, e, rr⟩ := one r
  subst e
  cases rr with
  | @ob a _ dx ws _ h1 h2 =>
    refine ⟨a, dx, ws, rfl, A.ex _ _ h1, called X A (.cons (.ob h1 h2) .nil) h (fun v d E' G' H' q A' m r => ?_) fun _ _ _ _ _ _ q => q.elim⟩
    obtain ⟨i, rfl, h0, hi, q⟩ := q
    cases r
    exact ⟨i, rfl, h0, hi, k _ _ _ _ _ q A' m (.int i)⟩
theorem rcb_strO {pm : Pm α} {EX : XK} {C : Addr} {fs : List (Str × D)} (h : Called pm fx EX [.ob C fs] E (fun d E' => ∃ x : Str, d = .str x ∧ Q (.str x) E') fun _ _ => False) : Rcb K fx (rStrO C (spD K pm) EX) [.ob C fs] E Q := fun c G σ H X A vs r P k => by
  obtain ⟨v, e, rr⟩ := one r
  subst e
  cases rr with
  | @ob a _ dx ws _ h1 h2 =>
    refine ⟨a, dx, ws, rfl, A.ex _ _ h1, called X A (.cons (.ob h1 h2) .nil) h (fun v d E' G' H' q A' m r => ?_) fun _ _ _ _ _ _ q => q.elim⟩
    obtain ⟨x, rfl, q⟩ := q
    cases r
    exact ⟨x, rfl, k _ _ _ _ _ q A' m (.str x)⟩
/-- C(k = v, ..): as C(..) with the values in the parameters' order -/
theorem we_makeN {pm : Pi α} {EX : XK} {gV : List V → List V → List V} {gD : List D → List D} {m : Nat} {C : Addr} {tk : TA} (hg : ∀ x zs, zs.length = m → ∃ us, gV [x] zs = x :: us ∧ ∀ G es, Rps K G zs es → Rps K G us (gD es))
    (h : Wa K fx tk E fun es E1 => es.length = m ∧ ∃ a, gD es = pm.args a ∧ pm.pre a C ∧ (∀ fs, pm.post a C fs → Q (.ob C fs) E1) ∧ ∀ C' f, pm.exc a C C' f → EX = fx.EX ∧ fx.xp C' f E1.n) : We K fx (tMakeN C 0 m (spI K pm) gV EX tNil tk) E Q := fun c G σ H X A P k => by
  show tk σ H _
  refine h c G σ H X A _ fun zs es E1 G1 H1 q A1 m1 r1 => ?_
  obtain ⟨l, a0, ea, q1, q2, q3⟩ := q
  have lz : zs.length = m := by rw [r1.length]; exact l
  refine ⟨rfl, lz, fun x dx hx hdx hne => ?_⟩
  obtain ⟨us, e1, e2⟩ := hg (.ref x) zs lz
  have r2 := e2 G1 es r1
  rw [e1]
  rw [ea] at r2
  exact make_core X A1 r2 q1 q2 q3 (fun v d E' G' H' q A' m r => k v d E' G' H' q A' (m1.trans m) r) x dx hx hdx hne
/-! ### a list of its own lent to an expression that keeps none of it -/
mutual
def nolst : D → Bool
  | .lst _ => false
  | .scr _ => false
  | .ex _ _ => false
  | .dk _ => false
  | .st _ _ => false
  | .px _ => false
  | .tup ds => nolsts ds
  | .ob _ fs => nolstf fs
  | _ => true
def nolsts : List D → Bool
  | [] => true
  | d :: ds => nolst d && nolsts ds
def nolstf : List (Str × D) → Bool
  | [] => true
  | f :: fs => nolst f.2 && nolstf fs
end
def dropA (G : Hp) (p : Addr) : Hp := fun a => if a = p then none else G a
theorem dropA_ne {G : Hp} {p a : Addr} (h : a ≠ p) : dropA G p a = G a := if_neg h
theorem dropA_same {G : Hp} {p : Addr} : dropA G p p = none := if_pos rfl
theorem dropA_ex {G : Hp} {p : Addr} : Ex (dropA G p) G := fun a o e => by
  by_cases q : a = p
  · subst q; rw [dropA_same] at e; cases e
  · rw [dropA_ne q] at e; exact e
mutual
theorem Rp.shed {G : Hp} {p : Addr} {ws : List V} (hp : G p = some (.lst ws)) : ∀ {v : V} {d : D}, Rp K G v d → nolst d = true → Rp K (dropA G p) v d
  | _, _, .non, _ => .non
  | _, _, .bl b, _ => .bl b
  | _, _, .int i, _ => .int i
  | _, _, .str x, _ => .str x
  | _, _, .lst _ _, n => by simp [nolst] at n
  | _, _, .tup (a := a) (ds := ds) h r, n => by
    have n' : nolsts ds = true := by simpa [nolst] using n
    refine .tup ?_ (Rps.shed hp r n')
    rcases h with (h | ⟨o, h⟩) | h
    · exact .inl (.inl (by rw [dropA_ne (fun z => by subst z; rw [hp] at h; cases h)]; exact h))
    · exact .inl (.inr ⟨o, by rw [dropA_ne (fun z => by subst z; rw [hp] at h; cases h)]; exact h⟩)
    · exact .inr h
  | _, _, .ob (a := a) (fs := fs) h r, n => by
    have n' : nolstf fs = true := by simpa [nolst] using n
    exact .ob (by rw [dropA_ne (fun z => by subst z; rw [hp] at h; cases h)]; exact h) (Rpf.shed hp r n')
  | _, _, .ad a, _ => .ad a
  | _, _, .ty n, _ => .ty n
  | _, _, .scr _, n => by simp [nolst] at n
  | _, _, .ex _ _ _ _ _, n => by simp [nolst] at n
  | _, _, .dk _ _, n => by simp [nolst] at n
  | _, _, .st _, n => by simp [nolst] at n
  | _, _, .px _ _, n => by simp [nolst] at n
theorem Rps.shed {G : Hp} {p : Addr} {ws : List V} (hp : G p = some (.lst ws)) : ∀ {vs : List V} {ds : List D}, Rps K G vs ds → nolsts ds = true → Rps K (dropA G p) vs ds
  | _, _, .nil, _ => .nil
  | _, _, .cons (d := d) (ds := ds) h r, n => by
    have n' : nolst d = true ∧ nolsts ds = true := by simpa [nolsts] using n
    exact .cons (Rp.shed hp h n'.1) (Rps.shed hp r n'.2)
theorem Rpf.shed {G : Hp} {p : Addr} {ws : List V} (hp : G p = some (.lst ws)) : ∀ {vs : List (Str × V)} {ds : List (Str × D)}, Rpf K G vs ds → nolstf ds = true → Rpf K (dropA G p) vs ds
  | _, _, .nil, _ => .nil
  | _, _, .cons (d := d) (ds := fs) h r, n => by
    have n' : nolst d = true ∧ nolstf fs = true := by simpa [nolstf] using n
    exact .cons (Rp.shed hp h n'.1) (Rpf.shed hp r n'.2)
end
theorem we_lend {i : Nat} {ds : List D} (e : E.sl[i]? = some (.own ds)) (h : We K fx te (E.set i (.d (.lst ds))) fun d E' => nolst d = true ∧ E'.sl = (E.set i (.d (.lst ds))).sl ∧ Q d ⟨E.sl, E'.n⟩) : We K fx te E Q := fun c G σ H X A P k => by
  obtain ⟨p0, vs0, ep0, gp0, bp0, hp0, rp0⟩ := A.own e
  obtain ⟨p, vs, e1, r, A', m, q⟩ := A.freeze e
  rw [ep0] at e1
  obtain rfl : p0 = p := by cases e1; rfl
  have hvs : vs = vs0 := by
    have := A'.ex _ _ q
    rw [hp0] at this; cases this; rfl
  subst hvs
  refine h c _ σ H X A' _ fun v d E2 G2 H2 q2 A2 m2 r2 => ?_
  obtain ⟨n2, s2, q3⟩ := q2
  have g2 : G2 p0 = some (.lst vs) := m2.ex _ _ q
  have x2 : Ex G (dropA G2 p0) := fun a o z => by
    rw [dropA_ne (fun y => by subst y; rw [gp0] at z; cases z)]
    exact m2.ex _ _ (m.ex _ _ z)
  have hl : i < E.sl.length := (List.getElem?_eq_some_iff.mp e).1
  refine k v d ⟨E.sl, E2.n⟩ (dropA G2 p0) H2 q3 ?_ ⟨x2, fun a o z f kk => m2.keep a o (m.keep a o z f kk) f kk⟩ (Rp.shed g2 r2 n2)
  refine ⟨dropA_ex.trans A2.ex, A.g0.trans x2, A2.keep, fun a z z0 => ?_, A2.tB, A.len, fun j s z => ?_, A.ne, A2.tap, fun a ps z => A2.gt a ps (dropA_ex a _ z), A2.st, A2.tb⟩
  · by_cases y : a = p0
    · subst y; exact dropA_same
    · rw [dropA_ne y]; exact A2.sep a z z0
  · have w := A.sl j s z
    have key : ∀ (u : Addr) (o : HO), (∀ xs, o ≠ .lst xs → True) → H u = some o → c.B u = none → Kp c.T o → H2 u = some o := fun u o _ hu bu kk => m2.keep u o (m.keep u o hu (fun f => (A.tB u f).1 bu) kk) (fun f => (A.tB u f).1 bu) kk
    cases s with
    | no => trivial
    | d y => obtain ⟨u, a1, a2⟩ := w; exact ⟨u, a1, a2.mono x2⟩
    | own es =>
      obtain ⟨p', vs', a1, a2, a3, a4, a5⟩ := w
      refine ⟨p', vs', a1, ?_, a3, key _ _ (fun _ _ => trivial) a4 a3 kp_lst, a5.mono x2⟩
      by_cases y : p' = p0
      · subst y; exact dropA_same
      · rw [dropA_ne y]
        have hij : ¬ (i = j) := fun f => by
          subst f
          rw [get_join.mp a1] at ep0; cases ep0; exact y rfl
        have z2 : E2.sl[j]? = some (.own es) := by
          rw [s2]
          show (E.sl.set i _)[j]? = _
          rw [List.getElem?_set_ne hij]; exact z
        obtain ⟨p2, vs2, b1, b2, _⟩ := A2.own z2
        rw [get_join.mp a1] at b1; cases b1
        exact b2
    | slf p' C fs =>
      obtain ⟨dx, vs', a1, a2, a3, a4, a5⟩ := w
      refine ⟨dx, vs', a1, ?_, a3, key _ _ (fun _ _ => trivial) a4 a3 kp_ins, a5.mono x2⟩
      by_cases y : p' = p0
      · subst y; exact dropA_same
      · rw [dropA_ne y]
        have hij : ¬ (i = j) := fun f => by
          subst f
          rw [e] at z; cases z
        have z2 : E2.sl[j]? = some (.slf p' C fs) := by
          rw [s2]
          show (E.sl.set i _)[j]? = _
          rw [List.getElem?_set_ne hij]; exact z
        obtain ⟨dx2, vs2, b1, b2, _⟩ := A2.slf z2
        exact b2
/-! ### two names at once, the first a list of its own -/
/-- a list in hand is kept while another expression runs -/
theorem hold {p : Addr} {vs : List V} (X : XOk K c fx) (A : As K c G σ E H) (f : Frs c G σ E p) (hp : H p = some (.lst vs)) :
    XOk K (c.with p (.lst vs)) fx ∧ As K (c.with p (.lst vs)) G σ E H ∧ ∀ {E' : Env} {G' : Hp} {σ' : St} {H' : Hp}, As K (c.with p (.lst vs)) G' σ' E' H' → c.G0 p = none → As K c G' σ' E' H' ∧ H' p = some (.lst vs) ∧ G' p = none := by
  obtain ⟨g, b, n⟩ := f
  have hF : c.F ≠ some p := fun z => (A.tB p z).1 b
  refine ⟨X.within b hF A.tB, A.within hp b g (fun _ e => by cases e) n, fun A' g0 => ⟨A'.out b hF A.tB, A'.keep p _ upd_same hF kp_lst, A'.sep p (by show upd c.B p _ p ≠ none; rw [upd_same]; simp) g0⟩⟩
theorem ws_parO {i j : Nat} (h : Wo K fx ta E fun xs E1 => We K fx tf E1 fun y E2 => E2.sl = E1.sl ∧ P.nx ((E2.set i (.own xs)).set j (.d y))) (hij : i ≠ j) : Ws K fx (tPar i j (tCons ta (tCons tf tNil))) E P := fun c G σ H Z X A k => by
  refine h c G σ H X A _ fun p vs xs E1 G1 H1 q1 A1 m1 f1 hp1 r1 => ?_
  obtain ⟨X', A', back⟩ := hold X A1 f1 hp1
  have g0 : c.G0 p = none := by
    cases e : c.G0 p with
    | none => rfl
    | some o => have := A1.g0 _ _ e; rw [f1.1] at this; cases this
  refine q1 _ G1 σ H1 X' A' _ fun u y E2 G2 H2 q2 A2 m2 r2 => ?_
  obtain ⟨s2, q2⟩ := q2
  obtain ⟨A3, hp2, gp2⟩ := back A2 g0
  refine ⟨_, _, rfl, k.nx _ _ _ _ q2 (As.putD (A3.put i (some (.ref p)) (.own xs) ⟨p, vs, rfl, gp2, f1.2.1, hp2, r1.mono m2.ex⟩ fun _ p' e' j' hj hs u' hu => ?_) j r2) (m1.ex.trans m2.ex)⟩
  cases e'
  rw [s2] at hu
  exact f1.2.2 j' hs u' hu
theorem ws_parOO {i j : Nat} (h : Wo K fx ta E fun xs E1 => Wo K fx tf E1 fun ys E2 => E2.sl = E1.sl ∧ P.nx ((E2.set i (.own xs)).set j (.own ys))) (hij : i ≠ j) : Ws K fx (tPar i j (tCons ta (tCons tf tNil))) E P := fun c G σ H Z X A k => by
  refine h c G σ H X A _ fun p vs xs E1 G1 H1 q1 A1 m1 f1 hp1 r1 => ?_
  obtain ⟨X', A', back⟩ := hold X A1 f1 hp1
  have g0 : c.G0 p = none := by
    cases e : c.G0 p with
    | none => rfl
    | some o => have := A1.g0 _ _ e; rw [f1.1] at this; cases this
  refine q1 _ G1 σ H1 X' A' _ fun p2 ws ys E2 G2 H2 q2 A2 m2 f2 hp3 r2 => ?_
  obtain ⟨s2, q2⟩ := q2
  obtain ⟨A3, hp2, gp2⟩ := back A2 g0
  have b2 : upd c.B p (.lst vs) p2 = none := f2.2.1
  have np : p2 ≠ p := fun z => by subst z; rw [upd_same] at b2; cases b2
  rw [upd_ne np] at b2
  have l2 : E2.sl.length = σ.length := A3.len.symm
  have B1 := A3.put i (some (.ref p)) (.own xs) ⟨p, vs, rfl, gp2, f1.2.1, hp2, r1.mono m2.ex⟩ fun _ p' e' j' hj hs u' hu => by
    cases e'
    rw [s2] at hu
    exact f1.2.2 j' hs u' hu
  refine ⟨_, _, rfl, k.nx _ _ _ _ q2 (B1.put j (some (.ref p2)) (.own ys) ⟨p2, ws, rfl, f2.1, b2, hp3, r2⟩ fun _ p' e' j' hj hs u' hu => ?_) (m1.ex.trans m2.ex)⟩
  cases e'
  rcases set_get hs with ⟨y1, y2, y3⟩ | ⟨y1, y2⟩
  · cases y3; exact absurd rfl np
  · rcases setS_get hu with ⟨z1, z2, z3⟩ | ⟨z1, z2⟩
    · exact absurd ⟨z1, by rw [← l2]; exact z2⟩ y1
    · exact f2.2.2 j' y2 u' z2
/-- x[i], y[j] = .., both lists of their own -/
theorem ws_sub2 {i j n : Nat} {tb tc : TE} {xs ys : List D} (hx : E.sl[i]? = some (.own xs)) (hy : E.sl[j]? = some (.own ys)) (hij : i ≠ j)
    (h : We K fx te E fun d E1 => ∃ u v, d = .tup [u, v] ∧ n = 2 ∧ E1.sl = E.sl ∧ We K fx tb E1 fun z E2 => E2.sl = E.sl ∧ ∃ (m : Int) (a : Nat), z = .int m ∧ ixN xs.length m = some a ∧
      We K fx tc (E2.set i (.own (xs.set a u))) fun w E3 => E3.sl = (E2.set i (.own (xs.set a u))).sl ∧ ∃ (m' : Int) (b : Nat), w = .int m' ∧ ixN ys.length m' = some b ∧ P.nx (E3.set j (.own (ys.set b v)))) :
    Ws K fx (tAsg te (gTup K n (gCons (gSub (tVar i) tb rSetL) (gCons (gSub (tVar j) tc rSetL) gNil)))) E P := fun c G σ H Z X A k => by
  refine h c G σ H X A _ fun vv d E1 G1 H1 q1 A1 m1 rv => ?_
  obtain ⟨u, v, rfl, rfl, s1, q1⟩ := q1
  cases rv with
  | @tup a vs _ ha rs =>
    cases rs with
    | cons r1 rs =>
      cases rs with
      | cons r2 rs =>
        cases rs
        refine ⟨a, _, rfl, A1.ex.t ha, rfl, ?_⟩
        have hx1 : E1.sl[i]? = some (.own xs) := by rw [s1]; exact hx
        obtain ⟨p, ws, e, _, _, hp, _⟩ := A1.own hx1
        refine ⟨_, _, rfl, .ref p, e, q1 c G1 σ H1 X A1 _ fun z dz E2 G2 H2 q2 A2 m2 rz => ?_⟩
        obtain ⟨s2, m, aa, rfl, e2, q2⟩ := q2
        cases rz
        have hx2 : E2.sl[i]? = some (.own xs) := by rw [s2]; exact hx
        obtain ⟨p', ws', e', _, _, hp', r'⟩ := A2.own hx2
        rw [e] at e'; cases e'
        refine ⟨p, ws', m, aa, rfl, rfl, hp', by rw [r'.length]; exact e2, ?_⟩
        have A3 := A2.change hx2 e (r'.set (r1.mono m2.ex) aa)
        have hy3 : (E2.set i (.own (xs.set aa u))).sl[j]? = some (.own ys) := by
          show (E2.sl.set i _)[j]? = _
          rw [List.getElem?_set_ne hij, s2]; exact hy
        obtain ⟨p3, ws3, e3, _, _, hp3, _⟩ := A3.own hy3
        refine ⟨_, _, rfl, .ref p3, e3, q2 c G2 σ _ X A3 _ fun w dw E4 G4 H4 q4 A4 m4 rw' => ?_⟩
        obtain ⟨s4, m', b, rfl, e4, q4⟩ := q4
        cases rw'
        have hy4 : E4.sl[j]? = some (.own ys) := by rw [s4]; exact hy3
        obtain ⟨p5, ws5, e5, _, _, hp5, r5⟩ := A4.own hy4
        rw [e3] at e5; cases e5
        refine ⟨p3, ws5, m', b, rfl, rfl, hp5, by rw [r5.length]; exact e4, ?_⟩
        exact ⟨rfl, k.nx _ _ _ _ q4 (A4.change hy4 e3 (r5.set (r2.mono (m2.ex.trans m4.ex)) b)) (m1.ex.trans (m2.ex.trans m4.ex))⟩
end
end Z
end
section
/-! extend; join; texts of integers -/
namespace Z
open PySem L2
section
variable {K : PySem.W.Frag} {fx : Fx} {E : Env} {te tx : TE} {P : Po} {Q : D → Env → Prop}
theorem ws_ext {i : Nat} {ds : List D} (h0 : E.sl[i]? = some (.own ds)) (h : We K fx te E fun d E' => ∃ zs, d = .lst zs ∧ E'.sl = E.sl ∧ ds.length + zs.length ≤ 100000 ∧ P.nx (E'.set i (.own (ds ++ zs)))) : Ws K fx (tDrop (tBM K "list" rExtend (tVar i) (tCons te tNil))) E P := fun c G σ H Z X A k => by
  obtain ⟨p, vs, e, g, b, hp, r⟩ := A.own h0
  refine ⟨.ref p, e, .inl ⟨rfl, vs, .inl (.inl hp)⟩, h c G σ H X A _ fun v d E' G' H' q A' m rv => ?_⟩
  obtain ⟨zs, rfl, q1, q2, q3⟩ := q
  have h1 : E'.sl[i]? = some (.own ds) := by rw [q1]; exact h0
  obtain ⟨p', vs', e', g', b', hp', r'⟩ := A'.own h1
  rw [e] at e'
  cases e'
  cases rv with
  | @lst a ws _ ha rs =>
    refine ⟨p, a, vs', ws, rfl, rfl, hp', A'.ex _ _ ha, Nat.le_trans (by rw [r'.length, rs.length]; exact q2) (by decide), ?_⟩
    exact k.nx _ _ _ _ q3 (A'.change h1 e (r'.append rs)) m.ex
theorem we_join (h : We K fx te E fun d E1 => ∃ a, d = .str a ∧ We K fx tx E1 fun y E2 => ∃ ys : List Str, (y = .lst (ts ys) ∨ y = .tup (ts ys)) ∧ (ys.map (·.length)).sum + ys.length * a.length ≤ 16777216 ∧ Q (.str (Txt.join a ys)) E2) :
    We K fx (tM1 (fun x xs H Q => ∃ a p, ∃ ys : List Str, x = .str a ∧ xs = [.ref p] ∧ (SqL K H p (ys.map V.str) ∨ SqT K H p (ys.map V.str)) ∧ (ys.map (·.length)).sum + ys.length * a.length ≤ 16777216 ∧ Q (.str (Txt.join a ys)) H) te tx) E Q := fun c G σ H X A P k =>
  h c G σ H X A _ fun v d E1 G1 H1 q1 A1 m1 r1 => by
    obtain ⟨a, rfl, q1⟩ := q1
    cases r1
    refine ⟨⟨a, rfl⟩, q1 c G1 σ H1 X A1 _ fun u y E2 G2 H2 q2 A2 m2 r2 => ?_⟩
    obtain ⟨ys, e, hl, q⟩ := q2
    rcases e with e | e
    · subst e
      cases r2 with
      | @lst p vs _ hp rs => exact ⟨a, p, ys, rfl, rfl, .inl (by rw [← rps_strs rs]; exact A2.ex.l (.inl (.inl hp))), hl, k _ _ _ _ _ q A2 (m1.trans m2) (.str _)⟩
    · subst e
      cases r2 with
      | @tup p vs _ hp rs => exact ⟨a, p, ys, rfl, rfl, .inr (by rw [← rps_strs rs]; exact A2.ex.t hp), hl, k _ _ _ _ _ q A2 (m1.trans m2) (.str _)⟩
end
theorem join_one (a x : Str) : Txt.join a [x] = x := by
  first
    | rfl
    | (unfold Txt.join; rfl)
    | (simp [Txt.join])
theorem ofString_app (a b : String) : Str.ofString a ++ Str.ofString b = Str.ofString (a ++ b) := by
  rw [Str.ofString_eq_toList, Str.ofString_eq_toList, Str.ofString_eq_toList, String.toList_append, List.map_append]
  show Str.append _ _ = _
  unfold Str.append
  simp
theorem int_textN {i : Int} (h : i < 0) : Str.ofString "-" ++ Str.ofString (toString (-i)) = Str.ofString (toString i) := by
  rw [ofString_app]
  congr 1
  obtain ⟨k, rfl⟩ := Int.eq_negSucc_of_lt_zero h
  rw [Int.neg_negSucc]
  rfl
theorem str_nilL (x : String) : Str.ofString "" ++ Str.ofString x = Str.ofString x := by
  rw [ofString_app]
  congr 1
theorem len_text {i : Int} (h : -(2 ^ 200) < i ∧ i < 2 ^ 200) : (Str.ofString (toString i)).length ≤ 1921 := by
  have h1 : i.natAbs < 2 ^ 200 := by omega
  have h2 := PySem.Flt.log2_lt_of (by decide : 0 < 200) h1
  exact PyProof.Rows.int_text_len_1921 (by omega)
section
variable {α : Type} {K : PySem.W.Frag} {fx : Fx} {E : Env} {te : TE} {tk : TA} {Q : D → Env → Prop}
theorem we_smP {pm : Pm α} {EX : XK} {l : List Nat} {k : Nat} {C : Addr} (h : We K fx te E fun o E0 => o = .ad C ∧ Wa K fx tk E0 fun es E2 => es.length = k ∧ Called pm fx EX (perm l [] es) E2 Q fun _ _ => False) :
    We K fx (tSMN C k (spD K pm) (fun vs zs => perm l vs zs) EX te tk) E Q := we_smN (fun G vs zs ds es r1 r2 l1 _ => by
  have e : ds = [] := List.eq_nil_of_length_eq_zero l1
  subst e
  exact perm_rps r1 r2) h
theorem we_makeP {pm : Pi α} {EX : XK} {C : Addr} (h : Wa K fx tk E fun es E1 => ∃ d, es = [d] ∧ ∃ a, [d] = pm.args a ∧ pm.pre a C ∧ (∀ fs, pm.post a C fs → Q (.ob C fs) E1) ∧ ∀ C' f, pm.exc a C C' f → EX = fx.EX ∧ fx.xp C' f E1.n) :
    We K fx (tMakeN C 0 1 (spI K pm) (fun vs zs => perm [0, 1] vs zs) EX tNil tk) E Q :=
  we_makeN (gD := fun es => es) (fun x zs hz => by
    match zs, hz with
    | [z], _ => exact ⟨[z], rfl, fun G es r => r⟩) fun c G σ H X A P k => h c G σ H X A P fun vs ds E' G' H' q => k vs ds E' G' H' (by
    obtain ⟨d, rfl, q⟩ := q
    exact ⟨rfl, q⟩)
end
theorem sum_le_len {β : Type} (f : β → Nat) (m : Nat) : ∀ xs : List β, (∀ x ∈ xs, f x ≤ m) → (xs.map f).sum ≤ xs.length * m
  | [], _ => by simp
  | x :: xs, h => by
    have := sum_le_len f m xs fun y hy => h y (List.mem_cons_of_mem _ hy)
    have h0 := h x List.mem_cons_self
    rw [List.map_cons, List.sum_cons, List.length_cons, Nat.add_mul]
    omega
theorem join_fits {ns : List Int} (hl : ns.length ≤ 100) (h : ∀ x ∈ ns, -(2 ^ 200) < x ∧ x < 2 ^ 200) : (((ns.map fun a => Str.ofString (toString a)).map (·.length)).sum + (ns.map fun a => Str.ofString (toString a)).length * (Str.ofString " ").length) ≤ 16777216 := by
  have := sum_le_len (fun a : Int => (Str.ofString (toString a)).length) 1921 ns fun x hx => len_text (h x hx)
  rw [List.map_map, List.length_map]
  have e : (Str.ofString " ").length = 1 := by decide +kernel
  rw [e]
  have e2 : (ns.map ((fun x : Str => x.length) ∘ fun a : Int => Str.ofString (toString a))).sum ≤ ns.length * 1921 := this
  omega
theorem zs_mem {ns : List Int} {i x : Int} (h : atI (zs ns) i = some (.int x)) : x ∈ ns := by
  unfold atI at h
  cases q : ixN (zs ns).length i with
  | none => rw [q] at h; cases h
  | some j =>
    rw [q] at h
    obtain ⟨y, hy, e⟩ := zs_get (show (zs ns)[j]? = some (.int x) from h)
    cases e
    exact List.mem_of_getElem? hy
end Z
end
section
namespace Z
open PySem L2
section
variable {K : PySem.W.Frag} {fx : Fx} {E : Env} {ta tb tf : TE} {P : Po}
/-- three names at once, the third a list of its own -/
theorem ws_par3O {i j l : Nat} (h : We K fx ta E fun x E1 => We K fx tb E1 fun y E2 => Wo K fx tf E2 fun zs E3 => P.nx (((E3.set i (.d x)).set j (.d y)).set l (.own zs))) : Ws K fx (tPar3 i j l (tCons ta (tCons tb (tCons tf tNil)))) E P := fun c G σ H Z X A k => by
  refine h c G σ H X A _ fun v1 x E1 G1 H1 q1 A1 m1 r1 => ?_
  refine q1 _ G1 σ H1 X A1 _ fun v2 y E2 G2 H2 q2 A2 m2 r2 => ?_
  refine q2 _ G2 σ H2 X A2 _ fun p vs zs E3 G3 H3 q3 A3 m3 f3 hp r3 => ?_
  have l3 : E3.sl.length = σ.length := A3.len.symm
  refine ⟨_, _, _, rfl, k.nx _ _ _ _ q3 (As.put ((A3.putD i (r1.mono (m2.ex.trans m3.ex))).putD j (r2.mono m3.ex)) l (some (.ref p)) (.own zs) ⟨p, vs, rfl, f3.1, f3.2.1, hp, r3⟩ fun _ p' e' j' hj hs u' hu => ?_) (m1.ex.trans (m2.ex.trans m3.ex))⟩
  cases e'
  rcases setS_get hu with ⟨_, _, z3⟩ | ⟨z1, hu⟩
  · subst z3; exact fun z => z.elim
  rcases setS_get hu with ⟨_, _, z3⟩ | ⟨z2, hu⟩
  · subst z3; exact fun z => z.elim
  rcases set_get hs with ⟨y1, y2, _⟩ | ⟨_, hs⟩
  · exact absurd ⟨y1, by show j < (E3.sl.set i _).length; rw [List.length_set] at y2 ⊢; rw [l3]; exact y2⟩ z1
  rcases set_get hs with ⟨y1, y2, _⟩ | ⟨_, hs⟩
  · exact absurd ⟨y1, by rw [l3]; exact y2⟩ z2
  exact f3.2.2 j' hs u' hu
end
end Z
end
section
/-! an error that is kept: try: .. except C as e: suite -/
namespace Z
open L2 PySem PySem.Spec PyProof.Rows
section
variable {s : Shared} {X : Cx} {σ : L2.St} {H : Hp} {pins : List (Addr × Obj)}
theorem leave_suite {a : Addr} {oe : Obj} (I : Inv (X.suite a ((a, oe) :: (X.pn ++ pins))) [] σ H s) (ok : X.Ok) : Inv X ((a, oe) :: pins) σ H s :=
  { ok := ok, os := I.os, bare := I.bare, base := I.base, loc := I.loc, cell := I.cell, free := I.free, freeC := I.freeC, hok := I.hok, len := I.len,
    pin := fun p q0 => I.pin p (by
      rw [List.append_nil]
      rcases List.mem_append.mp q0 with h | h
      · exact List.mem_cons_of_mem _ (List.mem_append_left _ h)
      · rcases List.mem_cons.mp h with h | h
        · exact h ▸ List.mem_cons_self
        · exact List.mem_cons_of_mem _ (List.mem_append_right _ h)) }
theorem lay_pin {a : Addr} {oe : Obj} (I : Inv X ((a, oe) :: pins) σ H s) (hn : ∀ o, X.s_0.heap.get? a = some o → a ∈ X.ex) (hp : ∀ p ∈ X.pn ++ pins, p.1 ≠ a) : Inv X pins σ (upd H a (kept a oe)) s := by
  obtain ⟨ha, na, nL, nF, nC⟩ := I.pin (a, oe) (List.mem_append_right _ List.mem_cons_self)
  have up : ∀ {b : Addr} {o : HO}, H b = some o → upd H a (kept a oe) b = some o := fun {b o} e => by
    rw [upd_ne (ne_of_none e na)]; exact e
  refine { ok := I.ok, os := I.os, bare := I.bare, loc := I.loc, cell := I.cell, len := I.len, base := ⟨I.base.keep, I.base.slot, fun b o e n hx => ?_, I.base.there, fun b xs e => up (I.base.tups b xs e), fun b o u e => up (I.base.frzs b o u e), fun b ps e => ?_⟩, free := ?_, freeC := fun x c e => ?_, pin := fun p q => ?_, hok := fun b o e => ?_ }
  · by_cases h : b = a
    · subst h; exact absurd (hn o e) hx
    · rw [upd_ne h]; exact I.base.free b o e n hx
  · rcases I.base.tbls b ps e with ⟨m, q⟩
    exact ⟨m, up q⟩
  · rw [upd_ne (Ne.symm nL)]; exact I.free
  · have hc : c ≠ a := fun h => by
      subst h
      obtain ⟨v, o, h1, h2⟩ := I.cell x c e
      rw [ha] at h1; cases h1
      exact nC v h2
    rw [upd_ne hc]; exact I.freeC x c e
  · obtain ⟨q1, q2, q3⟩ := I.pin p (by
      rcases List.mem_append.mp q with h | h
      · exact List.mem_append_left _ h
      · exact List.mem_append_right _ (List.mem_cons_of_mem _ h))
    exact ⟨q1, by rw [upd_ne (hp p q)]; exact q2, q3⟩
  · by_cases h : b = a
    · subst h
      rw [upd_same] at e
      cases e
      exact ⟨ha, ⟨_, ha⟩, fun h1 h2 e k => k _ e⟩
    · rw [upd_ne h] at e
      exact (I.hok b o e).stay (fun c w' hc q => q) (fun c q => up q) fun c xs q => up q
/-- into a suite, out of it: the exception's object is told by the heap -/
theorem enter_kept {a : Addr} (I : Inv X pins σ H s) : Inv (X.suite a (X.pn ++ pins)) [] σ H s :=
  { ok := I.ok.suite a _, os := I.os, bare := I.bare, base := I.base, loc := I.loc, cell := I.cell, free := I.free, freeC := I.freeC, hok := I.hok, len := I.len,
    pin := fun p q => I.pin p (by rw [List.append_nil] at q; exact q) }
theorem leave_kept {a : Addr} (I : Inv (X.suite a (X.pn ++ pins)) [] σ H s) (ok : X.Ok) : Inv X pins σ H s :=
  { ok := ok, os := I.os, bare := I.bare, base := I.base, loc := I.loc, cell := I.cell, free := I.free, freeC := I.freeC, hok := I.hok, len := I.len,
    pin := fun p q => I.pin p (by rw [List.append_nil]; exact q) }
end
/-- what the clause 'except x as n' wishes: the error is kept while the suite runs, and from then on -/
def wKeep (K : PySem.W.Frag) (m : Nat) (c : Value) (i : Nat) (ts : TS) (Wout : WX) (D : Ends) : WX := fun cls d σ H =>
  ∃ b, PySem.W.exmOne K cls c = some b ∧ (b = false → Wout cls d σ H) ∧
    (b = true → σ.length = m → ∀ (a : Addr) (oe : Obj), H a = none → Zc cls d oe → (∃ vs, oe.data = .fields vs) →
      ts { nx := fun σ' H' => D.nx (σ'.set i none) H', rt := D.rt, bk := fun σ' H' => D.bk (σ'.set i none) H', ct := fun σ' H' => D.ct (σ'.set i none) H' } (σ.set i (some (.ref a))) (upd H a (kept a oe)))
section
theorem apart {B h : Heap} {fr : List PySem.Env} {p : Addr} {o : Obj} {vs : Array Value} (ff : h.FunFrames B fr) (g : h.get? p = some o) (k : o.data = .fields vs) : p ∉ frs fr := fun m => by
  rcases ff.mem m with ⟨_, _, g', k'⟩
  cases g.symm.trans g'
  exact k' vs k
theorem named {Y : Cx} {τ : L2.St} {G : Hp} {z : Shared} {ps : List (Addr × Obj)} {x : Str} {c : Value} {np : Pos} (S : Inv Y ps τ G z) (nm : Names Y x c) {Q E : Value → Shared → Prop} (q : Q c z) : wpAny (model Y.prog Y.w) Y.A (eval (.Name x np) Y.env) Q E z := by
  rcases nm with ⟨g, db, m | ⟨m, v, nn⟩⟩
  · exact ld_glob S g m q db
  · exact ld_blt S g m v q nn db
variable {X : Cx} {nm en : Str} {c : Value} {i : Nat} {b₀ : Stmt} {bd su : List Stmt} {p1 p2 p3 : Pos} {tb : WX → TS} {ts : TS} {Wo' : WX}
/-- what a raise in the body meets -/
def meets (X : Cx) (hd : List ExceptHandler) (F : Flow → Shared → Prop) (u : Value) (z : Shared) : Prop :=
  wpAny (model X.prog X.w) X.A (noteFrame u X.env) (fun _ z1 => wpAny (model X.prog X.w) X.A (setFlight u none) (fun _ z2 => wpAny (model X.prog X.w) X.A (handleBy u X.env hd) F X.xe z2) X.xe z1) X.xe z
theorem ps_try_keep (st : X.stack = X.env :: X.outer) (fm : X.env.frame = some X.env.locals) (nd : X.N.Nodup) (ix : X.N[i]? = some en) (lc : X.env.kindOf en = some .local) (cn : Names X nm c) (tk : Takes X Wo')
    (hb : ∀ W pn xe, Takes (X.tr pn xe) W → PassesOwn (model X.prog X.w) X.A X.env xe → PSs (X.tr pn xe) bd (tb W))
    (hk : ∀ p pn, PSs (X.suite p pn) (b₀ :: su) ts) :
    PS X (.Try bd [.ExceptHandler (some (.Name nm p1)) (some en) (b₀ :: su) p2] [] [] p3) fun D σ H => tb (wKeep X.K X.N.length c i ts Wo' D) D σ H := by
  refine ⟨fun ps z₀ τ₀ G₀ D inv want => wpAny_Try_except (wpAny_mono ((hb _ (X.pn ++ ps) (meets X [.ExceptHandler (some (.Name nm p1)) (some en) (b₀ :: su) p2] (SP X ps D)) ?_ PassesOwn.looking).run [] z₀ τ₀ G₀ D (inv.toTry _) want) ?_ fun _ _ q => q)⟩
  · rintro u z ⟨p, B, zI, ps', τ, G, k, d, rfl, jn, old, up, sky, fresh, os, bare, b, one, no, yes⟩
    have J : Inv X ps τ G zI := jn.ofTry inv.ok
    rw [st] at sky
    have frm : X.A.frames = some (X.env :: X.outer) := inv.ok.frames.trans (by rw [st])
    refine Sky.land Zc.steady frm fm sky fun h1 fly up1 => ?_
    have J1 : Inv X ps τ G { z with heap := h1 } := J.landed old fly.1 (up.trans up1) os bare
    rcases fly.there with ⟨o1, vs1, g1, z1, d1⟩
    have ap : p ∉ frs (X.env :: X.outer) := apart fly.2.2.1 g1 d1
    have aL : p ≠ X.env.locals := fun q => ap (List.mem_filterMap.mpr ⟨_, .head _, by rw [fm, q]⟩)
    have aF : p ∉ X.fs := fun m => by rcases List.mem_filterMap.mp m with ⟨y, my, q⟩; exact ap (List.mem_filterMap.mpr ⟨y, .tail _ my, q⟩)
    have none_ : zI.heap.get? p = none := by
      rcases q : zI.heap.get? p with _ | o
      · rfl
      · cases fly.2.1.symm.trans (old p o q (by rw [st]; exact ap))
    have S1 := J1.suite g1 d1 fresh aL aF
    have look : PySem.W.Looks (model X.prog X.w) h1 (typeOf (.ref p)) k := fun _ _ _ _ keep q => wpAny_typeOf_ref (keep _ _ g1) (by rw [z1.1]; exact q)
    refine wpAny_handleBy_cons (codeAny_handlers_test (named S1 (np := p1) cn ((PySem.W.exm_one (M := model X.prog X.w) J1.kIn look one).here ?_))) fun q => by cases q
    rcases b with _ | _
    · refine wpAny_handleBy_nil ?_
      rcases id fly with ⟨_, _, _, o, vs, T, _, _, g, _, dd, tb0, _⟩
      have rest : wpAny (model X.prog X.w) X.A (setFlight (.ref p) X.env.frame) (fun _ y => wpAny (model X.prog X.w) X.A (throw (.ref p) : Sem Flow) (SP X ps D) X.xe y) X.xe { z with heap := h1 } := by
        rw [fm]
        exact HandSPX.setFlight_upZ fly fun h2 f2 up2 => wpAny_throw (tk _ _ ⟨p, B, zI, ps, τ, G, k, d, rfl, J, old, (up.trans up1).trans up2, .inr (.inr (by rw [st]; exact f2)), fresh, os, bare, no rfl⟩)
      unfold PySem.passOn
      refine wpAny_bind (wpAny_field g dd tb0 ?_)
      rw [if_neg (by simp : ¬ ((Value.ref T == Value.none) = true))]
      first
        | exact wpAny_bind (wpAny_pure (wpAny_bind rest))
        | exact wpAny_bind rest
    · refine codeAny_handlers_suite_as (HandSPX.lands_againZ fly fun h2 f2 up2 => ?_)
      rcases f2.there with ⟨o2, vs2, g2, z2, d2⟩
      have unb : ∀ o, X.s_0.heap.get? p = some o → p ∈ X.ex := fun o q => Classical.byContradiction fun m => by
        rcases J.base.there p o q m with ⟨_, q'⟩
        cases none_.symm.trans q'
      have un : ∀ y ∈ X.pn ++ ps, y.1 ≠ p := fun y my q => by cases none_.symm.trans (q ▸ (J.pin y my).1)
      have S2 := enter_kept (a := p) (lay_pin (leave_suite ((J.landed old f2.1 ((up.trans up1).trans up2) os bare : Inv X ps τ G { z with heap := h2 }).suite g2 d2 fresh aL aF) inv.ok) unb un)
      refine store_ok (X := X.suite p (X.pn ++ ps)) (v := .ref p) S2 nd ix (.inl lc) rfl (fun z3 S3 => wpAny_mono ((hk p _).run [] z3 _ _ _ S3 (yes rfl J.len p o2 fresh z2 ⟨_, d2⟩)) (fun f y fin => ?_) fun _ _ q => q.elim) (.inr lc)
      cases f with
      | ret u => rcases fin with ⟨_, _, _, S, r, q⟩; exact gone_ok (leave_kept S inv.ok) nd ix lc fun _ K => ⟨_, _, _, K, r, q⟩
      | _ => rcases fin with ⟨_, _, S, q⟩; exact gone_ok (leave_kept S inv.ok) nd ix lc fun _ K => ⟨_, _, K, q⟩
  · intro f y fin
    cases f with
    | ret u => rcases fin with ⟨_, _, _, K, r, q⟩; exact ⟨_, _, _, K.ofTry inv.ok, r, q⟩
    | _ => rcases fin with ⟨_, _, K, q⟩; first | exact wpAny_execs_nil ⟨_, _, K.ofTry inv.ok, q⟩ | exact ⟨_, _, K.ofTry inv.ok, q⟩
end
end Z
end
section
/-! raise, and the __init__ of an exception's class -/
namespace Z
open PySem L2
/-! ### what is decided of an exception's class -/
def oexB (K : PySem.W.Frag) (C : Addr) : Bool := (match K.lookup C with
  | some ⟨.type t, _, .cls cd, sl⟩ => decide (t = "type") && ((match cd.mro with
    | .ref C' :: bm => decide (C' = C) && HandSPX.refsVE bm
    | _ => false) && (cd.hasDict && ((!cd.hasDel) && (match sl.toList with
      | [_, _, _, _, some (.builtin n), _] => decide (n = "ValueError.__new__")
      | _ => false))))
  | _ => false) && (decide (PySem.W.findIn K (.ref C) "__setattr__" = some (some (.builtin "object.__setattr__"))) && (decide (PySem.W.subIn K (.ref C) (.type "BaseException") = some true) && (decide (PySem.W.typeIn K (.ref C) = some (.type "type")) && PySem.W.keepIn K (.ref C))))
theorem ba {a b : Bool} (h : (a && b) = true) : a = true ∧ b = true := by simpa using h
theorem oexB_ok {K : PySem.W.Frag} {C : Addr} (h : oexB K C = true) : OexC K C := by
  obtain ⟨h0, h⟩ := ba h
  obtain ⟨h1, h⟩ := ba h
  obtain ⟨h2, h⟩ := ba h
  obtain ⟨h3, h4⟩ := ba h
  refine ⟨?_, of_decide_eq_true h1, of_decide_eq_true h2, of_decide_eq_true h3, h4⟩
  split at h0
  · rename_i t dd cd sl hK
    obtain ⟨a1, h0⟩ := ba h0
    obtain ⟨a2, h0⟩ := ba h0
    obtain ⟨a3, h0⟩ := ba h0
    obtain ⟨a4, a5⟩ := ba h0
    split at a2
    · rename_i C' bm hm
      obtain ⟨b1, b2⟩ := ba a2
      split at a5
      · rename_i k0 k1 k2 k3 n k5 hs
        obtain rfl := of_decide_eq_true a1
        obtain rfl := of_decide_eq_true b1
        obtain rfl := of_decide_eq_true a5
        have es : sl = #[k0, k1, k2, k3, some (.builtin "ValueError.__new__"), k5] := by
          apply Array.toList_inj.mp; rw [hs]
        obtain ⟨nm, bs, mro, ns, qn, hdct, sn, sub, ab, col, hdel⟩ := cd
        simp only at a3 a4 hm
        subst es hm a3
        cases hdel with
        | true => cases a4
        | false => exact ⟨nm, qn, ns, bs, bm, sn, sub, ab, col, dd, k0, k1, k2, k3, k5, hK, b2⟩
      · cases a5
    · cases a2
  · cases h0
def excB (K : PySem.W.Frag) (D : Addr) : Bool := decide (PySem.W.findIn K (.ref D) "__getattribute__" = some (some (.builtin "BaseException.__getattribute__"))) && (decide (PySem.W.findIn K (.ref D) "__getattr__" = some none) && (decide (PySem.W.subIn K (.ref D) (.type "BaseException") = some true) && (PySem.W.hasDictIn K D &&
  (decide (PySem.W.findIn K (.ref D) "__class__" = some (some (.builtin "object.__class__"))) && (decide (PySem.W.specialIn K (.builtin "object.__class__") "__get__" = some (some (.builtin "getset_descriptor.__get__"))) && (decide (PySem.W.takesIn K (.builtin "object.__class__") = some true) && decide (PySem.W.mroIn K D (.type "object") = some true)))))))
theorem excB_ok {K : PySem.W.Frag} {D : Addr} (h : excB K D = true) : ExcC K D := by
  obtain ⟨h1, h⟩ := ba h
  obtain ⟨h2, h⟩ := ba h
  obtain ⟨h3, h⟩ := ba h
  obtain ⟨h4, h⟩ := ba h
  obtain ⟨h5, h⟩ := ba h
  obtain ⟨h6, h⟩ := ba h
  obtain ⟨h7, h8⟩ := ba h
  exact ⟨of_decide_eq_true h1, of_decide_eq_true h2, of_decide_eq_true h3, h4, of_decide_eq_true h5, of_decide_eq_true h6, of_decide_eq_true h7, of_decide_eq_true h8⟩
theorem ExcC.xf {K : PySem.W.Frag} {D : Addr} (h : ExcC K D) : XfC K D := ⟨h.hg, h.hk, h.hs, h.hd⟩
/-- all that is asked of a class of exceptions: it is made, kept and told -/
structure Exq (K : PySem.W.Frag) (C fI : Addr) (fs : List Str) : Prop where
  o : OexC K C
  e : ExcC K C
  i : PySem.W.findIn K (.ref C) "__init__" = some (some (.ref fI))
  t : PySem.W.typeIn K (.ref fI) = some (.type "function")
  f : ∀ f ∈ fs, PySem.W.findIn K (.ref C) f = some none
def exqB (K : PySem.W.Frag) (C fI : Addr) (fs : List Str) : Bool := oexB K C && (excB K C && (He.eqO (PySem.W.findIn K (.ref C) "__init__") (some (some (.ref fI))) && (decide (PySem.W.typeIn K (.ref fI) = some (.type "function")) && fs.all fun f => decide (PySem.W.findIn K (.ref C) f = some none))))
theorem exqB_ok {K : PySem.W.Frag} {C fI : Addr} {fs : List Str} (h : exqB K C fI fs = true) : Exq K C fI fs := by
  obtain ⟨h1, h⟩ := ba h
  obtain ⟨h2, h⟩ := ba h
  obtain ⟨h3, h⟩ := ba h
  obtain ⟨h4, h5⟩ := ba h
  exact ⟨oexB_ok h1, excB_ok h2, He.eqO_ok h3, of_decide_eq_true h4, fun f hf => of_decide_eq_true (List.all_eq_true.mp h5 f hf)⟩

/-! ### __init__ -/
def spX (K : PySem.W.Frag) (fs : List Str) : Sp := fun vs H Q _ => ∃ (x C : Addr) (us : List V), vs = .ref x :: us ∧ us.length = fs.length ∧ H x = some (exo x C none) ∧ OexC K C ∧ (∀ f ∈ fs, PySem.W.findIn K (.ref C) f = some none) ∧
  ∀ d, H d = none → d ≠ x → Q .non (upd (upd H d (exd d (fs.zip us).reverse)) x (exo x C (some d)))
theorem spX_len {K : PySem.W.Frag} {fs : List Str} {k : Nat} (h : fs.length + 1 = k) : ∀ vs H Q E, spX K fs vs H Q E → vs.length = k := fun vs H Q E ⟨x, C, us, e, l, _⟩ => by rw [e, List.length_cons, l, h]
theorem start_at {N : List Str} {vs : List V} {i : Nat} {v : V} (h : vs[i]? = some v) : (L2.start N vs)[i]? = some (some v) := by
  unfold L2.start
  rw [List.getElem?_append_left (by simpa using (List.getElem?_eq_some_iff.mp h).1), List.getElem?_map, h]
  rfl
theorem upd2_same {H : Hp} {a b : Addr} {o u v : HO} (h : a ≠ b) : upd (upd (upd H a o) b u) a v = upd (upd H a v) b u := by
  funext x
  by_cases h1 : x = a
  · subst h1; rw [upd_same, upd_ne h, upd_same]
  · rw [upd_ne h1]
    by_cases h2 : x = b
    · subst h2; rw [upd_same, upd_same]
    · rw [upd_ne h2, upd_ne h2, upd_ne h1, upd_ne h1]
section
variable {K : PySem.W.Frag} {N : List Str} {vs : List V} {H : Hp} {Q : VK} {EX : XK} {f g : Str}
theorem bodyX1 (h : spX K [f] vs H Q EX) : tOst K f (tVar 0) (tVar 1) { nx := fun _ H' => Q .non H', rt := Q } (L2.start N vs) H := by
  obtain ⟨x, C, us, rfl, l, hx, ho, hf, q⟩ := h
  match us, l with
  | [u], _ => exact ⟨u, start_at rfl, .ref x, start_at rfl, x, C, rfl, ho, hf f (by simp), .inl ⟨hx, fun d hd hne => q d hd hne⟩⟩
theorem bodyX2 (h : spX K [f, g] vs H Q EX) : tSeq (tOst K f (tVar 0) (tVar 1)) (tOst K g (tVar 0) (tVar 2)) { nx := fun _ H' => Q .non H', rt := Q } (L2.start N vs) H := by
  obtain ⟨x, C, us, rfl, l, hx, ho, hf, q⟩ := h
  match us, l with
  | [u, w], _ =>
    refine ⟨u, start_at rfl, .ref x, start_at rfl, x, C, rfl, ho, hf f (by simp), .inl ⟨hx, fun d hd hne => ?_⟩⟩
    refine ⟨w, start_at rfl, .ref x, start_at rfl, x, C, rfl, ho, hf g (by simp), .inr ⟨d, [(f, u)], upd_same, by rw [upd_ne hne, upd_same], Nat.le_of_ble_eq_true rfl, ?_⟩⟩
    rw [upd2_same hne]
    exact q d hd hne
end
/-! ### raise -/
theorem rpf_zip {K : PySem.W.Frag} {G : Hp} : ∀ {fs : List Str} {vs : List V} {ds : List D}, Rps K G vs ds → Rpf K G (fs.zip vs) (fs.zip ds)
  | [], _, _, _ => by simp; exact .nil
  | f :: fs, _, _, .nil => by simp; exact .nil
  | f :: fs, _, _, .cons a b => by
    rw [List.zip_cons_cons, List.zip_cons_cons]
    exact .cons a (rpf_zip b)
theorem Rpf.app {K : PySem.W.Frag} {G : Hp} : ∀ {xs zs : List (Str × V)} {ys ws : List (Str × D)}, Rpf K G xs ys → Rpf K G zs ws → Rpf K G (xs ++ zs) (ys ++ ws)
  | _, _, _, _, .nil, s => s
  | _, _, _, _, .cons r t, s => .cons r (Rpf.app t s)
theorem Rpf.rev {K : PySem.W.Frag} {G : Hp} {vs : List (Str × V)} {ds : List (Str × D)} (r : Rpf K G vs ds) : Rpf K G vs.reverse ds.reverse := by
  induction vs generalizing ds with
  | nil => cases r; exact .nil
  | cons v vs ih =>
    cases r with
    | cons h t =>
      rw [List.reverse_cons, List.reverse_cons]
      exact (ih t).app (.cons h .nil)
section
variable {K : PySem.W.Frag} {fx : Fx} {E : Env} {P : Po}
theorem ws_raise {C : Addr} {fs : List Str} {ta : TA} {EX : XK} (hE : EX = fx.EX) (ho : OexC K C) (hf : ∀ f ∈ fs, PySem.W.findIn K (.ref C) f = some none)
    (h : Wa K fx ta E fun ds E1 => ds.length = fs.length ∧ fs.length ≤ 1000 ∧ fx.xp C (fs.zip ds).reverse E1.n) : Ws K fx (fun _ σ H => tMkO C (spX K fs) [] ta σ H fun cls d H' => EX cls d H') E P := fun c G σ H Z X A k => by
  refine h c G σ H X A _ fun vs ds E1 G1 H1 q A1 m1 r1 => ?_
  obtain ⟨l, l2, q⟩ := q
  refine ⟨by rw [r1.length, l]; exact l2, fun a ha => ⟨a, C, vs, by rw [List.append_nil], by rw [r1.length, l], upd_same, ho, hf, fun d hd hne => ?_⟩⟩
  have hd1 : H1 d = none := by rw [upd_ne hne] at hd; exact hd
  refine ⟨rfl, d, (fs.zip vs).reverse, upd_same, by rw [upd_ne hne, upd_same], hd1, ?_⟩
  have e : upd (del (upd (upd (upd H1 a (exo a C none)) d (exd d (fs.zip vs).reverse)) a (exo a C (some d))) a) d (.xd (fs.zip vs).reverse) = upd H1 d (.xd (fs.zip vs).reverse) := by
    funext b
    by_cases h1 : b = d
    · subst h1; rw [upd_same, upd_same]
    · rw [upd_ne h1, upd_ne h1]
      by_cases h2 : b = a
      · subst h2; rw [del_same, ha]
      · rw [del_ne h2, upd_ne h2, upd_ne h1, upd_ne h2]
  rw [e, hE]
  have m := Mv.hid (c := c) (o := HO.xd (fs.zip vs).reverse) A1.ex hd1
  exact X.2.1 C _ _ d G1 σ E1 _ q (A1.move0 m (fun a u e => by rw [upd_ne (ne_of_none e hd1)]; exact e)) upd_same (rpf_zip r1).rev (B_free A1 hd1)
end
/-! ### calls that let an exception out -/
theorem passC {X : Cx} : Passes (L2.CX X.prog X.w) X fun _ _ _ => False := fun _ _ _ _ _ _ _ c => by
  obtain ⟨_, _, _, _, _, _, _, _, _, _, _, _, z⟩ := c
  exact z.elim
theorem passE {P : Program} {w : World} {K : PySem.W.Frag} {mg : Str → Option Value} {base : Heap} {N : List Str} {q : Str} {sc : Scope} {f : Addr} {cd : Value} {A : Around} {outer : List PySem.Env} {s : Shared} {H : Hp} {E : XK} :
    Passes (L2.CX P w) (cxOf (L2.CX P w) P w K mg base N q sc f cd A outer s H E) E := passes_call (takes_of rfl rfl rfl rfl) fun _ _ _ _ h => h
theorem cxT {P : Program} {w : World} {K : PySem.W.Frag} {mg : Str → Option Value} {base : Heap} {N : List Str} {q : Str} {sc : Scope} {f : Addr} {cd : Value} {A : Around} {outer : List PySem.Env} {s : Shared} {H : Hp} {E : XK} :
    Takes (cxOf (L2.CX P w) P w K mg base N q sc f cd A outer s H E) fun cls d _ H => E cls d H := takes_of rfl rfl rfl rfl
end Z
end
section
/-! what is run within another's frame: a lambda's body, and what hears it -/
namespace Z
open PySem PySem.Spec L2
def plainS : Sl → Sl
  | .d x => .d x
  | _ => .no
def plain (E : Env) : Env := ⟨E.sl.map plainS, E.n⟩
section
variable {K : PySem.W.Frag} {fx : Fx} {c : Cn} {G H G' H' : Hp} {σ σ' : L2.St} {E E' : Env}
abbrev Cn.fr (c : Cn) (G H : Hp) : Cn := ⟨c.F, ntb c.T H, G, c.ca, c.cells, c.T⟩
theorem As.frame (A : As K c G σ E H) {σr : L2.St} {Er : Env} (hn : Er.n = E.n) (hl : σr.length = Er.sl.length)
    (hs : ∀ (i : Nat) (s : Sl), Er.sl[i]? = some s → s = .no ∨ ∃ x u, s = .d x ∧ (σr[i]?).join = some u ∧ Rp K G u x) : As K (c.fr G H) G σr Er H where
  ex := A.ex
  g0 := Ex.refl _
  keep := fun a o e _ _ => ntb_ex a o e
  sep := fun a _ g => g
  tB := fun t f => by
    obtain ⟨b1, b2, b3, b4⟩ := A.tB t f
    refine ⟨?_, A.sep t b1 b2, A.g0 _ _ b3, b4⟩
    have T := A.tap
    unfold TapOk at T
    have f' : c.F = some t := f
    rw [f'] at T
    obtain ⟨_, _, h1, _⟩ := T
    show ntb c.T H t ≠ none
    rw [ntb_of h1 kp_lst]; simp
  len := hl
  sl := fun i s e => by
    rcases hs i s e with rfl | ⟨x, u, rfl, h1, h2⟩
    · trivial
    · exact ⟨u, h1, h2⟩
  ne := fun i j s u p e1 e2 o1 o2 _ _ => by
    rcases hs i s e1 with rfl | ⟨x, u, rfl, h1, h2⟩
    · exact o1.elim
    · exact o1.elim
  tap := by
    have T := A.tap
    unfold TapOk at T ⊢
    rw [hn]
    exact T
  gt := fun _ _ e => e
  st := fun hT => ⟨fun a ps e => (A.st hT).1 a ps (A.gt a ps e), ntb_no hT⟩
  tb := A.tb
theorem As.fin (A' : As K (c.fr G H) G' σ' E' H') : Fin c.F c.T c.ca G H E'.n G' H' :=
  ⟨A'.g0, A'.ex, fun a o e f k => A'.keep a o (ntb_of e k) f k, fun a o e k g => A'.sep a (by show ntb c.T H a ≠ none; rw [ntb_of e k]; simp) g, fun t f => by
    have := A'.tap
    unfold TapOk at this
    have f' : (c.fr G H).F = some t := f
    rw [f'] at this
    exact this, A'.gt, A'.tb⟩
theorem As.count (A : As K c G σ E H) (h : c.F = none) (m : Nat) : As K c G σ (E.at m) H :=
  { ex := A.ex, g0 := A.g0, keep := A.keep, sep := A.sep, tB := A.tB, len := A.len, sl := A.sl, ne := A.ne, gt := A.gt, st := A.st, tb := A.tb,
    tap := by unfold TapOk; rw [h]; trivial }
theorem Fin.back {n' : Nat} (A : As K c G σ E H) (f : Fin c.F c.T c.ca G H n' G' H') : As K c G' σ (E.at n') H' ∧ Mw c G H G' H' := by
  by_cases q : c.F = none
  · obtain ⟨A2, m⟩ := f.as (m := E.n) A (.inr rfl) (.inr rfl) (by rw [if_pos q])
    exact ⟨A2.count q n', m⟩
  · exact f.as A (.inr rfl) (.inr rfl) (by rw [if_neg q])
theorem plain_sl {i : Nat} {s : Sl} (A : As K c G σ E H) (e : (plain E).sl[i]? = some s) : s = .no ∨ ∃ x u, s = .d x ∧ (σ[i]?).join = some u ∧ Rp K G u x := by
  unfold plain at e
  rw [List.getElem?_map] at e
  cases q : E.sl[i]? with
  | none => rw [q] at e; cases e
  | some t =>
    rw [q] at e
    cases e
    cases t with
    | d x => obtain ⟨u, h1, h2⟩ := A.sl i _ q; exact .inr ⟨x, u, rfl, h1, h2⟩
    | _ => exact .inl rfl
theorem expr_run {te : TE} {EX : XK} {xp : Addr → List (Str × D) → Nat → Prop} {Q : D → Env → Prop} (X : XOk K c fx) (A : As K c G σ E H) (hw : We K ⟨fx.F, EX, xp, fx.cells, fx.T⟩ te (plain E) Q)
    (kx : ∀ C fs fds d n' G' H', xp C fds n' → As K c G' σ (E.at n') H' → Mw c G H G' H' → H' d = some (.xd fs) → Rpf K G' fs fds → c.B d = none → EX (.ref C) (some d) H')
    {P : VK} (k : ∀ v d E' G' H', Q d E' → As K c G' σ (E.at E'.n) H' → Mw c G H G' H' → Rp K G' v d → P v H') : te σ H P := by
  have A0 : As K (c.fr G H) G σ (plain E) H := A.frame rfl (by rw [A.len]; simp [plain]) fun i s e => plain_sl A e
  refine hw (c.fr G H) G σ H ⟨X.1, fun C fs fds d G' σ' E' H' hx A' hd rf hb => ?_, X.2.2⟩ A0 P fun v d E' G' H' q A' _ r => ?_
  · obtain ⟨A2, m⟩ := (As.fin A').back A
    refine kx C fs fds d _ G' H' hx A2 m hd rf (B_freeN A (.inr rfl) fun o e kp => ?_)
    have hb' : ntb c.T H d = none := hb
    rw [ntb_of e kp] at hb'; cases hb'
  · obtain ⟨A2, m⟩ := (As.fin A').back A
    exact k v d E' G' H' q A2 m r
theorem stmt_run {tr : TS} {EX : XK} {σr : L2.St} {Er : Env} {R : D → Nat → Prop} (X : XOk K c fx) (A : As K c G σ E H) (hn : Er.n = E.n) (hl : σr.length = Er.sl.length)
    (hs : ∀ (i : Nat) (s : Sl), Er.sl[i]? = some s → s = .no ∨ ∃ x u, s = .d x ∧ (σr[i]?).join = some u ∧ Rp K G u x)
    (hw : Ws K ⟨fx.F, EX, fun _ _ _ => False, fx.cells, fx.T⟩ tr Er { nx := fun E2 => R .non E2.n, rt := fun d E2 => R d E2.n })
    {Q : VK} (k : ∀ v d n' G' H', R d n' → As K c G' σ (E.at n') H' → Mw c G H G' H' → Rp K G' v d → Q v H') : tr { nx := fun _ H' => Q .non H', rt := Q } σr H := by
  refine hw (c.fr G H) G σr H _ ⟨X.1, fun _ _ _ _ _ _ _ _ hx => hx.elim, X.2.2⟩ (A.frame hn hl hs) ⟨fun E' G' σ' H' q A' _ => ?_, fun v d E' G' σ' H' q A' r => ?_, fun _ _ _ _ _ _ _ q => q.elim, fun _ _ _ _ q => q.elim, fun _ _ _ _ q => q.elim⟩
  · obtain ⟨A2, m⟩ := (As.fin A').back A
    exact k _ _ _ G' H' q A2 m .non
  · obtain ⟨A2, m⟩ := (As.fin A').back A
    exact k _ _ _ G' H' q A2 m r
/-- what stands there is known from now on -/
theorem As.know (A : As K c G σ E H) {d : Addr} {o : HO} (hd : H d = some o) (hB : c.B d = none) (h1 : ∀ vs, o ≠ .lst vs) (h2 : ∀ C x vs, o ≠ .ins C x vs) (h3 : ∀ ps, o ≠ .tbl ps) : As K c (upd G d o) σ E H ∧ Mw c G H (upd G d o) H := by
  have x : Ex G (upd G d o) := fun a u e => by
    by_cases z : a = d
    · subst z
      have := A.ex a u e
      rw [hd] at this; cases this
      exact upd_same
    · rw [upd_ne z]; exact e
  refine ⟨⟨fun a u e => ?_, A.g0.trans x, A.keep, fun a b g => ?_, A.tB, A.len, fun i s e => ?_, A.ne, A.tap, A.gtU h3, A.st, A.tb⟩, ⟨x, fun _ _ h _ _ => h⟩⟩
  · by_cases z : a = d
    · subst z; rw [upd_same] at e; cases e; exact hd
    · rw [upd_ne z] at e; exact A.ex a u e
  · have z : a ≠ d := fun z => by subst z; exact b hB
    rw [upd_ne z]; exact A.sep a b g
  · have w := A.sl i s e
    cases s with
    | no => trivial
    | d y => obtain ⟨u, a1, a2⟩ := w; exact ⟨u, a1, a2.mono x⟩
    | own es =>
      obtain ⟨p', vs', a1, a2, a3, a4, a5⟩ := w
      have z : p' ≠ d := fun z => by subst z; rw [hd] at a4; cases a4; exact h1 _ rfl
      exact ⟨p', vs', a1, by rw [upd_ne z]; exact a2, a3, a4, a5.mono x⟩
    | slf p' C fs =>
      obtain ⟨dx, vs', a1, a2, a3, a4, a5⟩ := w
      have z : p' ≠ d := fun z => by subst z; rw [hd] at a4; cases a4; exact h2 _ _ _ rfl
      exact ⟨dx, vs', a1, by rw [upd_ne z]; exact a2, a3, a4, a5.mono x⟩
/-- only the tables of code objects have grown -/
theorem As.tables {H1 : Hp} (A : As K c G σ E H) (hT : c.T ≠ []) (e : LamX.ExtN H H1) (t : LamX.Tabs c.T H1) : As K c G σ E H1 :=
  { ex := fun a o z => e a o (A.ex a o z) fun ps y => by subst y; exact (A.st hT).1 a ps (A.gt a ps z)
    g0 := A.g0
    keep := fun a o b f k => e a o (A.keep a o b f k) (k hT)
    sep := A.sep
    tB := A.tB
    len := A.len
    sl := fun i s z => by
      have w := A.sl i s z
      cases s with
      | no => trivial
      | d x => exact w
      | own ds => obtain ⟨p, vs, h1, h2, h3, h4, h5⟩ := w; exact ⟨p, vs, h1, h2, h3, e _ _ h4 (fun _ y => by cases y), h5⟩
      | slf p C fs => obtain ⟨dx, vs, h1, h2, h3, h4, h5⟩ := w; exact ⟨dx, vs, h1, h2, h3, e _ _ h4 (fun _ y => by cases y), h5⟩
    ne := A.ne
    tap := by
      have w := A.tap
      unfold TapOk at w ⊢
      cases q : c.F with
      | none => trivial
      | some p =>
        rw [q] at w
        obtain ⟨a, b, h, r⟩ := w
        exact ⟨a, b, e _ _ h (fun _ y => by cases y), r⟩
    gt := A.gt
    st := A.st
    tb := t }
/-! ### the suite of an except clause, and what follows -/
def tSuite (i : Nat) (ts tr : TS) : TS := fun D σ H => ts { nx := fun σ' H' => tr D (σ'.set i none) H', rt := D.rt, bk := fun σ' H' => D.bk (σ'.set i none) H', ct := fun σ' H' => D.ct (σ'.set i none) H' } σ H
theorem ws_suite {i : Nat} {ts tr : TS} {P : Po} (h : Ws K fx ts E { nx := fun E' => Ws K fx tr (E'.set i .no) P, rt := P.rt, ro := P.ro }) : Ws K fx (tSuite i ts tr) E P := fun c G σ H Z X A k =>
  h c G σ H _ X A ⟨fun E' G' σ' H' q A' x => q c G' (σ'.set i none) H' Z X (A'.drop i none) (k.up x), k.rt, k.ro, fun _ _ _ _ q => q.elim, fun _ _ _ _ q => q.elim⟩
end
end Z
end
section
/-! what hears a lambda: caught = None; try: ask() except E as error: suite; rest -/
namespace Z
open PySem PySem.Spec L2 LamX
/-- what a def makes of the lambda that it calls -/
def TTkeep (K : PySem.W.Frag) (CS : Addr) (N : List Str) (ts tr : TS) : (XK → Hp → VK → Prop) → Hp → VK → Prop := fun tl H Q => ∀ f : Addr,
  tl (fun cls d H' => PySem.W.exmOne K cls (.ref CS) = some true ∧ ∀ (σ' : L2.St) p oe, σ'.length = N.length → H' p = none → Zc cls d oe → (∃ vs, oe.data = .fields vs) → tSuite 2 ts tr { nx := fun _ G => Q .non G, rt := Q } (σ'.set 2 (some (.ref p))) (upd H' p (kept p oe))) H
    fun _ H' => tr { nx := fun _ G => Q .non G, rt := Q } ((L2.start N [.ref f]).set 1 (some .non)) H'
section
variable {X : Cx} {a cv en e q x : Str} {N : List Str} {sg : Scope} {g CS : Addr} {cdg : Value} {b₀ : Stmt} {su rest : List Stmt} {ts tr : TS} {j : Nat} {p1 p2 p3 p4 p5 p6 p7 p11 p12 : Pos}
theorem heard_keep (nd : N.Nodup) (h0 : N[0]? = some a) (h1 : N[1]? = some cv) (h2 : N[2]? = some en) (lv : sg.names.lookup cv = some .local) (le : sg.names.lookup en = some .local) (hge : sg.names.lookup e = some .globalImplicit) (hme : X.mg e = some (.ref CS)) (hde : (e == ("__debug__" : Str)) = false)
    (hsu : ∀ s H p pn, PSs ((cxOf C8.CX0 X.prog X.w X.K X.mg X.base N x sg g cdg X.A X.stack s H C8.E0).nox.suite p pn) (b₀ :: su) ts)
    (hr : ∀ s H, PSs (cxOf C8.CX0 X.prog X.w X.K X.mg X.base N x sg g cdg X.A X.stack s H C8.E0).nox rest tr) :
    GivesTo X N x sg g cdg (.Assign [.Name cv p1] (.Constant .none j p2) p3 :: .Try [.Expr (.Call (.Name a p4) [] [] p5) p6] [.ExceptHandler (some (.Name e p7)) (some en) (b₀ :: su) p11] [] [] p12 :: rest) a q (TTkeep X.K CS N ts tr) := by
  intro f c' s H Q tl act hc h
  refine ⟨_, pss_cons (ps_set (i := 1) nd h1 (.inl lv) pe_non) (pss_cons (ps_try_keep (X := (cxOf C8.CX0 X.prog X.w X.K X.mg X.base N x sg g cdg X.A X.stack s H C8.E0).nox) (i := 2) (c := .ref CS) (ts := ts)
      (tb := fun W D σ G => ∃ Ech : XK, (∀ cls d σ' H', Ech cls d H' → W cls d σ' H') ∧ σ[0]? = some (some (.ref f)) ∧ G c' = some (CodeO c' q) ∧ tl Ech G fun _ G' => D.nx σ G')
      rfl rfl nd h2 le ⟨hge, hde, .inl hme⟩ takes0 (fun W pn xe tk _ => ?_) (hsu s H)) (hr s H)), ?_⟩
  · refine ⟨fun pins s' σ' H' D I h' => ?_⟩
    rcases h' with ⟨Ech, hW, h1, h2, h3⟩
    exact (pss_one (ps_expr (pos := p6) (act W pn xe Ech p4 p5 tk hW))).run pins s' σ' H' D I ⟨h1, h2, h3⟩
  · refine ⟨fun cls d H' => PySem.W.exmOne X.K cls (.ref CS) = some true ∧ ∀ (σ' : L2.St) p oe, σ'.length = N.length → H' p = none → Zc cls d oe → (∃ vs, oe.data = .fields vs) → tSuite 2 ts tr { nx := fun _ G => Q .non G, rt := Q } (σ'.set 2 (some (.ref p))) (upd H' p (kept p oe)), fun cls d σ' H' w => ⟨true, w.1, (fun q => Bool.noConfusion q), fun _ l p oe na z fs => w.2 σ' p oe l na z fs⟩, ?_, hc, ?_⟩
    · have l0 : 0 < N.length := (List.getElem?_eq_some_iff.mp h0).1
      show ((L2.start N [V.ref f]).set 1 (some .non))[0]? = _
      rw [List.getElem?_set_ne (by decide)]
      unfold L2.start
      rfl
    · exact h f
end
section
variable {K : PySem.W.Frag} {fx : Fx} {E : Env} {P : Po}
def heardN (N : List Str) (n : Nat) : Env := ⟨.no :: .d .non :: .no :: List.replicate (N.length - 3) .no, n⟩
def heardX (N : List Str) (C : Addr) (fs : List (Str × D)) (n : Nat) : Env := ⟨.no :: .no :: .d (.ex C fs) :: List.replicate (N.length - 3) .no, n⟩
theorem we_heard {te : XK → TE} {ts tr : TS} {CS : Addr} {N : List Str} {T : List (Addr × Str)} {xp : Addr → List (Str × D) → Nat → Prop} {Ql : D → Env → Prop} {Q : D → Env → Prop} (hN : 3 ≤ N.length) (hT : fx.T = T) (hTn : T ≠ [])
    (hb : ∀ EX, We K ⟨fx.F, EX, xp, fx.cells, fx.T⟩ (te EX) (plain E) Ql)
    (hn : ∀ d E', Ql d E' → Ws K ⟨fx.F, fun _ _ _ => False, fun _ _ _ => False, fx.cells, fx.T⟩ tr (heardN N E'.n) { nx := fun E2 => Q .non (E.at E2.n), rt := fun d E2 => Q d (E.at E2.n) })
    (hx : ∀ C fs n, xp C fs n → PySem.W.exmOne K (.ref C) (.ref CS) = some true ∧ Ws K ⟨fx.F, fun _ _ _ => False, fun _ _ _ => False, fx.cells, fx.T⟩ (tSuite 2 ts tr) (heardX N C fs n) { nx := fun E2 => Q .non (E.at E2.n), rt := fun d E2 => Q d (E.at E2.n) }) :
    We K fx (tLam T (TTkeep K CS N ts tr) te) E Q := fun c G σ H X A P k => by
  have cT : c.T = T := X.2.2.trans hT
  have cTn : c.T ≠ [] := by rw [cT]; exact hTn
  refine ⟨by rw [← cT]; exact A.tb, fun H1 e1 t1 => ?_⟩
  have A1 : As K c G σ E H1 := A.tables cTn e1 (by rw [cT]; exact t1)
  have m1 : Mw c G H G H1 := ⟨Ex.refl _, fun a o e _ kp => e1 a o e (kp cTn)⟩
  intro f
  refine expr_run X A1 (hb _) (fun C fs fds d n' G' H' hxp A2 m2 hd rf hB => ?_) fun v d E' G' H' q A2 m2 r => ?_
  · obtain ⟨hex, hs⟩ := hx C fds n' hxp
    refine ⟨hex, fun σ' p oe hl hp hz hu => ?_⟩
    obtain ⟨A3, m3⟩ := A2.know hd hB (fun _ e => by cases e) (fun _ _ _ e => by cases e) (fun _ e => by cases e)
    have mv := Mv.laid (c := c) (o := kept p oe) A3.ex hp
    have A4 := A3.move0 mv (fun a u e => by rw [upd_ne (ne_of_none e hp)]; exact e)
    have np : d ≠ p := fun z => by subst z; rw [hp] at hd; cases hd
    refine stmt_run X A4 (σr := σ'.set 2 (some (.ref p))) (Er := heardX N C fds n') rfl ?_ (fun i s e => ?_) hs fun v d n'' G'' H'' q A5 m5 r => k _ _ _ _ _ q A5 ((((m1.trans m2).trans m3).trans mv.mw).trans m5) r
    · rw [List.length_set, hl]
      show N.length = (Sl.no :: Sl.no :: Sl.d (.ex C fds) :: List.replicate (N.length - 3) Sl.no).length
      simp; omega
    · match i, e with
      | 0, e => left; simpa [heardX] using e.symm
      | 1, e => left; simpa [heardX] using e.symm
      | 2, e =>
        right
        refine ⟨.ex C fds, .ref p, by simpa [heardX] using e.symm, by rw [List.getElem?_set_self (by omega)]; rfl, .ex upd_same hz hu (vs := fs) ?_ (rf.mono ?_)⟩
        · rw [upd_ne np, upd_same]
        · exact m3.ex.trans mv.ex
      | i + 3, e =>
        left
        have h := List.mem_of_getElem? (show (List.replicate (N.length - 3) Sl.no)[i]? = some s from by simpa [heardX] using e)
        exact (List.mem_replicate.mp h).2
  · refine stmt_run X A2 (σr := (L2.start N [.ref f]).set 1 (some .non)) (Er := heardN N E'.n) rfl ?_ (fun i s e => ?_) (hn d E' q) fun v d n'' G'' H'' q A5 m5 r => k _ _ _ _ _ q A5 ((m1.trans m2).trans m5) r
    · rw [List.length_set]
      unfold L2.start
      show _ = (Sl.no :: Sl.d .non :: Sl.no :: List.replicate (N.length - 3) Sl.no).length
      simp; omega
    · match i, e with
      | 0, e => left; simpa [heardN] using e.symm
      | 1, e =>
        right
        refine ⟨.non, .non, by simpa [heardN] using e.symm, ?_, .non⟩
        rw [List.getElem?_set_self (by unfold L2.start; simp; omega)]; rfl
      | 2, e => left; simpa [heardN] using e.symm
      | i + 3, e =>
        left
        have h := List.mem_of_getElem? (show (List.replicate (N.length - 3) Sl.no)[i]? = some s from by simpa [heardN] using e)
        exact (List.mem_replicate.mp h).2
end
end Z
end
section
/-! a def whose code's table grows; x(lambda: ..) by a FunD; the head's facts with tables -/
namespace Z
open PySem PySem.Spec L2 LamX
section
variable {P : Program} {w : World} {K : PySem.W.Frag} {mg : Str → Option Value} {base : Heap} {x qual : Str} {params : Arguments} {body : List Stmt} {scope : Scope} {dvs : List V} {kws : List (Str × V)} {p : Str × Option Str} {fd : FuncData}
/-- FunD.ok, with the code object -/
theorem FunD_okC {CX : CXT} {N ps : List Str} {k : Nat} {sp : Sp} (F : FunD K x qual params body scope dvs kws (He.fAd K p) fd) (S : FnScope N ps scope) (len : ∀ vs H Q E, sp vs H Q E → vs.length = ps.length)
    (hbody : ∀ (cdv : Value) (hcv : cdv = .ref (He.codeOf K p)) (A : Around) (outer : List PySem.Env) (s : Shared) (H : Hp) (vs : List V) (Q : VK) (E : XK), Room k (A.deeper (PyProof.Rows.envOfC qual scope s.heap.objs.size (He.fAd K p) cdv)) → sp vs H Q E →
      ∃ t, PSs (cxOf CX P w K mg base N qual scope (He.fAd K p) cdv A outer s H E) body t ∧ t { nx := fun _ H' => Q .non H', rt := Q } (L2.start N vs) H) : FnOk P w K mg base CX (k + 1) (He.fAd K p) fd ps sp := by
  obtain ⟨oc, od, dV, kV, doc, pm, an, cdv, ct, osl, rfl, lk, hcd, _, _⟩ := F.ex
  obtain ⟨c, hc⟩ := He.codeIn_ref hcd
  exact fn_of lk hcd S len fun A outer s H vs Q E hr hsp => hbody cdv (by rw [He.codeOf_eq lk (show (PySem.W.fnOf x qual params body scope dV kV doc pm an cdv ct).code = .ref c from hc)]; exact hc) A outer s H vs Q E hr hsp
end
section
variable {X : Cx}
/-- x(lambda: body) -/
theorem pe_heardcall {T : List (Addr × Str)} {TT : (XK → Hp → VK → Prop) → Hp → VK → Prop} {x a : Str} {g c P : Addr} {k : Nat} {pg : Arguments} {bg : List Stmt} {sg : Scope} {kws : List (Str × V)} {fd : FuncData} {Ng : List Str}
    {params : Arguments} {body : Expr} {scope : Scope} {t : XK → TE} {p lpos pos : Pos} (F : FunD X.K x x pg bg sg [] kws g fd) (hg : Gl X x) (hm : X.mg x = some (.ref g)) (hb : L2.Binds X.K fd [a] []) (Sg : FnScope Ng [a] sg) (hNg : Ng[0]? = some a) (hva : Vis sg a)
    (hG : ∀ cdv, GivesTo X Ng x sg g cdv bg a (X.env.qual ++ "<lambda>") TT)
    (TB : TabB X.base X.mg c P) (hcode : X.env.code = .ref c) (hmT : (P, X.env.qual ++ "<lambda>") ∈ T) (hu : ∀ p ∈ T, p.1 = P → p.2 = X.env.qual ++ "<lambda>") (hr : Room (k + 2) X.A) (L : LamS X.env.scope scope) (hdef : PySem.defaultsOf params X.env = ([], []))
    (hbind : ∀ (q : Str) (cl : List (Str × Addr)) (pm cv ctv : Value), bindArgs (PySem.W.kla_fn "<lambda>" q params body scope cl pm cv ctv) ⟨[], []⟩ = pure [])
    (hbody : ∀ (A : Around) (outer : List PySem.Env) (s : Shared) (H : Hp) (E : XK) (f c' : Addr), Room k (A.deeper (lamEnv X scope s.heap.objs.size f c')) → PE (lamCx X A outer s H E scope f c') body (t E))
    (hdb : (x == ("__debug__" : Str)) = false := by decide) (hd : (a == ("__debug__" : Str)) = false := by decide) (hcd : (a == ("__classdict__" : Str)) = false := by decide) :
    PE X (.Call (.Name x p) [.Lambda params body scope lpos] [] pos) (tLam T TT t) := by
  have kp := F.kp
  obtain ⟨oc, od, dV, kV, doc, pm, an, cdv, ct, osl, rfl, lk, hc, _, _⟩ := F.ex
  exact pe_lamcall hg hm kp lk hc hb Sg hNg hva (hG cdv) TB hcode hmT hu hr L hdef hbind hbody hdb hd hcd
theorem passL {A : Around} {outer : List PySem.Env} {s : Shared} {H : Hp} {E : XK} {scope : Scope} {f c' : Addr} : Passes (L2.CX X.prog X.w) (lamCx X A outer s H E scope f c') E := passes_call (takes_of rfl rfl rfl rfl) fun _ _ _ _ h => h
end
/-! ### the law's promise, where tables may grow -/
def spT (K : PySem.W.Frag) (T : List (Addr × Str)) : Sp := fun vs H Q _ => ∃ (a : Addr) (ns : List Int), vs = [.ref a] ∧ SqL K H a (ns.map V.int) ∧ ns.length ≤ 63 ∧ (∀ p ∈ T, H p.1 = some (.tbl #[])) ∧ ∀ H', Q (.bl true) H'
theorem spT_len {K : PySem.W.Frag} {T : List (Addr × Str)} : ∀ vs H Q EX, spT K T vs H Q EX → vs.length = 1 := fun vs H Q EX ⟨a, ns, e, _⟩ => by rw [e]; rfl
theorem bodyT {K : PySem.W.Frag} {T : List (Addr × Str)} {N : List Str} {vs : List V} {H : Hp} {Q : VK} {EX : XK} {t : TS} (h : spT K T vs H Q EX) (b : ∀ ns : List Int, ns.length ≤ 63 → Ws K ⟨none, EX, fun _ _ _ => False, [], T⟩ t (env0 N [.scr ns] 0) { nx := fun _ => False, rt := fun d _ => d = .bl true }) :
    t { nx := fun _ H' => Q .non H', rt := Q } (L2.start N vs) H := by
  obtain ⟨a, ns, e, hs, hl, hT, hQ⟩ := h
  subst e
  have hs' : SqL K (ntb T H) a (ns.map V.int) := by
    rcases hs with (h | ⟨o, h⟩) | h
    · exact .inl (.inl (ntb_of h kp_lst))
    · exact .inl (.inr ⟨o, ntb_of h fun _ _ e => by cases e⟩)
    · exact .inr h
  have A := as_start (K := K) (F := none) (ca := 0) (cells := []) (N := N) (n := 0) (G := ntb T H) (H := H) ntb_ex (.cons (.scr hs') .nil) (fun t f => by cases f) (B := fun _ => none) (fun a o z => by cases z) (fun t f => by cases f) (T := T) (fun h => ⟨ntb_no h, fun _ _ e => by cases e⟩) (fun p hp => TabS.nil (hT p hp))
  refine b ns hl _ _ _ H _ ⟨⟨rfl, rfl⟩, fun _ _ _ _ _ _ _ _ q => q.elim, rfl⟩ A ⟨fun _ _ _ _ q => q.elim, fun v d E' G' σ' H' q A' r => ?_, fun _ _ _ _ _ _ _ q => q.elim, fun _ _ _ _ q => q.elim, fun _ _ _ _ q => q.elim⟩
  subst q
  cases r
  exact hQ H'
/-! ### the head's facts with static methods and tables -/
def asW (g : Addr → Option Obj) (n : Nat) : List Addr := He5.asA g n
def obsW (n : Nat) (fa : List He.Fa) (fn : List He.DefD) (fs : List He5.DefA) (tf : List He.Defn) (ex : PySem.W.Frag → Bool) (g : Addr → Option Obj) : AlY :=
  ((He.obsD fa fn (He.frT g (asW g n)), He5.obsA [] fs (He.frT g (asW g n))), ex (He.frT g (asW g n)) && He.tabsB g tf (He.frT g (asW g n)))
structure SaysW (fa : List He.Fa) (fn : List He.DefD) (fs : List He5.DefA) (tf : List He.Defn) (ex : PySem.W.Frag → Bool) (h : Heap) (K : PySem.W.Frag) : Prop where
  d : He.SaysD fa fn K
  s : He5.SaysA [] fs K
  more : ex K = true
  hd : ∀ p ∈ tf, PySem.W.codeHdIn K (He.cT K p).1 (He.cT K p).2 = true
  out : ∀ p ∈ tf, K.lookup (He.cT K p).2 = none
  empty : ∀ p ∈ tf, h.get? (He.cT K p).2 = some { cls := .none, data := .fields #[] }
theorem saysW_of {n : Nat} {fa : List He.Fa} {fn : List He.DefD} {fs : List He5.DefA} {tf : List He.Defn} {ex : PySem.W.Frag → Bool} {h : Heap} (e : obsW n fa fn fs tf ex h.get? = ((He.valD fn, He5.valA fs), true)) : SaysW fa fn fs tf ex h (He.frT h.get? (asW h.get? n)) := by
  have e1 := congrArg (fun z : AlY => z.1.1) e
  have e3 := congrArg (fun z : AlY => z.1.2) e
  have e2 : (ex (He.frT h.get? (asW h.get? n)) && He.tabsB h.get? tf (He.frT h.get? (asW h.get? n))) = true := congrArg (fun z : AlY => z.2) e
  obtain ⟨h1, h2⟩ := ba e2
  have key : ∀ p ∈ tf, PySem.W.codeHdIn (He.frT h.get? (asW h.get? n)) (He.cT (He.frT h.get? (asW h.get? n)) p).1 (He.cT (He.frT h.get? (asW h.get? n)) p).2 = true ∧ ∃ o, h.get? (He.cT (He.frT h.get? (asW h.get? n)) p).2 = some o ∧ He.emptyTab o = true := fun p hp => by
    obtain ⟨h3, h4⟩ := ba (List.all_eq_true.mp h2 p hp)
    refine ⟨h3, ?_⟩
    cases q : h.get? (He.cT (He.frT h.get? (asW h.get? n)) p).2 with
    | none =>
      rw [q] at h4
      cases h4
    | some o =>
      rw [q] at h4
      exact ⟨o, rfl, h4⟩
  exact ⟨e1, e3, h1, fun p hp => (key p hp).1, fun p hp => by
    obtain ⟨_, o, q, z⟩ := key p hp
    exact He.frT_none q z, fun p hp => by
    obtain ⟨_, o, q, z⟩ := key p hp
    rw [q, He.emptyTab_eq z]⟩
def hookW (n : Nat) (fa : List He.Fa) (fn : List He.DefD) (fs : List He5.DefA) (tf : List He.Defn) (ex : PySem.W.Frag → Bool) : PySem.W.Hook where
  α := AlY
  obs := fun s => obsW n fa fn fs tf ex s.heap.get?
  val := fun _ => ((He.valD fn, He5.valA fs), true)
  says := fun _ h => ∃ K : PySem.W.Frag, K.In h ∧ SaysW fa fn fs tf ex h K
  of := fun _ _ e => ⟨_, He.frT_in, saysW_of e⟩
  keeps := fun _ _ _ ⟨K, hK, c⟩ k => ⟨K, PySem.W.Frag.In.keeps hK k, ⟨c.d, c.s, c.more, c.hd, c.out, fun p hp => k _ _ (c.empty p hp)⟩⟩
theorem obsW_eq {n : Nat} {fa : List He.Fa} {fn : List He.DefD} {fs : List He5.DefA} {tf : List He.Defn} {ex : PySem.W.Frag → Bool} {g : Addr → Option Obj} {s : Shared} (h : ∀ a, g a = s.heap.get? a) : obsW n fa fn fs tf ex g = (hookW n fa fn fs tf ex).obs s := by
  have e : g = s.heap.get? := funext h
  rw [e] <;> rfl
/-- what walk_ofTsE asks -/
theorem lawAt {l : PySem.W.OpenLaw} {w : World} {K : PySem.W.Frag} {CX : CXT} {k : Nat} {x : Str} {mg : Str → Option Value} {h : Heap} {fa : List He.Fa} {fn : List He.DefD} {fs : List He5.DefA} {tf : List He.Defn} {ex : PySem.W.Frag → Bool} {p : Str × Option Str} {fd : FuncData} {T : List (Addr × Str)}
    (KX : K.In h) (c : SaysW fa fn fs tf ex h K) (hT : T.map (·.1) = tf.map fun p => (He.cT K p).2) (hb : ∀ (s : Shared) (u : Value), BindsTo s fd ⟨[u], []⟩ [(x, u)])
    (hF : ∀ base : Heap, (∀ p ∈ tf, TabB base mg (He.cT K p).1 (He.cT K p).2) → FnOk l.prog w K mg base CX k (He.fAd K p) fd [x] (spT K T)) : LawAtS l w K CX k 63 x mg (He.fAd K p) h := by
  refine ⟨fd, tf.map fun p => He.cT K p, spT K T, fun q hq => ?_, fun q hq => ?_, fun q hq => ?_, hb, fun H a ns hl _ hH hS => ?_, fun base _ _ TB => hF base fun p hp => TB _ (List.mem_map.mpr ⟨p, hp, rfl⟩)⟩
  · obtain ⟨p, hp, rfl⟩ := List.mem_map.mp hq; exact c.empty p hp
  · obtain ⟨p, hp, rfl⟩ := List.mem_map.mp hq; exact c.out p hp
  · obtain ⟨p, hp, rfl⟩ := List.mem_map.mp hq; exact PySem.W.codeHd_of_K KX (c.hd p hp)
  · refine ⟨a, ns, rfl, hS, hl, fun q hq => ?_, fun _ => rfl⟩
    have : q.1 ∈ tf.map fun p => (He.cT K p).2 := by rw [← hT]; exact List.mem_map.mpr ⟨q, hq, rfl⟩
    obtain ⟨p, hp, e⟩ := List.mem_map.mp this
    rw [← e]
    exact hH _ (List.mem_map.mpr ⟨p, hp, rfl⟩)
end Z
end
section
/-! promises of defs that may raise, and of defs that hand lambdas on -/
namespace Z
open PySem L2
/-- what comes back: a datum, or an error's class and fields -/
abbrev Res := D ⊕ (Addr × List (Str × D))
section
variable {α : Type} {K : PySem.W.Frag} {fx : Fx} {E : Env} {EX : XK} {Q : D → Env → Prop} {O : List D → Env → Prop} {ds : List D}
def pmE (args : α → List D) (p : α → Prop) (r : α → Res) : Pm α := { args := args, pre := fun a F _ => F = none ∧ p a, post := fun a _ d _ => r a = .inl d, exc := fun a _ C f _ => r a = .inr (C, f) }
theorem called_E {args : α → List D} {p : α → Prop} {r : α → Res} (a : α) (e : ds = args a) (h : ∀ d, r a = .inl d → Q d E) (hx : ∀ C f, r a = .inr (C, f) → EX = fx.EX ∧ fx.xp C f E.n) (hp : p a) : Called (pmE args p r) fx EX ds E Q fun _ _ => False :=
  ⟨a, none, e, .inl rfl, .inl rfl, ⟨rfl, hp⟩, fun d n' hd => by
    rw [if_pos rfl]
    exact h d hd, fun _ _ q => q.elim, fun C f n' q => by
    rw [if_pos rfl]
    exact hx C f q⟩
/-- it is known not to raise -/
theorem called_Ed {args : α → List D} {p : α → Prop} {r : α → Res} (a : α) {d : D} (e : ds = args a) (hr : r a = .inl d) (h : Q d E) (hp : p a) : Called (pmE args p r) fx EX ds E Q fun _ _ => False :=
  called_E a e (fun d' q => by rw [hr] at q; cases q; exact h) (fun C f q => by rw [hr] at q; cases q) hp
/-- it is known to raise -/
theorem called_Ex {args : α → List D} {p : α → Prop} {r : α → Res} (a : α) {C : Addr} {f : List (Str × D)} (e : ds = args a) (hr : r a = .inr (C, f)) (hE : EX = fx.EX) (h : fx.xp C f E.n) (hp : p a) : Called (pmE args p r) fx EX ds E Q fun _ _ => False :=
  called_E a e (fun d' q => by rw [hr] at q; cases q) (fun C' f' q => by rw [hr] at q; cases q; exact ⟨hE, h⟩) hp
/-- an instance, or an error -/
def piE (C : Addr) (args : α → List D) (p : α → Prop) (r : α → List (Str × D) ⊕ (Addr × List (Str × D))) : Pi α := { args := args, pre := fun a C' => C' = C ∧ p a, post := fun a _ fs => r a = .inl fs, exc := fun a _ C' f => r a = .inr (C', f) }
theorem making_E {args : α → List D} {p : α → Prop} {r : α → List (Str × D) ⊕ (Addr × List (Str × D))} {C : Addr} {Q' : List (Str × D) → Prop} {X' : Addr → List (Str × D) → Prop} (a : α) (e : ds = args a) (h : ∀ fs, r a = .inl fs → Q' fs) (hx : ∀ C' f, r a = .inr (C', f) → X' C' f) (hp : p a) :
    ∃ a, ds = (piE C args p r).args a ∧ (piE C args p r).pre a C ∧ (∀ fs, (piE C args p r).post a C fs → Q' fs) ∧ ∀ C' f, (piE C args p r).exc a C C' f → X' C' f :=
  ⟨a, e, ⟨rfl, hp⟩, h, hx⟩
theorem making_Ed {args : α → List D} {p : α → Prop} {r : α → List (Str × D) ⊕ (Addr × List (Str × D))} {C : Addr} {Q' : List (Str × D) → Prop} {X' : Addr → List (Str × D) → Prop} (a : α) {fs : List (Str × D)} (e : ds = args a) (hr : r a = .inl fs) (h : Q' fs) (hp : p a) :
    ∃ a, ds = (piE C args p r).args a ∧ (piE C args p r).pre a C ∧ (∀ fs, (piE C args p r).post a C fs → Q' fs) ∧ ∀ C' f, (piE C args p r).exc a C C' f → X' C' f :=
  making_E a e (fun fs' q => by rw [hr] at q; cases q; exact h) (fun C' f q => by rw [hr] at q; cases q) hp
theorem making_Ex {args : α → List D} {p : α → Prop} {r : α → List (Str × D) ⊕ (Addr × List (Str × D))} {C C1 : Addr} {f1 : List (Str × D)} {Q' : List (Str × D) → Prop} {X' : Addr → List (Str × D) → Prop} (a : α) (e : ds = args a) (hr : r a = .inr (C1, f1)) (h : X' C1 f1) (hp : p a) :
    ∃ a, ds = (piE C args p r).args a ∧ (piE C args p r).pre a C ∧ (∀ fs, (piE C args p r).post a C fs → Q' fs) ∧ ∀ C' f, (piE C args p r).exc a C C' f → X' C' f :=
  making_E a e (fun fs' q => by rw [hr] at q; cases q) (fun C' f q => by rw [hr] at q; cases q; exact h) hp
/-! ### defs that hand lambdas on: T, the tables that may grow -/
def pmXT (T : List (Addr × Str)) (args : α → List D) (p : α → Prop) (r : α → D) : Pm α := { pmX args p r with T := T }
theorem called_XT {T : List (Addr × Str)} {args : α → List D} {p : α → Prop} {r : α → D} (a : α) (hT : fx.T = T) (e : ds = args a) (h : Q (r a) E) (hp : p a) : Called (pmXT T args p r) fx EX ds E Q fun _ _ => False :=
  ⟨a, none, e, .inl rfl, .inr hT.symm, ⟨rfl, hp⟩, fun d n' hd => by
    have hd' : d = r a := hd
    subst hd'
    rw [if_pos rfl]
    exact h, fun _ _ q => q.elim, fun _ _ _ q => q.elim⟩
def pmTT (T : List (Addr × Str)) (m : Nat) (args : α → Addr → List D) (p : α → Prop) (post : α → D → Prop) : Pm (α × Addr) := { pmT m args p post with T := T }
theorem called_TT {T : List (Addr × Str)} {m : Nat} {args : α → Addr → List D} {p : α → Prop} {post : α → D → Prop} {t : Addr} (a : α) (hT : fx.T = T) (hF : fx.F = some t) (e : ds = args a t) (h : ∀ d, post a d → Q d (E.up m)) (hp : p a) (hn : E.n + m ≤ 1000000) : Called (pmTT T m args p post) fx EX ds E Q fun _ _ => False :=
  ⟨(a, t), some t, e, .inr hF.symm, .inr hT.symm, ⟨rfl, hn, hp⟩, fun d n' hd => by
    rw [if_neg (by simp), hd.1]
    exact h d hd.2, fun _ _ q => q.elim, fun _ _ _ q => q.elim⟩
/-! ### a kept error's field, read at a slot -/
theorem we_fldEV {i : Nat} {C fI : Addr} {fs0 : List Str} {fs : List (Str × D)} {f : Str} {d : D} (e : E.sl[i]? = some (.d (.ex C fs))) (hx : Exq K C fI fs0) (hf : f ∈ fs0) (hl : fs.lookup f = some d) (h : Q d E) : We K fx (tFldU K (tVar i) f) E Q :=
  we_fldE (we_var e ⟨C, fs, d, rfl, ExcC.xf hx.e, hx.f f hf, hl, h⟩)
end
end Z
namespace Z
open PySem L2
theorem lu_ok {l : List (Addr × Str)} {P : Addr} {q : Str} (h : (l.all fun p => decide (p.1 ≠ P) || decide (p.2 = q)) = true) : ∀ p ∈ l, p.1 = P → p.2 = q := fun p hp e => by
  have := List.all_eq_true.mp h p hp
  simp only [Bool.or_eq_true, decide_eq_true_eq] at this
  rcases this with h | h
  · exact absurd e h
  · exact h
end Z
end
section
/-! more comprehensions -/
namespace Z
open PySem L2
section
variable {K : PySem.W.Frag} {fx : Fx} {E : Env} {te ta tb : TE} {tt : TT} {t : TS} {P : Po} {Q : D → Env → Prop} {O : List D → Env → Prop}
/-- [x for x in .. if draws]: none is so; each draws m times at most -/
theorem wo_none {wi : TI} {j m : Nat} (h : Wi K fx wi E fun its E1 => its.length ≤ 100000 ∧ (∀ s, E1.sl[j]? = some s → ¬ isOwn s) ∧
    (∀ i d n, its[i]? = some d → n ≤ E1.n + m * i → Wt K fx tt ⟨(E1.sl.set j .no).set j (.d d), n⟩ fun b E4 => b = false ∧ E4.n ≤ n + m ∧ E4.sl.set j .no = E1.sl.set j .no) ∧ ∀ n, n ≤ E1.n + m * its.length → O [] (E1.at n)) : Wo K fx (tLc wi (gName j) tt te [j]) E O := by
  refine wo_lc (js := [j]) fun c G σ H X A R k => h c G σ H X A R fun J its E' G' H' q => k J its E' G' H' ?_
  obtain ⟨hl, hn, hs, hO⟩ := q
  refine ⟨fun i hi => hi, hl, fun i hi s hz => ?_, fun i acc n => acc = [] ∧ n ≤ E'.n + m * i, ⟨rfl, by simp⟩, ?_, ?_⟩
  · have : i = j := by simpa using hi
    subst this
    exact hn s hz
  · rintro i d acc n hd ha ⟨rfl, h3⟩
    refine wg_name ?_
    intro c G σ H X A P k
    refine hs i d n hd h3 c G σ H X A P fun b E4 G4 H4 ⟨q1, q2, q3⟩ A4 m4 => k b E4 G4 H4 ⟨fun hb => ?_, fun hb => ?_⟩ A4 m4
    · rw [q1] at hb; cases hb
    · exact ⟨q3, rfl, by rw [Nat.mul_succ]; omega⟩
  · rintro acc n _ ⟨rfl, h3⟩
    exact hO n h3
end
end Z
namespace Z
open PySem L2
section
variable {K : PySem.W.Frag} {fx : Fx} {E : Env} {te ta tb : TE} {Q : D → Env → Prop}
/-- {} -/
theorem we_dnew (h : Q (.dk []) E) : We K fx tDNewK E Q := fun c G σ H X A P k => by
  intro p hp
  have m := Mv.laid (c := c) (o := HO.dK []) A.ex hp
  exact k (.ref p) _ _ _ _ h (A.move0 m (fun a u e => by rw [upd_ne (ne_of_none e hp)]; exact e)) m.mw (.dk upd_same .nil)
theorem zs_taken (k : Nat) (ns : List Int) : cutD (zs ns) none (some (k : Int)) = zs (ns.take k) := by
  rw [zs_cut]
  have e0 : HT.sIx ns.length 0 none = 0 := rfl
  have e1 : HT.sIx ns.length ns.length (some (k : Int)) = min k ns.length := by
    unfold HT.sIx
    simp only
    rw [if_neg (by omega)]
    rw [Int.toNat_natCast]
  rw [e0, List.drop_zero, e1, Nat.sub_zero]
  congr 1
  rcases Nat.le_total k ns.length with h | h
  · rw [Nat.min_eq_left h]
  · rw [Nat.min_eq_right h, List.take_of_length_le (Nat.le_refl _), List.take_of_length_le h]
end
end Z
namespace Z
open PySem L2
theorem zs_take55 (ns : List Int) (_ : ns.length ≤ 63) : cutD (zs ns) none (some 55) = zs (ns.take 55) := zs_taken 55 ns
theorem zs_take56 (ns : List Int) (_ : ns.length ≤ 63) : cutD (zs ns) none (some 56) = zs (ns.take 56) := zs_taken 56 ns
theorem zs_take57 (ns : List Int) (_ : ns.length ≤ 63) : cutD (zs ns) none (some 57) = zs (ns.take 57) := zs_taken 57 ns
theorem zs_take58 (ns : List Int) (_ : ns.length ≤ 63) : cutD (zs ns) none (some 58) = zs (ns.take 58) := zs_taken 58 ns
theorem zs_take59 (ns : List Int) (_ : ns.length ≤ 63) : cutD (zs ns) none (some 59) = zs (ns.take 59) := zs_taken 59 ns
theorem zs_take61 (ns : List Int) (_ : ns.length ≤ 63) : cutD (zs ns) none (some 61) = zs (ns.take 61) := zs_taken 61 ns
theorem zs_take62 (ns : List Int) (_ : ns.length ≤ 63) : cutD (zs ns) none (some 62) = zs (ns.take 62) := zs_taken 62 ns
theorem zs_take63 (ns : List Int) (_ : ns.length ≤ 63) : cutD (zs ns) none (some 63) = zs (ns.take 63) := zs_taken 63 ns
end Z
namespace Z
open PySem L2
theorem enumZS_get {ns : List Int} {i : Nat} {d : D} (h : (enumD (zs ns))[i]? = some d) : ∃ w, ns[i]? = some w ∧ d = .tup [.int i, .int w] := by
  have hl : i < ns.length := by
    have := (List.getElem?_eq_some_iff.mp h).1
    rw [enumD_length, zs_length] at this
    exact this
  have e : (zs ns)[i]? = some (.int ns[i]) := by
    unfold zs
    rw [List.getElem?_map, List.getElem?_eq_getElem hl]
    rfl
  rw [enumD_get e] at h
  exact ⟨ns[i], List.getElem?_eq_getElem hl, (Option.some.inj h).symm⟩
end Z
namespace Z
open PySem L2
theorem of_zsB {p : Int → Prop} : ∀ {ds : List D}, (∀ y ∈ ds, ∃ i : Int, y = .int i ∧ p i) → ∃ ns : List Int, ds = zs ns ∧ ∀ x ∈ ns, p x
  | [], _ => ⟨[], rfl, fun _ h => by cases h⟩
  | d :: ds, h => by
    obtain ⟨i, rfl, hi⟩ := h d List.mem_cons_self
    obtain ⟨ns, rfl, hn⟩ := of_zsB fun y hy => h y (List.mem_cons_of_mem _ hy)
    exact ⟨i :: ns, rfl, fun x hx => by
      rcases List.mem_cons.mp hx with rfl | hx
      · exact hi
      · exact hn x hx⟩
end Z
namespace Z
theorem emod_le_self {i a : Int} (h : 0 ≤ i) (ha : 0 < a) : i % a ≤ i := by
  have h1 := Int.mul_ediv_add_emod i a
  have h2 : 0 ≤ a * (i / a) := Int.mul_nonneg (by omega) (Int.ediv_nonneg h (by omega))
  omega
end Z
namespace Z
open PySem L2 LamX
section
variable {K : PySem.W.Frag} {fx : Fx} {E : Env} {Q : D → Env → Prop}
/-- the lambda raises just this -/
theorem we_heardX {te : XK → TE} {ts tr : TS} {CS : Addr} {N : List Str} {T : List (Addr × Str)} {C : Addr} {f : List (Str × D)} (hN : 3 ≤ N.length) (hT : fx.T = T) (hTn : T ≠ [])
    (hb : ∀ EX, We K ⟨fx.F, EX, fun C' f' m => C' = C ∧ f' = f ∧ m = E.n, fx.cells, fx.T⟩ (te EX) (plain E) fun _ _ => False)
    (he : PySem.W.exmOne K (.ref C) (.ref CS) = some true)
    (hx : Ws K ⟨fx.F, fun _ _ _ => False, fun _ _ _ => False, fx.cells, fx.T⟩ (tSuite 2 ts tr) (heardX N C f E.n) { nx := fun E2 => Q .non (E.at E2.n), rt := fun d E2 => Q d (E.at E2.n) }) :
    We K fx (tLam T (TTkeep K CS N ts tr) te) E Q := we_heard hN hT hTn hb (fun _ _ h => h.elim) fun C' f' m h => by
  obtain ⟨rfl, rfl, rfl⟩ := h
  exact ⟨he, hx⟩
/-- the lambda raises nothing -/
theorem we_heardD {te : XK → TE} {ts tr : TS} {CS : Addr} {N : List Str} {T : List (Addr × Str)} (hN : 3 ≤ N.length) (hT : fx.T = T) (hTn : T ≠ [])
    (hb : ∀ EX, We K ⟨fx.F, EX, fun _ _ _ => False, fx.cells, fx.T⟩ (te EX) (plain E) fun _ E' => E'.n = E.n)
    (hn : Ws K ⟨fx.F, fun _ _ _ => False, fun _ _ _ => False, fx.cells, fx.T⟩ tr (heardN N E.n) { nx := fun E2 => Q .non (E.at E2.n), rt := fun d E2 => Q d (E.at E2.n) }) :
    We K fx (tLam T (TTkeep K CS N ts tr) te) E Q := we_heard hN hT hTn hb (fun d E' h => by rw [h]; exact hn) fun C' f' m h => h.elim
end
end Z
end
section
namespace Z
open PySem L2
section
variable {K : PySem.W.Frag} {fx : Fx} {E : Env} {Q : D → Env → Prop}
theorem rop_mulB {i j : Int} (hi : -(2 ^ 300) < i ∧ i < 2 ^ 300) (hj : -(2 ^ 300) < j ∧ j < 2 ^ 300) (h : Q (.int (i * j)) E) : Rop K fx (rMulU K) (.int i) (.int j) E Q :=
  rop_mul (.inr (wide_mul (a := 300) (b := 300) (by omega) (by omega) (by decide) (by decide) (by decide))) h
end
end Z
end
section
/-! f-strings. -/
namespace Z
open PySem L2
section
variable {K : PySem.W.Frag} {fx : Fx} {E : Env} {Q : D → Env → Prop} {te : TE}
/-- the texts one behind the other, after what is there -/
def tJ (ts : List TE) (acc : Str) : TE := fun σ H Q => tJs ts acc σ H fun out H1 => Q (.str out) H1
theorem pe_j {X : Cx} {v1 v2 : Expr} {rest : List Expr} {ts : List TE} {pos : Pos} (h : PJ X (v1 :: v2 :: rest) ts) : PE X (.JoinedStr (v1 :: v2 :: rest) pos) (tJ ts Str.empty) := pe_joined h
theorem we_j0 {acc : Str} (h : Q (.str acc) E) : We K fx (tJ [] acc) E Q := fun c G σ H X A P k => we_str (x := acc) h c G σ H X A P k
theorem we_j {t : TE} {ts : List TE} {acc : Str} (h : We K fx t E fun x E1 => ∃ y : Str, x = .str y ∧ (acc ++ y).length ≤ sizeLine ∧ We K fx (tJ ts (acc ++ y)) E1 Q) : We K fx (tJ (t :: ts) acc) E Q := fun c G σ H X A P k => by
  refine h c G σ H X A _ fun v x E1 G1 H1 q A1 m1 r1 => ?_
  obtain ⟨y, rfl, hl, q⟩ := q
  cases r1
  exact ⟨y, rfl, hl, q c G1 σ H1 X A1 P fun z d E3 G3 H3 q3 A3 m3 r3 => k z d E3 G3 H3 q3 A3 (m1.trans m3) r3⟩
theorem we_fmtS (h : We K fx te E fun x E1 => ∃ y : Str, x = .str y ∧ y.length ≤ sizeLine ∧ Q (.str y) E1) : We K fx (tFmt te) E Q := fun c G σ H X A P k => by
  refine h c G σ H X A _ fun v x E1 G1 H1 q A1 m1 r1 => ?_
  obtain ⟨y, rfl, hl, q⟩ := q
  cases r1
  exact .inl ⟨y, rfl, hl, k _ _ _ _ _ q A1 m1 (.str _)⟩
theorem we_fmtI (h : We K fx te E fun x E1 => ∃ i : Int, x = .int i ∧ i.natAbs.log2 < 1920 ∧ Q (.str (toString i)) E1) : We K fx (tFmt te) E Q := fun c G σ H X A P k => by
  refine h c G σ H X A _ fun v x E1 G1 H1 q A1 m1 r1 => ?_
  obtain ⟨i, rfl, hl, q⟩ := q
  cases r1
  exact .inr ⟨i, rfl, hl, k _ _ _ _ _ q A1 m1 (.str _)⟩
/-- what {x} gives of a text or an int -/
def fmtD : D → (Str → Prop) → Prop
  | .str y, k => y.length ≤ sizeLine ∧ k y
  | .int i, k => i.natAbs.log2 < 1920 ∧ k (toString i)
  | _, _ => False
theorem we_fmt (h : We K fx te E fun x E1 => fmtD x fun y => Q (.str y) E1) : We K fx (tFmt te) E Q := fun c G σ H X A P k => by
  refine h c G σ H X A _ fun v x E1 G1 H1 q A1 m1 r1 => ?_
  cases r1 <;> first | exact q.elim | skip
  · exact .inr ⟨_, rfl, q.1, k _ _ _ _ _ q.2 A1 m1 (.str _)⟩
  · exact .inl ⟨_, rfl, q.1, k _ _ _ _ _ q.2 A1 m1 (.str _)⟩
end
theorem len_app (a b : Str) : (a ++ b).length = a.length + b.length := by
  show (a.cps ++ b.cps).size = a.cps.size + b.cps.size
  exact Array.size_append
theorem fmtD_int {i : Int} {k : Str → Prop} (hb : -(2 ^ 200) < i ∧ i < 2 ^ 200) (h : k (toString i)) : fmtD (.int i) k := by
  refine ⟨?_, h⟩
  have h1 : i.natAbs < 2 ^ 200 := by omega
  have h2 := PySem.Flt.log2_lt_of (by decide : 0 < 200) h1
  omega
theorem fmtD_str {y : Str} {k : Str → Prop} (hb : y.length ≤ 1000000) (h : k y) : fmtD (.str y) k := ⟨Nat.le_trans hb (by decide), h⟩
/-- a choice of two ints: one int -/
theorem we_ifZ {K : PySem.W.Frag} {fx : Fx} {E : Env} {Q : D → Env → Prop} {tt : TT} {ta tb : TE} {b : Bool} {i j : Int} (h1 : ∀ Q' : Bool → Env → Prop, Q' b E → Wt K fx tt E Q') (h2 : ∀ Q', Q' (.int i) E → We K fx ta E Q') (h3 : ∀ Q', Q' (.int j) E → We K fx tb E Q') (h : Q (.int (if b = true then i else j)) E) : We K fx (tIf tt ta tb) E Q :=
  we_if (h1 _ ⟨fun e => h2 _ (by rw [if_pos e] at h; exact h), fun e => h3 _ (by rw [if_neg (by simp [e])] at h; exact h)⟩)
end Z
end
section
/-! lists that are drawn, each item by its place -/
namespace Z
open PySem L2
section
variable {K : PySem.W.Frag} {fx : Fx} {E : Env} {te : TE} {O : List D → Env → Prop}
theorem wo_drawI {wi : TI} {j m : Nat} (p : Nat → D → Prop) (h : Wi K fx wi E fun its E1 => its.length ≤ 100000 ∧ (∀ s, E1.sl[j]? = some s → ¬ isOwn s) ∧
    (∀ i d n, its[i]? = some d → n ≤ E1.n + m * i → We K fx te ⟨(E1.sl.set j .no).set j (.d d), n⟩ fun y E4 => p i y ∧ E4.n ≤ n + m ∧ E4.sl.set j .no = E1.sl.set j .no) ∧ ∀ res n, res.length = its.length → (∀ i y, res[i]? = some y → p i y) → n ≤ E1.n + m * its.length → O res (E1.at n)) : Wo K fx (tLc wi (gName j) tYes te [j]) E O := by
  refine wo_lc (js := [j]) fun c G σ H X A R k => h c G σ H X A R fun J its E' G' H' q => k J its E' G' H' ?_
  obtain ⟨hl, hn, hs, hO⟩ := q
  refine ⟨fun i hi => hi, hl, fun i hi s hz => ?_, fun i acc n => acc.length = i ∧ (∀ i y, acc[i]? = some y → p i y) ∧ n ≤ E'.n + m * i, ⟨rfl, fun i y hy => (by simp at hy), by simp⟩, ?_, ?_⟩
  · have : i = j := by simpa using hi
    subst this
    exact hn s hz
  · rintro i d acc n hd ha ⟨h1, h2, h3⟩
    refine wg_name ?_
    intro c G σ H X A P k
    refine k true _ G H ⟨fun _ => ?_, fun z => by cases z⟩ A Mw.refl
    refine We.mono (hs i d n hd h3) ?_
    rintro y E4 ⟨q1, q2, q3⟩
    refine ⟨q3, by rw [List.length_append, h1]; rfl, fun k z hz => ?_, ?_⟩
    · by_cases hk : k < acc.length
      · rw [List.getElem?_append_left hk] at hz
        exact h2 k z hz
      · have hk2 := (List.getElem?_eq_some_iff.mp hz).1
        rw [List.length_append] at hk2
        have hk3 : k = acc.length := by simp at hk2; omega
        subst hk3
        rw [List.getElem?_append_right (Nat.le_refl _), Nat.sub_self] at hz
        cases hz
        rw [h1]; exact q1
    · rw [Nat.mul_succ]; omega
  · rintro acc n _ ⟨h1, h2, h3⟩
    exact hO acc n h1 h2 h3
theorem set3 {xs : List Sl} {j : Nat} {a b c : Sl} : ((xs.set j a).set j b).set j c = xs.set j c := by rw [List.set_set, List.set_set]
theorem of_zsI {res : List D} {R : Nat → Int → Prop} (h : ∀ i y, res[i]? = some y → ∃ x : Int, y = .int x ∧ R i x) : ∃ xs : List Int, res = zs xs ∧ ∀ i x, xs[i]? = some x → R i x := by
  induction res generalizing R with
  | nil => exact ⟨[], rfl, fun i x hx => by simp at hx⟩
  | cons y res ih =>
    obtain ⟨x, rfl, hx⟩ := h 0 y rfl
    obtain ⟨xs, rfl, hxs⟩ := ih (R := fun i => R (i + 1)) (fun i y hy => h (i + 1) y hy)
    refine ⟨x :: xs, rfl, fun i z hz => ?_⟩
    cases i with
    | zero => cases hz; exact hx
    | succ i => exact hxs i z hz
end
end Z
namespace Z
open PySem L2
section
variable {K : PySem.W.Frag} {fx : Fx} {E E' : Env} {t u : TS} {P : Po}
/-- one statement; the rest has a name, and is looked at when it is reached -/
theorem ws_seqH (e : E = E') (h : ∀ r : TS, r = u → Ws K fx t E' { nx := fun E2 => Ws K fx r E2 P, rt := P.rt, ro := P.ro, bk := P.bk, ct := P.ct }) : Ws K fx (tSeq t u) E P := ws_seqN e (h u rfl)
theorem ws_open {r : TS} (e : r = u) (h : Ws K fx u E P) : Ws K fx r E P := by rw [e]; exact h
end
end Z
end
section
/-! list.count; a pair unpacked from a list or a tuple -/
namespace Z
open PySem L2
section
variable {K : PySem.W.Frag} {fx : Fx} {E : Env} {te tx : TE} {Q : D → Env → Prop} {P : Po}
theorem zs_vals {K : PySem.W.Frag} {G : Hp} : ∀ {ns : List Int} {vs : List V}, Rps K G vs (zs ns) → vs = ns.map V.int
  | [], _, r => by cases r; rfl
  | n :: ns, _, r => by
    cases r with
    | cons a b =>
      cases a
      rw [List.map_cons, ← zs_vals b]
theorem we_cntZ (h : We K fx te E fun d E1 => ∃ ns : List Int, d = .lst (zs ns) ∧ We K fx tx E1 fun z E2 => ∃ k : Int, z = .int k ∧ Q (.int (ns.count k : Nat)) E2) :
    We K fx (tBM K "list" (rCntI K) te (tCons tx tNil)) E Q := fun c G σ H X A P k => by
  refine h c G σ H X A _ fun v d E1 G1 H1 q1 A1 m1 r1 => ?_
  obtain ⟨ns, rfl, q1⟩ := q1
  cases r1 with
  | @lst a vs _ ha rs =>
    refine ⟨.inl ⟨rfl, vs, .inl (.inl (A1.ex _ _ ha))⟩, ?_⟩
    refine q1 c G1 σ H1 X A1 _ fun v2 d2 E2 G2 H2 q2 A2 m2 r2 => ?_
    obtain ⟨x, rfl, q3⟩ := q2
    cases r2
    have e := zs_vals rs
    subst e
    exact ⟨a, ns, x, rfl, rfl, .inl (.inl (A2.ex _ _ (m2.ex _ _ ha))), k _ _ _ _ _ q3 A2 (m1.trans m2) (.int _)⟩
/-- the items of a list or of a tuple -/
def gTwo (K : PySem.W.Frag) (n : Nat) (t : TGs) : TG := fun v σ H Q => gTup K n t v σ H Q ∨ gUnl K n t v σ H Q
theorem pg_two {X : Cx} {es : List Expr} {k : Nat} {pos : Pos} {t : TGs} {n : Nat} (hc : X.calm = true) (h : PGs X es t)
    (hn : (assignEach es X.env).length = n := by rfl) (hst : (assignEach es X.env).findIdx? (·.1) = none := by rfl) : PG X (.Tuple es k pos) (gTwo X.K n t) :=
  ⟨fun pins s σ H v u Q I r hw => hw.elim (fun q => (pg_tup hc h hn hst).run pins s σ H v u Q I r q) (fun q => (pg_unl hc h hn hst).run pins s σ H v u Q I r q)⟩
theorem ws_two {i j n : Nat} (h : We K fx te E fun d E' => ∃ x y, (d = .lst [x, y] ∨ d = .tup [x, y]) ∧ n = 2 ∧ P.nx ((E'.set i (.d x)).set j (.d y))) : Ws K fx (tAsg te (gTwo K n (gCons (gName i) (gCons (gName j) gNil)))) E P :=
  ws_asg (js := [i] ++ ([j] ++ [])) (We.mono h fun d E' ⟨x, y, e, hn, q⟩ => by
    subst hn
    rcases e with rfl | rfl
    · intro c G σ H X A z r P k
      exact .inr (wg_unl rfl (wgs_cons (wg_name (wgs_cons (wg_name (wgs_nil q))))) c G σ H X A z r P k)
    · intro c G σ H X A z r P k
      exact .inl (wg_tup rfl (wgs_cons (wg_name (wgs_cons (wg_name (wgs_nil q))))) c G σ H X A z r P k))
end
end Z
namespace Z
open PySem L2 PyProof.Rows
/-! ### the sum of a tuple of ints -/
section
variable {prog : Program} {w : World} {A : Around} {E : Value → Shared → Prop} {s : Shared} {l : Addr} {xs : Array (Int × Tok)} {its : List Value} {ns : List Int}
theorem sum_intTup {Q : Value → Shared → Prop} (hh : A.handled = none) (hl : s.heap.IsTuple l (intItems xs))
    (h : ∀ h' tk t', (∀ b o, s.heap.get? b = some o → h'.get? b = some o) → Q (.int (preSum (numAt xs) xs.size) t') { s with heap := h', toks := tk }) :
    wpAny (model prog w) A (call (.builtin "sum") [.ref l]) Q E s := by
  refine call_sum_walkG (iter_intTup hl fun s₂ e st hfp hlI => ?_)
  subst e
  refine ⟨_, _, _, _, _, _, numAt xs, rfl, Walks.tuple (A := A.in1) hh _ l hlI (intItems xs), st, hfp, (fun _ _ => intItems_at), fun h' tk t' hk => ?_⟩
  have := h h' tk t' (old_keptT hk)
  simpa [intItems] using this
theorem sumT_raw (hh : A.handled = none) (hl : s.heap.IsTuple l its.toArray) (hi : IntsAre its ns) {Q : Value → Shared → Prop}
    (h : ∀ h' tk t', (∀ b o, s.heap.get? b = some o → h'.get? b = some o) → Q (.int ns.sum t') { s with heap := h', toks := tk }) : wpAny (model prog w) A (call (.builtin "sum") [.ref l]) Q E s := by
  obtain ⟨xs, e⟩ := hi.allInts.items
  have hn : numsOf (intItems xs).toList = ns := by rw [← e]; exact hi.numsOf
  rw [nums_intItems] at hn
  rw [e] at hl
  refine sum_intTup hh hl fun h' tk t' hk => ?_
  have := h h' tk t' hk
  rw [preSum_eq, List.take_of_length_le (by simp), hn]; exact this
end
section
variable {X : Cx}
def rSumT (K : PySem.W.Frag) : List V → Hp → VK → Prop := fun vs H Q => ∃ (a : Addr) (ns : List Int), vs = [V.ref a] ∧ SqT K H a (ns.map V.int) ∧ Q (.int ns.sum) H
theorem cr_sumT (hc : X.calm = true) : CallR X (.builtin "sum") (rSumT X.K) := by
  intro pins s σ H vs us Q I r h
  obtain ⟨a, ns, rfl, hs, q⟩ := h
  obtain ⟨its, rv, hl, _⟩ := I.tuple hs
  rw [Vals.ref1 r]
  exact sumT_raw (I.ok.hd hc) hl rv.ints fun h' tk t' hk => ⟨.int _, H, I.kept hk, ⟨_, rfl⟩, q⟩
def rSumU (K : PySem.W.Frag) : List V → Hp → VK → Prop := fun vs H Q => rSum K vs H Q ∨ rSumT K vs H Q
theorem cr_sumU (hc : X.calm = true) : CallR X (.builtin "sum") (rSumU X.K) := (cr_sum hc).or (cr_sumT hc)
end
section
variable {K : PySem.W.Frag} {fx : Fx} {E : Env} {Q : D → Env → Prop}
theorem rcb_sumT {ns : List Int} (h : Q (.int ns.sum) E) : Rcb K fx (rSumU K) [.tup (zs ns)] E Q := fun c G σ H X A vs r P k => by
  obtain ⟨v, e', rr⟩ := one r
  subst e'
  cases rr with
  | @tup _ us _ h1 r1 =>
    rw [rps_ints r1] at h1
    exact .inr ⟨_, ns, rfl, A.ex.t h1, k _ _ _ _ _ h A Mw.refl (.int _)⟩
theorem rcb_sumL {ns : List Int} (h : Q (.int ns.sum) E) : Rcb K fx (rSumU K) [.lst (zs ns)] E Q := fun c G σ H X A vs r P k => by
  obtain ⟨v, e', rr⟩ := one r
  subst e'
  cases rr with
  | @lst _ us _ h1 r1 =>
    rw [rps_ints r1] at h1
    exact .inl ⟨_, ns, rfl, .inl (.inl (A.ex _ _ h1)), k _ _ _ _ _ h A Mw.refl (.int _)⟩
end
end Z
end
section
/-! range over integers of any size -/
namespace L2
open PySem PySem.Spec PyProof.Rows
theorem turn_long {P : Program} {w : World} {K : PySem.W.Frag} {tg : Expr} (it : Addr) (lo : Int) (n : Nat) :
    Turn P w K tg (Itr lo n) [it] it (fun i h => IsLongIter h it (lo + (i : Nat) * 1) ((n : Int) - (i : Nat)) 1) where
  mem := List.mem_singleton.mpr rfl
  obj := fun i h st b hb => by
    rw [List.mem_singleton] at hb
    rw [hb]
    exact ⟨_, st, fun v z => Data.noConfusion (show Data.fields _ = Data.cell v from z)⟩
  keep := fun i h h' st k => k it (List.mem_singleton.mpr rfl) _ st
  item := by
    intro X eP ew eK hc i pins s σ H E I hf st hg
    cases eP; cases ew; cases eK
    obtain ⟨g0, g1, g2, g3, g4, g5⟩ := hf it (List.mem_singleton.mpr rfl)
    refine (Walks.longrange (prog := X.prog) (w := X.w) (I.ok.hd hc) it lo 1 n).item i s _ _ hg st fun v h' tk hv st' kk => ?_
    obtain ⟨t, rfl⟩ := hv
    have J : Inv X pins σ H { s with heap := h', toks := tk } := I.turned (fun b o hb e => kk b o (fun m => hb (List.mem_singleton.mp m)) e) g0 g1 g3 g4 g5
    exact ⟨_, rfl, go_of (s := { s with heap := h', toks := tk }) (n := "longrange_iterator") st' rfl rfl (by decide) ⟨.int (lo + i), H, J, ⟨t, by rw [Int.mul_one]⟩, ⟨rfl, rfl⟩, st', fun b hb => (hf b hb).1⟩⟩
  done := by
    intro X eP ew eK hc i pins s σ H E I hf st hg
    cases eP; cases ew; cases eK
    obtain ⟨g0, g1, g2, g3, g4, g5⟩ := hf it (List.mem_singleton.mpr rfl)
    have hn : n ≤ i := hg
    exact wpAny_pyNext_long_end (I.ok.hd hc) st (by omega) fun h' eb => ⟨rfl, I.turned (t' := s.toks) (fun b o hb e => eb b o hb e) g0 g1 g3 g4 g5⟩
  self := fun _ _ _ _ _ st h => wpAny_pyIter_longiter st h
section
variable {X : Cx} {tg : Expr}
/-- a range object, walked, whatever its ends are -/
theorem range_big {pins : List (Addr × Obj)} {σ : St} {H : Hp} {s : Shared} {R : It → Hp → Prop} {E : Value → Shared → Prop} {lo hi : Int} {t u v : Tok} {tk : Nat} (I : Inv X pins σ H s) (hb : Builtin.Range.small lo hi 1 = false)
    (q : R (Itr lo (hi - lo).toNat) H) : wpAny (model X.prog X.w) X.A (pyIter (.ref s.heap.objs.size)) (PIE X pins σ tg R) E { s with heap := s.heap.push { cls := .type "range", data := .fields #[.int lo t, .int hi u, .int 1 v] }, toks := tk } := by
  refine wpAny_pyIter_longrange (IsRange.new ..) hb ?_
  generalize hh : s.heap.push { cls := .type "range", data := .fields #[.int lo t, .int hi u, .int 1 v] } = h1
  have J : Inv X pins σ H { s with heap := h1, toks := tk } := hh ▸ I.kept fun b o e => Heap.get?_push_of_some _ e
  refine ⟨h1.objs.size, [h1.objs.size], _, _, H, rfl, J.kept (t' := tk) fun b o e => Heap.get?_push_of_some _ e, turn_long _ lo (hi - lo).toNat, ?_, fun b hb => ?_, q⟩
  · show IsLongIter _ _ (lo + ((0 : Nat) : Int) * 1) ((((hi - lo).toNat : Nat) : Int) - ((0 : Nat) : Int)) 1
    rw [show lo + ((0 : Nat) : Int) * 1 = lo by simp, show (((hi - lo).toNat : Nat) : Int) - ((0 : Nat) : Int) = Builtin.Range.rangeSize lo hi 1 by rw [rangeSize_one]; split <;> omega]
    exact Heap.get?_push_size _ rfl
  · rw [List.mem_singleton] at hb
    rw [hb]
    exact J.fpOk (Nat.le_refl _) (J.hok.fresh (Nat.le_refl _))
theorem range_small {pins : List (Addr × Obj)} {σ : St} {H : Hp} {s : Shared} {R : It → Hp → Prop} {E : Value → Shared → Prop} {lo hi : Int} {t u v : Tok} {tk : Nat} (I : Inv X pins σ H s) (hb : Builtin.Range.small lo hi 1 = true)
    (q : R (Itr lo (hi - lo).toNat) H) : wpAny (model X.prog X.w) X.A (pyIter (.ref s.heap.objs.size)) (PIE X pins σ tg R) E { s with heap := s.heap.push { cls := .type "range", data := .fields #[.int lo t, .int hi u, .int 1 v] }, toks := tk } := by
  refine wpAny_pyIter_range (IsRange.new ..) hb ?_
  generalize hh : s.heap.push { cls := .type "range", data := .fields #[.int lo t, .int hi u, .int 1 v] } = h1
  have J : Inv X pins σ H { s with heap := h1, toks := tk } := hh ▸ I.kept fun b o e => Heap.get?_push_of_some _ e
  refine ⟨h1.objs.size, [h1.objs.size], _, _, H, rfl, J.kept (t' := tk) fun b o e => Heap.get?_push_of_some _ e, turn_range _ lo (hi - lo).toNat, ?_, fun b hb => ?_, q⟩
  · show IsRangeIter _ _ (lo + ((0 : Nat) : Int) * 1) ((((hi - lo).toNat : Nat) : Int) - ((0 : Nat) : Int)) 1
    rw [show lo + ((0 : Nat) : Int) * 1 = lo by simp, show (((hi - lo).toNat : Nat) : Int) - ((0 : Nat) : Int) = Builtin.Range.rangeSize lo hi 1 by rw [rangeSize_one]; split <;> omega]
    exact Heap.get?_push_size _ rfl
  · rw [List.mem_singleton] at hb
    rw [hb]
    exact J.fpOk (Nat.le_refl _) (J.hok.fresh (Nat.le_refl _))
/-- range(i, j), walked, whatever the two are -/
def iRng2B (ta : TA) : TI := fun σ H R => ta σ H fun vs H1 => ∃ i j : Int, vs = [.int i, .int j] ∧ R (Itr i (j - i).toNat) H1
theorem pi_range2B {a b : Expr} {ta : TA} {p pos : Pos} (hg : Gl X "range") (hm : X.mg "range" = none) (ha : PA X [a, b] ta) (hs : starEach [a, b] X.env = [(false, eval a X.env), (false, eval b X.env)] := by rfl) (hs2 : starEach [b] X.env = [(false, eval b X.env)] := by rfl) :
    PI X tg (.Call (.Name "range" p) [a, b] [] pos) (iRng2B ta) := by
  refine ⟨fun pins s σ H R I h => Call_ (ld_blt I hg hm boot_range (PyProof.Rows.callWith_type1 (thn (ha.run pos pins s σ H _ I h) ?_) (by rw [hs, hs2]) (by rw [hs2]; rfl)))⟩
  intro us s1 ⟨vs, H1, I1, r1, i, j, e, q⟩
  subst e
  match us, r1 with
  | _, .cons r (.cons r' .nil) =>
    obtain ⟨t, rfl⟩ := r
    obtain ⟨t', rfl⟩ := r'
    cases hb : Builtin.Range.small i j 1 with
    | false => exact call_range_2 (range_big I1 hb q)
    | true => exact call_range_2 (range_small I1 hb q)
end
end L2
namespace Z
open PySem L2
section
variable {K : PySem.W.Frag} {fx : Fx} {E : Env}
theorem wi_r2B {ta : TA} {Q : List D → Env → Prop} (h : Wa K fx ta E fun ds E' => ∃ i j : Int, ds = [.int i, .int j] ∧ Q (rangeD i (j - i).toNat) E') : Wi K fx (iRng2B ta) E Q := fun c G σ H X A R k =>
  h c G σ H X A _ fun vs ds E' G' H' q A' m r => by
    obtain ⟨i, j, e, q⟩ := q
    subst e
    match vs, r with
    | _, .cons (.int _) (.cons (.int _) .nil) => exact ⟨i, j, rfl, k _ _ _ _ _ q A' m (walk_r i _)⟩
end
end Z
end
section
/-! a tuple read in steps, t[::k]; a comprehension with two for; {i: v} -/
namespace HT
open PySem PySem.Spec PyProof.Rows
/-- how many places a step of k reaches of n -/
def plc (n k : Nat) : Nat := if n = 0 then 0 else (n - 1) / k + 1
def pickL {α : Type} (is : List Nat) (l : List α) : List α := is.filterMap fun m => l[m]?
def stepL {α : Type} (k : Nat) (l : List α) : List α := pickL ((List.range (plc l.length k)).map fun m => m * k) l
theorem pickL_take {α : Type} (l : List α) : ∀ n, pickL (List.range n) l = l.take n
  | 0 => rfl
  | n + 1 => by
    unfold pickL
    rw [List.range_succ, List.filterMap_append, List.take_succ]
    have := pickL_take l n
    unfold pickL at this
    rw [this]
    congr 1
theorem plc_one (n : Nat) : plc n 1 = n := by unfold plc; split <;> omega
theorem stepL_one {α : Type} (l : List α) : stepL 1 l = l := by
  unfold stepL
  have e : ((List.range (plc l.length 1)).map fun m => m * 1) = List.range l.length := by simp [plc_one]
  rw [e, pickL_take, List.take_length]
theorem stepL_length_le {α : Type} {k : Nat} (l : List α) (hk : 0 < k) : (stepL k l).length ≤ l.length := by
  unfold stepL pickL
  refine Nat.le_trans (List.length_filterMap_le _ _) ?_
  rw [List.length_map, List.length_range]
  unfold plc
  split
  · omega
  · have := Nat.div_le_self (l.length - 1) k
    omega
section
variable {prog : Program} {w : World} {A : Around} {E : Value → Shared → Prop} {s : Shared}
theorem adjust_step (n k : Nat) : Builtin.Slice.sliceAdjust none none (k : Int) (n : Int) = (0, (n : Int)) := by
  unfold Builtin.Slice.sliceAdjust
  have : ¬ ((k : Int) < 0) := by omega
  simp [this]
theorem places_step {n k : Nat} (hk : 0 < k) : Builtin.Slice.slicePlaces 0 (n : Int) (k : Int) = plc n k := by
  unfold Builtin.Slice.slicePlaces plc
  rw [if_pos (by omega)]
  by_cases h : n = 0
  · rw [if_neg (by omega), if_pos h]; rfl
  · rw [if_pos (by omega), if_neg h]
    have e : ((n : Int) - 0 - 1) = ((n - 1 : Nat) : Int) := by omega
    rw [e]
    have : (((n - 1 : Nat) : Int) / (k : Int) + 1) = (((n - 1) / k + 1 : Nat) : Int) := by simp
    rw [this, Int.toNat_natCast]
theorem sliceApplied_step {sl : Addr} {vl vu vs : Value} {n k : Nat} {Q : Int × Int × Nat → Shared → Prop} (hs : s.heap.IsSliceOf sl vl vu vs) (pl : IsPart vl none) (pu : IsPart vu none) (ps : IsPart vs (some (k : Int))) (hk : 0 < k)
    (h : Q (0, (k : Int), plc n k) s) : wpAny (model prog w) A (Builtin.Slice.sliceApplied (.ref sl) (pure (n : Int))) Q E s := by
  obtain ⟨os, hos, hcs, hds⟩ := id hs
  unfold Builtin.Slice.sliceApplied Builtin.Slice.sliceFields
  refine wpAny_bind (wpAny_bind (wpAny_field hos hds (x := vl) rfl (wpAny_bind (wpAny_field hos hds (x := vu) rfl (wpAny_bind (wpAny_field hos hds (x := vs) rfl (wpAny_pure ?_)))))))
  refine wpAny_bind (slicePart_ ps ?_)
  show wpAny _ _ (if (((k : Nat) : Int) == 0) = true then _ else _) _ _ s
  rw [if_neg (by simp; omega)]
  refine wpAny_bind (slicePart_ pl (wpAny_bind (slicePart_ pu (wpAny_bind (wpAny_pure ?_)))))
  show wpAny _ _ (match Builtin.Slice.sliceAdjust none none (k : Int) (n : Int) with | (lo, hi) => pure (lo, (k : Int), Builtin.Slice.slicePlaces lo hi (k : Int))) _ _ s
  rw [adjust_step]
  show wpAny _ _ (pure ((0 : Int), (k : Int), Builtin.Slice.slicePlaces 0 (n : Int) (k : Int))) _ _ s
  rw [places_step hk]
  exact wpAny_pure h
theorem pick_step (xs : Array Value) (k n : Nat) : ((List.range n).filterMap fun (m : Nat) => xs[((0 : Int) + (m : Int) * (k : Int)).toNat]?).toArray = (pickL ((List.range n).map fun m => m * k) xs.toList).toArray := by
  congr 1
  unfold pickL
  rw [List.filterMap_map]
  refine fm_congr fun m _ => ?_
  have e1 : ((0 : Int) + (m : Int) * (k : Int)).toNat = m * k := by rw [Int.zero_add, ← Int.natCast_mul, Int.toNat_natCast]
  rw [e1]
  simp
theorem getItem_tuple_step {t sl : Addr} {items : Array Value} {vl vu vs : Value} {k : Nat} {Q : Value → Shared → Prop} (ht : IsTup s.heap t items) (hs : s.heap.IsSliceOf sl vl vu vs) (pl : IsPart vl none) (pu : IsPart vu none) (ps : IsPart vs (some (k : Int))) (hk : 0 < k)
    (h1 : k = 1 → Q (.ref t) s) (h : k ≠ 1 → Q (.ref s.heap.objs.size) { s with heap := s.heap.push { cls := .type "tuple", data := .seq (stepL k items.toList).toArray } })
    (hsz : items.size ≤ sizeLine) : wpAny (model prog w) A (getItem (.ref t) (.ref sl)) Q E s := by
  have htake : sizeOk (.seq (stepL k items.toList).toArray) := by
    show (stepL k items.toList).toArray.size ≤ sizeLine
    rw [List.size_toArray]
    refine Nat.le_trans (stepL_length_le _ hk) ?_
    rw [Array.length_toList]
    exact hsz
  obtain ⟨os, hos, hcs, hds⟩ := id hs
  have hTs : s.TypeIs (.ref sl) "slice" := ⟨os, hos, hcs⟩
  unfold getItem
  try with_reducible refine wpAny_holding ?_
  first | refine wpAny_bind (wpAny_pure ?_) | skip
  refine wpAny_bind (wpAny_sequenceKey ht.typeIs (by decide) ?_)
  refine wpAny_bind (wpAny_callSpecial?_slot (name := Str.ofString "__getitem__") ht.typeIs PyProof.Rows.slot_tuple_getitem
    (wpAny_call_entry PyProof.Rows.slot_tuple_getitem ht.typeIs entry_tuple_getitem ?_ (args_tuple_getitem _ _)))
  show wpAny _ _ (Builtin.Tuple.tupleItemsOf (.ref t) >>= _) _ _ s
  refine wpAny_bind (tupleItemsOf_ ht ?_)
  refine wpAny_bind (wpAny_typeOf hTs ?_)
  rw [if_pos (by decide)]
  refine wpAny_bind (sliceApplied_step hs pl pu ps hk ?_)
  by_cases k1 : k = 1
  · subst k1
    have hyes : ((0 : Int) == 0 && ((1 : Nat) : Int) == 1 && (plc items.size 1 == items.size)) = true := by
      rw [plc_one]; simp
    show wpAny _ _ (if ((0 : Int) == 0 && ((1 : Nat) : Int) == 1 && (plc items.size 1 == items.size)) = true then _ else _) _ _ s
    rw [if_pos hyes]
    refine wpAny_bind ?_
    show wpAny _ _ (typeOf (.ref t) >>= fun T => pure (T == .type "tuple")) _ _ s
    refine wpAny_bind (wpAny_typeOf ht.typeIs (wpAny_pure ?_))
    first
      | rw [if_pos (by decide)]
      | simp only [beq_self_eq_true, if_true]
    first
      | exact wpAny_bind (wpAny_rule (wpAny_pure ⟨_, rfl, wpAny_pure (h1 rfl)⟩))
      | exact wpAny_bind (wpAny_rule (wpAny_bind (wpAny_pure (wpAny_pure ⟨_, rfl, wpAny_pure (h1 rfl)⟩))))
  · have hno : ¬ (((0 : Int) == 0 && ((k : Nat) : Int) == 1 && (plc items.size k == items.size)) = true) := by
      have : ¬ ((k : Int) = 1) := by omega
      simp [this]
    show wpAny _ _ (if ((0 : Int) == 0 && ((k : Nat) : Int) == 1 && (plc items.size k == items.size)) = true then _ else _) _ _ s
    rw [if_neg hno, pick_step]
    have h := h k1
    unfold stepL at h htake
    rw [Array.length_toList] at h htake
    first
      | exact wpAny_bind (m := Builtin.Tuple.tupleExact _) (wpAny_newObj_type (wpAny_pure ⟨_, rfl, wpAny_pure h⟩) htake)
      | exact wpAny_bind (m := Builtin.Tuple.tupleExact _) (wpAny_newObj_type (wpAny_bind (wpAny_pure (wpAny_pure ⟨_, rfl, wpAny_pure h⟩))) htake)
      | exact wpAny_bind (wpAny_bind (m := Builtin.Tuple.tupleExact _) (wpAny_newObj_type (wpAny_pure (wpAny_pure ⟨_, rfl, wpAny_pure h⟩)) htake))
      | exact wpAny_bind (wpAny_bind (m := Builtin.Tuple.tupleExact _) (wpAny_newObj_type (wpAny_pure ⟨_, rfl, wpAny_pure h⟩) htake))
end
end HT
namespace Z
open PySem PySem.Spec PyProof.Rows L2
section
variable {X : Cx}
theorem vals_pick {xs : List V} {us : List Value} (r : Vals xs us) : ∀ is : List Nat, Vals (HT.pickL is xs) (HT.pickL is us)
  | [] => .nil
  | i :: is => by
    have ih := vals_pick r is
    unfold HT.pickL at ih ⊢
    cases h : xs[i]? with
    | none => rw [List.filterMap_cons_none h, List.filterMap_cons_none (r.none_of h)]; exact ih
    | some x =>
      obtain ⟨u, h1, h2⟩ := r.get h
      rw [List.filterMap_cons_some h, List.filterMap_cons_some h1]
      exact .cons h2 ih
theorem vals_step {xs : List V} {us : List Value} (r : Vals xs us) (k : Nat) : Vals (HT.stepL k xs) (HT.stepL k us) := by
  unfold HT.stepL
  rw [r.length]
  exact vals_pick r _
theorem rps_pick {K : PySem.W.Frag} {G : Hp} {xs : List V} {ds : List D} (r : Rps K G xs ds) : ∀ is : List Nat, Rps K G (HT.pickL is xs) (HT.pickL is ds)
  | [] => .nil
  | i :: is => by
    have ih := rps_pick r is
    unfold HT.pickL at ih ⊢
    cases h : ds[i]? with
    | none =>
      have hl := List.getElem?_eq_none_iff.mp h
      rw [List.filterMap_cons_none h, List.filterMap_cons_none (List.getElem?_eq_none (by rw [r.length]; exact hl))]; exact ih
    | some d =>
      obtain ⟨v, h1, h2⟩ := r.get h
      rw [List.filterMap_cons_some h, List.filterMap_cons_some h1]
      exact .cons h2 ih
theorem rps_step {K : PySem.W.Frag} {G : Hp} {xs : List V} {ds : List D} (r : Rps K G xs ds) (k : Nat) : Rps K G (HT.stepL k xs) (HT.stepL k ds) := by
  unfold HT.stepL
  rw [r.length]
  exact rps_pick r _
def tStepU (K : PySem.W.Frag) (te tk : TE) : TE := fun σ H Q => te σ H fun x H1 => tPart tk σ H1 fun o H2 => ∃ a xs, ∃ k : Nat, x = .ref a ∧ SqT K H2 a xs ∧ o = some (k : Int) ∧ 0 < k ∧ (k = 1 → Q (.ref a) H2) ∧ ∀ p, H2 p = none → Q (.ref p) (upd H2 p (.tup (HT.stepL k xs)))
theorem pe_step {e ke : Expr} {te tk : TE} {p3 pos : Pos} (he : PE X e te) (hk : PE X ke tk) : PE X (.Subscript e (.Slice none none (some ke) p3) pos) (tStepU X.K te tk) := by
  refine ⟨fun pins s σ H Q I h => ?_⟩
  refine Subscript_ (thn (he.run pins s σ H _ I h) fun v s1 ⟨x, H1, I1, r1, q1⟩ => ?_)
  have hst : PO X (some ke) (tPart tk) := po_some hk
  refine wpAny_Slice (thn (po_none.run pins s1 σ H1 (fun o H2 => o = none ∧ H2 = H1) I1 ⟨rfl, rfl⟩) fun vl s2 ⟨l, H2, I2, pl, el, e2⟩ => ?_)
  subst el e2
  refine thn (po_none.run pins s2 σ H2 (fun o H3 => o = none ∧ H3 = H2) I2 ⟨rfl, rfl⟩) fun vu s3 ⟨u, H3, I3, pu, eu, e3⟩ => ?_
  subst eu e3
  refine thn (hst.run pins s3 σ H3 _ I3 q1) fun vs s4 ⟨o, H4, I4, ps, q4⟩ => ?_
  obtain ⟨a, xs, k, ex, hx, eo, hk0, q5, q6⟩ := q4
  subst ex eo
  have I5 : Inv X pins σ H4 { s4 with heap := s4.heap.push { cls := .type "slice", data := .fields #[vl, vu, vs] } } := I4.kept (t' := s4.toks) fun b ob q => Heap.get?_push_of_some _ q
  cases r1
  obtain ⟨its, r, ht, hz⟩ := I5.tuple hx
  have hlen := r.length
  show wpAny (model X.prog X.w) X.A (subscriptTail e (.Slice none none (some ke) p3) (.ref a) (.ref s4.heap.objs.size)) (EP X pins σ Q) X.xe { s4 with heap := s4.heap.push { cls := .type "slice", data := .fields #[vl, vu, vs] } }
  refine tail_any (ops := [.ref a, .ref s4.heap.objs.size]) ht.typeIs (PyProof.Rows.slot_tuple_getitem.lookup) ?_ (by with_unfolding_all rfl)
  refine HT.getItem_tuple_step ht (Heap.IsSliceOf.new _ vl vu vs) pl pu ps hk0 (fun e1 => ?_) (fun _ => ?_) (by rw [List.size_toArray]; omega)
  · exact ⟨.ref _, H4, I5, rfl, q5 e1⟩
  · refine ⟨.ref _, _, I5.laid (t' := s4.toks) (o := .tup (HT.stepL k xs)) (fun b ob q => Heap.get?_push_of_some _ q) (Nat.le_refl _) ?_, rfl, q6 _ (I5.hok.fresh (Nat.le_refl _))⟩
    exact ⟨Nat.le_trans (HT.stepL_length_le _ hk0) hz, _, vals_step r k, IsTup.new _ _⟩
end
section
variable {K : PySem.W.Frag} {fx : Fx} {E : Env} {te tk : TE} {Q : D → Env → Prop}
theorem we_stepT (h : We K fx te E fun d E1 => ∃ ds, d = .tup ds ∧ We K fx tk E1 fun z E2 => ∃ k : Nat, z = .int (k : Int) ∧ 0 < k ∧ Q (.tup (HT.stepL k ds)) E2) : We K fx (tStepU K te tk) E Q := fun c G σ H X A P k =>
  h c G σ H X A _ fun v d E1 G1 H1 q1 A1 m1 r1 => by
    obtain ⟨ds, rfl, q1⟩ := q1
    refine q1 c G1 σ H1 X A1 _ fun z dz E2 G2 H2 q2 A2 m2 r2 => ?_
    obtain ⟨n, rfl, hn, q2⟩ := q2
    cases r2
    cases r1 with
    | @tup a vs _ h1 r1 =>
      refine ⟨_, rfl, a, vs, n, rfl, A2.ex.t (m2.ex.t h1), rfl, hn, fun e1 => ?_, fun p hp => ?_⟩
      · subst e1
        rw [HT.stepL_one] at q2
        exact k (.ref a) _ E2 _ _ q2 A2 (m1.trans m2) (.tup (m2.ex.t h1) (r1.mono m2.ex))
      · have m3 : Mv c G2 H2 (upd G2 p (.tup (HT.stepL n vs))) (upd H2 p (.tup (HT.stepL n vs))) := Mv.laid A2.ex hp
        refine k (.ref p) _ E2 _ _ q2 (A2.move0 m3 fun a u e => by rw [upd_ne (ne_of_none e hp)]; exact e) ((m1.trans m2).trans m3.mw) (.tup ?_ ((rps_step (r1.mono m2.ex) n).mono m3.ex))
        exact .inl (.inl upd_same)
end
end Z
namespace Z
open PySem PySem.Spec L2
section
variable {K : PySem.W.Frag} {fx : Fx} {E : Env} {te : TE} {tt tt1 : TT}
/-- wipe: what is wiped in part stands within -/
theorem wipe_sub {σ : L2.St} {vs : List Nat} : ∀ us : List Nat, (∀ j ∈ us, j ∈ vs) → L2.wipe (L2.wipe σ us) vs = L2.wipe σ vs := by
  intro us
  induction us with
  | nil => intro _; rfl
  | cons a us ih =>
    intro z
    show L2.wipe ((L2.wipe σ us).set a none) vs = _
    rw [wipe_set (z a List.mem_cons_self)]
    exact ih fun j hj => z j (List.mem_cons_of_mem _ hj)
theorem wo_lc2 {wi wi1 : TI} {g g1 : TG} {vs vs1 js js1 : List Nat} {Q : List D → Env → Prop} (h : Wi K fx wi E fun its E1 => (∀ j ∈ js, j ∈ vs) ∧ (∀ j ∈ js1, j ∈ vs1) ∧ (∀ j ∈ vs1, j ∈ vs) ∧ noOwn E1.sl vs ∧ ∃ Inv : Nat → List D → Nat → Prop, Inv 0 [] E1.n ∧
    (∀ i d acc n, its[i]? = some d → Inv i acc n → Wg K fx js g d ⟨wipeL E1.sl vs, n⟩ fun E2 => Wt K fx tt E2 fun b E3 =>
      (b = true → Wi K fx wi1 E3 fun its1 E4 => wipeL E4.sl vs = wipeL E1.sl vs ∧ noOwn E4.sl vs ∧ ∃ Inv1 : Nat → List D → Nat → Prop, Inv1 0 acc E4.n ∧
        (∀ j d1 acc1 n1, its1[j]? = some d1 → Inv1 j acc1 n1 → acc1.length ≤ 100000 ∧ Wg K fx js1 g1 d1 ⟨wipeL E4.sl vs1, n1⟩ fun E5 => Wt K fx tt1 E5 fun b1 E6 =>
          (b1 = true → We K fx te E6 fun y E7 => wipeL E7.sl vs1 = wipeL E4.sl vs1 ∧ Inv1 (j + 1) (acc1 ++ [y]) E7.n) ∧ (b1 = false → wipeL E6.sl vs1 = wipeL E4.sl vs1 ∧ Inv1 (j + 1) acc1 E6.n)) ∧
        ∀ acc1 n1, Inv1 its1.length acc1 n1 → Inv (i + 1) acc1 n1) ∧
      (b = false → wipeL E3.sl vs = wipeL E1.sl vs ∧ Inv (i + 1) acc E3.n)) ∧
    ∀ acc n, Inv its.length acc n → Q acc (E1.at n)) : Wo K fx (tLc2 wi g tt wi1 g1 tt1 te vs vs1) E Q := fun c G σ H X A P k =>
  h c G σ H X A _ fun J its E1 G1 H1 q A1 m1 w => by
    obtain ⟨hj, hj1, hv1, hno, Inv, h0, hs, hd⟩ := q
    intro Dl hD
    have hB := B_free A1 hD
    have hF : c.F ≠ some Dl := fun f => (A1.tB Dl f).1 hB
    have hG1 : G1 Dl = none := A1.ex.free hD
    have hG0 : c.G0 Dl = none := A1.g0.free hG1
    have ho := own_free A1 hD
    have mv := Mv.hid (c := c) (o := HO.lst []) A1.ex hD
    have cm : ∀ {acc : List V} {Ga Ha Gb Hb : Hp}, Mw (c.with Dl (.lst acc)) Ga Ha Gb Hb → Mw c Ga Ha Gb Hb := fun z => ⟨z.ex, z.keep⟩
    have sameAt : ∀ {σa σ3 : L2.St} {Ea E3 : Env} {us : List Nat} (n : Nat), noOwn Ea.sl us → L2.wipe σ3 us = L2.wipe σa us → wipeL E3.sl us = wipeL Ea.sl us → ∀ (i : Nat) (s : Sl), (Ea.at n).sl[i]? = some s → isOwn s → E3.sl[i]? = some s ∧ σ3[i]? = σa[i]? := by
      intro σa σ3 Ea E3 us n hn e1 e2 i s e o
      have hv : i ∉ us := fun z => hn i z s e o
      refine ⟨?_, ?_⟩
      · rw [← wipeL_out (L := E3.sl) hv, e2, wipeL_out hv]; exact e
      · rw [← wipe_out (σ := σ3) hv, e1, wipe_out hv]
    -- what stands at the end of a turn of the outer loop
    let Nx : Nat → Hp → Prop := fun i H2 => ∃ acc accV n G', Inv i acc n ∧ As K c G' σ (E1.at n) H2 ∧ Mw c G1 H1 G' H2 ∧ G' Dl = none ∧ H2 Dl = some (.lst accV) ∧ Rps K G' accV acc
    refine ⟨fun i m H' => m = its.length - i ∧ i ≤ its.length ∧ Nx i H',
      ⟨_, rfl, Nat.zero_le _, [], [], E1.n, G1, h0, A1.move0 mv (fun a u e => by rw [upd_ne (ne_of_none e hD)]; exact e), mv.mw, hG1, upd_same, .nil⟩, ?_⟩
    rintro i m H' ⟨rfl, hi, acc, accV, n, G', hI, A', m', gD, hH', rA⟩
    obtain ⟨w1, w2⟩ := w H' i (m'.ex.trans A'.ex)
    by_cases hlt : i < its.length
    · obtain ⟨go, yl⟩ := w1 hlt
      refine .inr ⟨go, Nx (i + 1), fun H2 z => ⟨its.length - (i + 1), by omega, rfl, hlt, z⟩, fun v H2 y => ?_⟩
      obtain ⟨d, ed, y⟩ := yl v H2 y
      have go2 : ∀ G2 H2, As K c G2 σ (E1.at n) H2 → Mw c G' H' G2 H2 → G2 Dl = none → H2 Dl = some (.lst accV) → Rp K G2 v d → g v (L2.wipe σ vs) H2 fun σ2 H3 => L2.wipe σ2 vs = L2.wipe σ vs ∧ tt σ2 H3 fun b H4 =>
          if b = true then wi1 σ2 H4 fun J1 H5 => ∃ W1 : Nat → Nat → Hp → Prop, (∃ m, W1 0 m H5) ∧ ∀ j k H, W1 j k H →
            (J1.stop j H ∧ Nx (i + 1) H) ∨ (J1.go j H ∧ ∃ Nx1 : Hp → Prop, (∀ H', Nx1 H' → ∃ k', k' < k ∧ W1 (j + 1) k' H') ∧ ∀ x H', J1.yld j H x H' → g1 x (L2.wipe σ2 vs1) H' fun σ3 H5 => L2.wipe σ3 vs1 = L2.wipe σ2 vs1 ∧ tt1 σ3 H5 fun b H6 =>
              if b = true then te σ3 H6 fun y H7 => ∃ acc, H7 Dl = some (.lst acc) ∧ acc.length < sizeLine ∧ Nx1 (upd H7 Dl (.lst (acc ++ [y]))) else Nx1 H6)
          else Nx (i + 1) H4 := by
        intro G2 H2 A2 m2 gD2 hD2 r2
        have Aw := (A2.within (o := .lst accV) hD2 hB gD2 (fun _ e => by cases e) ho).wipe vs
        have Xw := X.within (D := Dl) (o := .lst accV) hB hF A2.tB
        refine hs i d acc n ed hI _ G2 _ H2 Xw Aw v r2 _ fun E3 G3 σ3 H3 q3 A3 m3 w3 => ?_
        have hw3 : L2.wipe σ3 vs = L2.wipe σ vs := (w3 vs hj).trans (wipe_sub vs fun j hj => hj)
        refine ⟨hw3, ?_⟩
        refine q3 _ G3 σ3 H3 Xw A3 _ fun b E4 G4 H4 q4 A4 m4 => ?_
        cases b with
        | true =>
          show wi1 σ3 H4 _
          refine q4.1 rfl _ G4 σ3 H4 Xw A4 _ fun J1 its1 E5 G5 H5 q5 A5 m5 w5 => ?_
          obtain ⟨e5, no5, Inv1, i0, is1, id1⟩ := q5
          have hH5 : H5 Dl = some (.lst accV) := A5.keep Dl _ upd_same hF kp_lst
          have gD5 : G5 Dl = none := A5.sep Dl (by show upd c.B Dl _ Dl ≠ none; rw [upd_same]; simp) hG0
          have mm5 : Mw c G2 H2 G5 H5 := (cm m3).trans ((cm m4).trans (cm m5))
          have A5o : As K c G5 σ3 E5 H5 := A5.out hB hF A2.tB
          have ho5 : ∀ (i : Nat), σ3[i]? = some (some (V.ref Dl)) → ∀ s, E5.sl[i]? = some s → ¬ isOwn s := by
            intro i hi s es os
            have hv : i ∉ vs := fun z => no5 i z s es os
            have e1 : E1.sl[i]? = some s := by rw [← wipeL_out (L := E1.sl) hv, ← e5, wipeL_out hv]; exact es
            have e2 : σ[i]? = some (some (V.ref Dl)) := by rw [← wipe_out (σ := σ) hv, ← hw3, wipe_out hv]; exact hi
            exact ho i e2 s e1 os
          have no51 : noOwn E5.sl vs1 := fun i hi => no5 i (hv1 i hi)
          refine ⟨fun j k Hc => k = its1.length - j ∧ j ≤ its1.length ∧ ∃ acc1 accV1 n1 Gc, Inv1 j acc1 n1 ∧ As K c Gc σ3 (E5.at n1) Hc ∧ Mw c G1 H1 Gc Hc ∧ Ex G5 Gc ∧ Gc Dl = none ∧ Hc Dl = some (.lst accV1) ∧ Rps K Gc accV1 acc1,
            ⟨_, rfl, Nat.zero_le _, acc, accV, E5.n, G5, i0, A5o, m'.trans (m2.trans mm5), Ex.refl _, gD5, hH5, rA.mono (m2.ex.trans mm5.ex)⟩, ?_⟩
          rintro j k Hc ⟨rfl, hjl, acc1, accV1, n1, Gc, hI1, Ac, mc, xc, gDc, hHc, rc⟩
          obtain ⟨u1, u2⟩ := w5 Hc j (xc.trans Ac.ex)
          by_cases hlt1 : j < its1.length
          · obtain ⟨go1, yl1⟩ := u1 hlt1
            refine .inr ⟨go1, fun H6 => ∃ acc1 accV1 n1 Gc, Inv1 (j + 1) acc1 n1 ∧ As K c Gc σ3 (E5.at n1) H6 ∧ Mw c G1 H1 Gc H6 ∧ Ex G5 Gc ∧ Gc Dl = none ∧ H6 Dl = some (.lst accV1) ∧ Rps K Gc accV1 acc1, fun H6 z => ⟨its1.length - (j + 1), by omega, rfl, hlt1, z⟩, fun v1 H6 y1 => ?_⟩
            obtain ⟨d1, ed1, y1⟩ := yl1 v1 H6 y1
            obtain ⟨hal, is1⟩ := is1 j d1 acc1 n1 ed1 hI1
            have go3 : ∀ G6 H6, As K c G6 σ3 (E5.at n1) H6 → Mw c Gc Hc G6 H6 → G6 Dl = none → H6 Dl = some (.lst accV1) → Rp K G6 v1 d1 → g1 v1 (L2.wipe σ3 vs1) H6 fun σ4 H7 => L2.wipe σ4 vs1 = L2.wipe σ3 vs1 ∧ tt1 σ4 H7 fun b H8 =>
                if b = true then te σ4 H8 fun y H9 => ∃ acc, H9 Dl = some (.lst acc) ∧ acc.length < sizeLine ∧ (∃ acc1 accV1 n1 Gc, Inv1 (j + 1) acc1 n1 ∧ As K c Gc σ3 (E5.at n1) (upd H9 Dl (.lst (acc ++ [y]))) ∧ Mw c G1 H1 Gc (upd H9 Dl (.lst (acc ++ [y]))) ∧ Ex G5 Gc ∧ Gc Dl = none ∧ (upd H9 Dl (.lst (acc ++ [y]))) Dl = some (.lst accV1) ∧ Rps K Gc accV1 acc1)
                else (∃ acc1 accV1 n1 Gc, Inv1 (j + 1) acc1 n1 ∧ As K c Gc σ3 (E5.at n1) H8 ∧ Mw c G1 H1 Gc H8 ∧ Ex G5 Gc ∧ Gc Dl = none ∧ H8 Dl = some (.lst accV1) ∧ Rps K Gc accV1 acc1) := by
              intro G6 H6 A6 m6 gD6 hD6 r6
              have Aw1 := (A6.within (o := .lst accV1) hD6 hB gD6 (fun _ e => by cases e) ho5).wipe vs1
              have Xw1 := X.within (D := Dl) (o := .lst accV1) hB hF A6.tB
              refine is1 _ G6 _ H6 Xw1 Aw1 v1 r6 _ fun E7 G7 σ7 H7 q7 A7 m7 w7 => ?_
              have hw7 : L2.wipe σ7 vs1 = L2.wipe σ3 vs1 := (w7 vs1 hj1).trans (wipe_sub vs1 fun j hj => hj)
              refine ⟨hw7, ?_⟩
              refine q7 _ G7 σ7 H7 Xw1 A7 _ fun b E8 G8 H8 q8 A8 m8 => ?_
              cases b with
              | true =>
                show te σ7 H8 _
                refine q8.1 rfl _ G8 σ7 H8 Xw1 A8 _ fun u y E9 G9 H9 q9 A9 m9 r9 => ?_
                have hH9 : H9 Dl = some (.lst accV1) := A9.keep Dl _ upd_same hF kp_lst
                have gD9 : G9 Dl = none := A9.sep Dl (by show upd c.B Dl _ Dl ≠ none; rw [upd_same]; simp) hG0
                have mm : Mw c G6 H6 G9 H9 := (cm m7).trans ((cm m8).trans (cm m9))
                have A10 := A6.restore (A9.out hB hF A6.tB) mm (sameAt n1 no51 hw7 q9.1)
                have hlv : accV1.length < sizeLine := Nat.lt_of_lt_of_le (m := 100001) (by rw [rc.length]; omega) (by decide)
                refine ⟨accV1, hH9, hlv, acc1 ++ [y], accV1 ++ [u], E9.n, G9, q9.2, A10.side hH9 hB gD9 hF ho5, ⟨mc.ex.trans (m6.ex.trans mm.ex), fun a o e f kk => ?_⟩, xc.trans (m6.ex.trans mm.ex), gD9, upd_same, (rc.mono (m6.ex.trans mm.ex)).append (.cons r9 .nil)⟩
                rw [upd_ne (ne_of_none e hD)]
                exact mm.keep a o (m6.keep a o (mc.keep a o e f kk) f kk) f kk
              | false =>
                show ∃ acc1 accV1 n1 Gc, _
                have q9 := q8.2 rfl
                have hH8 : H8 Dl = some (.lst accV1) := A8.keep Dl _ upd_same hF kp_lst
                have gD8 : G8 Dl = none := A8.sep Dl (by show upd c.B Dl _ Dl ≠ none; rw [upd_same]; simp) hG0
                have mm : Mw c G6 H6 G8 H8 := (cm m7).trans (cm m8)
                have A10 := A6.restore (A8.out hB hF A6.tB) mm (sameAt n1 no51 hw7 q9.1)
                exact ⟨acc1, accV1, E8.n, G8, q9.2, A10, mc.trans (m6.trans mm), xc.trans (m6.ex.trans mm.ex), gD8, hH8, rc.mono (m6.ex.trans mm.ex)⟩
            rcases y1 with ⟨e, r⟩ | ⟨T, us, ds, e1, e2, e3, e4, r⟩
            · subst e
              exact go3 Gc _ Ac Mw.refl gDc hHc (r.mono xc)
            · subst e1 e3 e4
              have mv := Mv.laid (c := c) (o := .tup us) Ac.ex e2
              have nT : Dl ≠ T := fun z => by subst z; rw [hHc] at e2; cases e2
              exact go3 _ _ (Ac.move0 mv (fun a u e => by rw [upd_ne (ne_of_none e e2)]; exact e)) mv.mw (by rw [upd_ne nT]; exact gDc) (by rw [upd_ne nT]; exact hHc) (.tup (.inl (.inl upd_same)) (r.mono (xc.trans mv.ex)))
          · have e : j = its1.length := by omega
            subst e
            have A11 := A1.restore Ac mc (sameAt E1.n hno hw3 (by show wipeL (E5.at n1).sl vs = _; exact e5))
            exact .inl ⟨u2 (Nat.le_refl _), acc1, accV1, n1, Gc, id1 acc1 n1 hI1, A11, mc, gDc, hHc, rc⟩
        | false =>
          show Nx (i + 1) H4
          have q5 := q4.2 rfl
          have hH4 : H4 Dl = some (.lst accV) := A4.keep Dl _ upd_same hF kp_lst
          have gD4 : G4 Dl = none := A4.sep Dl (by show upd c.B Dl _ Dl ≠ none; rw [upd_same]; simp) hG0
          have mm : Mw c G2 H2 G4 H4 := (cm m3).trans (cm m4)
          have A6 := A2.restore (A4.out hB hF A2.tB) mm (sameAt n hno hw3 q5.1)
          exact ⟨acc, accV, E4.n, G4, q5.2, A6, m'.trans (m2.trans mm), gD4, hH4, rA.mono (m2.ex.trans mm.ex)⟩
      rcases y with ⟨e, r⟩ | ⟨T, us, ds, e1, e2, e3, e4, r⟩
      · subst e
        exact go2 G' _ A' Mw.refl gD hH' (r.mono m'.ex)
      · subst e1 e3 e4
        have mv := Mv.laid (c := c) (o := .tup us) A'.ex e2
        have nT : Dl ≠ T := fun z => by subst z; rw [hH'] at e2; cases e2
        exact go2 _ _ (A'.move0 mv (fun a u e => by rw [upd_ne (ne_of_none e e2)]; exact e)) mv.mw (by rw [upd_ne nT]; exact gD) (by rw [upd_ne nT]; exact hH') (.tup (.inl (.inl upd_same)) (r.mono (m'.ex.trans mv.ex)))
    · have e : i = its.length := by omega
      subst e
      exact .inl ⟨w2 (Nat.le_refl _), k Dl accV acc (E1.at n) G' H' (hd acc n hI) A' (m1.trans m') ⟨gD, hB, ho⟩ hH' rA⟩
end
end Z
namespace Z
open PySem L2
section
variable {K : PySem.W.Frag} {fx : Fx} {E : Env} {Q : D → Env → Prop}
/-- {i: v} -/
theorem we_disI {i v : Int} (h : Q (.dk [(Sum.inl i, .int v)]) E) : We K fx (tDisp [(tC (.int i), tC (.int v))]) E Q := fun c G σ H X A P k => by
  intro p hp
  show (upd H p (.dK [])) p = some (.dK []) ∧ ∃ kvs : List (Key × V), [(V.int i, V.int v)] = kvs.map (fun kv => (kV kv.1, kv.2)) ∧ kvs.length ≤ 15 ∧ _
  refine ⟨upd_same, [(Sum.inl i, .int v)], rfl, by simp, ?_⟩
  have em : mergeK [] [((Sum.inl i : Key), V.int v)] = [(Sum.inl i, .int v)] := by simp [mergeK, putK]
  rw [em]
  let kvs : List (Key × V) := [(Sum.inl i, .int v)]
  have e2 : upd (upd H p (.dK [])) p (.dK kvs) = upd H p (.dK kvs) := by
    funext a
    by_cases ha : a = p
    · subst ha; rw [upd_same, upd_same]
    · rw [upd_ne ha, upd_ne ha, upd_ne ha]
  show P (V.ref p) (upd (upd H p (.dK [])) p (.dK kvs))
  rw [e2]
  have m := Mv.laid (c := c) (o := HO.dK kvs) A.ex hp
  exact k (.ref p) _ _ _ _ h (A.move0 m (fun a u e => by rw [upd_ne (ne_of_none e hp)]; exact e)) m.mw (.dk upd_same (.cons (.int _) .nil))
end
end Z
namespace Z
open PySem L2
section
variable {K : PySem.W.Frag} {fx : Fx} {E : Env} {Q : D → Env → Prop}
abbrev rDmU : List V → Hp → VK → Prop := fun xs H Q => ∃ i j, xs = [.int i, .int j] ∧ CDivP i j ∧ ∀ p, H p = none → Q (.ref p) (upd H p (.tup [.int (i / j), .int (i % j)]))
/-- divmod, the divisor of up to 200 bits -/
theorem rcb_divmod {i j : Int} (h0 : 0 < j) (hb : j < 2 ^ 200) (h : Q (.tup [.int (i / j), .int (i % j)]) E) : Rcb K fx rDmU [.int i, .int j] E Q := fun c G σ H X A vs r P k => by
  cases r with
  | cons r1 r =>
    cases r with
    | cons r2 r =>
      cases r
      cases r1; cases r2
      refine ⟨i, j, rfl, ⟨h0, ?_⟩, fun p hp => ?_⟩
      · refine PyProof.noPylong_of_log2 ?_
        have e : ((j.natAbs : Nat) : Int) = j := by omega
        have h2 : ((j.natAbs : Nat) : Int) < ((2 ^ 200 : Nat) : Int) := by rw [e]; exact_mod_cast hb
        have h3 : j.natAbs < 2 ^ 200 := by exact_mod_cast h2
        exact Nat.lt_trans ((Nat.log2_lt (by omega)).mpr h3) (by decide)
      · have m := Mv.laid (c := c) (o := HO.tup [V.int (i / j), V.int (i % j)]) A.ex hp
        exact k (.ref p) _ _ _ _ h (A.move0 m (fun a u e => by rw [upd_ne (ne_of_none e hp)]; exact e)) m.mw (.tup (.inl (.inl upd_same)) (.cons (.int _) (.cons (.int _) .nil)))
end
end Z
end
section
/-! texts read: walked by their signs, a sign in a text, a part, split, startswith, int(text) -/
namespace Z
open PySem L2
def ch (c : Nat) : Str := ⟨#[c]⟩
def chD (z : Str) : List D := z.cps.toList.map fun c => .str (ch c)
section
variable {K : PySem.W.Frag} {fx : Fx} {E : Env} {te tx : TE} {Q : D → Env → Prop} {O : List D → Env → Prop}
theorem walk_str {G : Hp} (z : Str) : Walk K G (chD z) (Its z) := by
  intro H i e
  have hl : (chD z).length = z.cps.size := by unfold chD; rw [List.length_map, Array.length_toList]
  refine ⟨fun hi => ⟨by rw [hl] at hi; exact hi, fun x H' ⟨e1, c, hc, ev⟩ => ?_⟩, fun hi => by rw [hl] at hi; exact hi⟩
  subst ev
  refine ⟨.str (ch c), ?_, .inl ⟨e1, .str _⟩⟩
  unfold chD
  rw [List.getElem?_map, Array.getElem?_toList, hc]
  rfl
theorem wi_str {Q : List D → Env → Prop} (h : We K fx te E fun d E' => ∃ z, d = .str z ∧ Q (chD z) E') : Wi K fx (iStr te) E Q := fun c G σ H X A R k =>
  h c G σ H X A _ fun v d E' G' H' q A' m r => by
    obtain ⟨z, rfl, q⟩ := q
    cases r
    exact ⟨z, rfl, k _ _ _ _ _ q A' m (walk_str z)⟩
theorem rop_inC {c : Nat} {z : Str} (h : Q (.bl (decide (c ∈ z.cps.toList))) E) : Rop K fx rInS (.str (ch c)) (.str z) E Q := fun cc G σ H X A v u rv ru P k => by
  cases rv; cases ru
  exact ⟨c, z, rfl, rfl, k _ _ _ _ _ h A Mw.refl (.bl _)⟩
abbrev rIntX : List V → Hp → VK → Prop := fun xs H Q => ∃ a n, xs = [.str a] ∧ PySem.intText? a = some n ∧ a.length ≤ 640 ∧ Q (.int n) H
theorem rcb_intX {a : Str} {n : Int} (hn : PySem.intText? a = some n) (hl : a.length ≤ 640) (h : Q (.int n) E) : Rcb K fx rIntX [.str a] E Q := fun c G σ H X A vs r P k => by
  cases r with
  | cons r1 r =>
    cases r
    cases r1
    exact ⟨a, n, rfl, hn, hl, k _ _ _ _ _ h A Mw.refl (.int _)⟩
theorem we_slX {tl th : TO} (h : We K fx te E fun d E1 => Wp K fx tl E1 fun lo E2 => Wp K fx th E2 fun hi E3 => ∃ z, d = .str z ∧ z.length ≤ 100000 ∧ Q (.str (cutS z lo hi)) E3) : We K fx (tSl (rSlU K) te tl th) E Q := fun c G σ H X A P k =>
  h c G σ H X A _ fun v d E1 G1 H1 q1 A1 m1 r1 => q1 c G1 σ H1 X A1 _ fun lo E2 G2 H2 q2 A2 m2 => q2 c G2 σ H2 X A2 _ fun hi E3 G3 H3 q3 A3 m3 => by
    obtain ⟨z, rfl, hl, q⟩ := q3
    cases r1
    exact .inr (.inr ⟨z, rfl, Nat.le_trans hl (by decide), k _ _ _ _ _ q A3 (m1.trans (m2.trans m3)) (.str _)⟩)
theorem rop_ixX {z : Str} {i : Int} {c : Nat} (e : atI z.cps.toList i = some c) (hl : z.length ≤ 100000) (h : Q (.str (ch c)) E) : Rop K fx (rIx K) (.str z) (.int i) E Q := fun cc G σ H X A v u rv ru P k => by
  cases rv; cases ru
  exact .inr (.inr ⟨z, i, c, rfl, rfl, Nat.le_trans hl (by decide), e, k _ _ _ _ _ h A Mw.refl (.str _)⟩)
abbrev rSplitX : V → List V → Hp → VK → Prop := fun x xs H Q => ∃ a b, x = .str a ∧ xs = [.str b] ∧ (b.length == 0) = false ∧ a.length + 2 ≤ sizeLine ∧ rNewStrs (Txt.split a b) H Q
theorem wo_split (h : We K fx te E fun d E1 => ∃ a, d = .str a ∧ We K fx tx E1 fun y E2 => ∃ b, y = .str b ∧ (b.length == 0) = false ∧ a.length ≤ 100000 ∧ O (ts (Txt.split a b)) E2) : Wo K fx (tM1 rSplitX te tx) E O := fun c G σ H X A P k =>
  h c G σ H X A _ fun v d E1 G1 H1 q1 A1 m1 r1 => by
    obtain ⟨a, rfl, q1⟩ := q1
    cases r1
    refine ⟨⟨a, rfl⟩, q1 c G1 σ H1 X A1 _ fun u y E2 G2 H2 q2 A2 m2 r2 => ?_⟩
    obtain ⟨b, rfl, hb, hl, q⟩ := q2
    cases r2
    refine ⟨a, b, rfl, rfl, hb, Nat.le_trans (Nat.add_le_add_right hl 2) (by decide), fun p hp => ?_⟩
    have m3 := Mv.hid (c := c) (o := HO.lst ((Txt.split a b).map V.str)) A2.ex hp
    refine k p _ _ _ _ _ q (A2.move0 m3 (fun a u e => by rw [upd_ne (ne_of_none e hp)]; exact e)) ((m1.trans m2).trans m3.mw) ⟨A2.ex.free hp, B_free A2 hp, own_free A2 hp⟩ upd_same ?_
    exact strs_rps (Txt.split a b)
abbrev rStartX : V → List V → Hp → VK → Prop := fun x xs H Q => ∃ a b, x = .str a ∧ xs = [.str b] ∧ Q (.bl (Txt.startswith a b)) H
theorem we_start (h : We K fx te E fun d E1 => ∃ a, d = .str a ∧ We K fx tx E1 fun y E2 => ∃ b, y = .str b ∧ Q (.bl (Txt.startswith a b)) E2) : We K fx (tM1 rStartX te tx) E Q := fun c G σ H X A P k =>
  h c G σ H X A _ fun v d E1 G1 H1 q1 A1 m1 r1 => by
    obtain ⟨a, rfl, q1⟩ := q1
    cases r1
    refine ⟨⟨a, rfl⟩, q1 c G1 σ H1 X A1 _ fun u y E2 G2 H2 q2 A2 m2 r2 => ?_⟩
    obtain ⟨b, rfl, q⟩ := q2
    cases r2
    exact ⟨a, b, rfl, rfl, k _ _ _ _ _ q A2 (m1.trans m2) (.bl _)⟩
end
end Z
namespace Z
open PySem PySem.Spec L2
/-- keywords, and defaults for what lacks: by places in what is written, the keywords, the defaults -/
theorem FunD_kbD {K : PySem.W.Frag} {x qual : Str} {params : Arguments} {body : List Stmt} {scope : Scope} {dvs : List V} {kws : List (Str × V)} {f : Addr} {fd : FuncData} {ps ks : List Str} {n : Nat} (F : FunD K x qual params body scope dvs kws f fd) (hd : dvs ≠ []) (l : List Nat)
    (h : ∀ (T : Addr) (kV doc pm : Value) (an : Option Addr) (cdv ct : Value) (us its ws : List Value), us.length = n → its.length = dvs.length → ws.length = ks.length →
      (∃ k, bindArgs (PySem.W.fnOf x qual params body scope (.ref T) kV doc pm an cdv ct) ⟨us, ks.zip ws⟩ = seqItems? (.ref T) >>= k ∧ k (some its.toArray) = pure (ps.zip (perm l us (ws ++ its)))) ∨
      bindArgs (PySem.W.fnOf x qual params body scope (.ref T) kV doc pm an cdv ct) ⟨us, ks.zip ws⟩ = pure (ps.zip (perm l us (ws ++ its)))) :
    ∃ ds, KBn K fd ps n ks (fun us ws => perm l us (ws ++ ds)) (fun vs zs => perm l vs (zs ++ dvs)) := by
  obtain ⟨oc, od, dV, kV, doc, pm, an, cdv, ct, osl, rfl, lk, hcd, hD, hK⟩ := F.ex
  rcases hD with ⟨e, _⟩ | ⟨_, T, o, its, m, rfl, lT, oT, rT⟩
  · exact absurd e hd
  · refine ⟨its, fun s us ws X l1 l2 => ?_, fun r q => perm_vals r (q.append rT)⟩
    rcases h T kV doc pm an cdv ct us its ws l1 rT.length.symm l2 with ⟨k, e1, e2⟩ | e
    · refine BindsTo.of_looks fun M => ?_
      rw [e1]
      exact looks_items X lT oT (.of_pure e2)
    · exact .of_eq e
theorem perm_cons {α : Type} {l : List Nat} {x : α} {us ws : List α} : perm (0 :: l.map (· + 1)) (x :: us) ws = x :: perm l us ws := by
  unfold perm
  rw [List.filterMap_cons]
  show x :: _ = _
  rw [List.filterMap_map]
  rfl
section
variable {α : Type} {K : PySem.W.Frag} {fx : Fx} {E : Env} {Q : D → Env → Prop}
theorem we_makeB {pm : Pi α} {EX : XK} {l : List Nat} {dvs : List V} (dds : List D) {n m : Nat} {C : Addr} {t tk : TA} (hdd : ∀ G, Rps K G dvs dds)
    (h : Wa K fx t E fun ds E1 => Wa K fx tk E1 fun es E2 => ds.length = n ∧ es.length = m ∧ ∃ a, perm l ds (es ++ dds) = pm.args a ∧ pm.pre a C ∧ (∀ fs, pm.post a C fs → Q (.ob C fs) E2) ∧ ∀ C' f, pm.exc a C C' f → EX = fx.EX ∧ fx.xp C' f E2.n) :
    We K fx (tMakeN C n m (spI K pm) (fun vs zs => perm (0 :: l.map (· + 1)) vs (zs ++ dvs)) EX t tk) E Q := fun c G σ H X A P k =>
  h c G σ H X A _ fun vs ds E1 G1 H1 q1 A1 m1 r1 => q1 c G1 σ H1 X A1 _ fun zs es E2 G2 H2 q2 A2 m2 r2 => by
    obtain ⟨l1, l2, a0, ea, p1, p2, p3⟩ := q2
    refine ⟨by rw [r1.length]; exact l1, by rw [r2.length]; exact l2, fun x dx hx hdx hne => ?_⟩
    have r3 := perm_rps (l := l) (r1.mono m2.ex) (r2.append (hdd G2))
    dsimp only
    rw [perm_cons]
    rw [ea] at r3
    exact make_core X A2 r3 p1 p2 p3 (fun v d E' G' H' q A' m r => k v d E' G' H' q A' ((m1.trans m2).trans m) r) x dx hx hdx hne
end
end Z
namespace Z
open PySem L2
section
variable {K : PySem.W.Frag} {fx : Fx} {E : Env} {ta tb tc : TE} {Q : D → Env → Prop}
/-- a < b < c -/
theorem we_chain {r r' : R2} (h : We K fx ta E fun x E1 => We K fx tb E1 fun y E2 => Rop K fx r x y E2 fun z E3 => ∃ k, z = .bl k ∧ (k = true → We K fx tc E3 fun w E4 => Rop K fx r' y w E4 Q) ∧ (k = false → Q (.bl false) E3)) : We K fx (tChain r r' ta tb tc) E Q := fun c G σ H X A P k =>
  h c G σ H X A _ fun v x E1 G1 H1 q1 A1 m1 r1 => q1 c G1 σ H1 X A1 _ fun u y E2 G2 H2 q2 A2 m2 r2 => q2 c G2 σ H2 X A2 v u (r1.mono m2.ex) r2 _ fun z d E3 G3 H3 q3 A3 m3 r3 => by
    obtain ⟨b, rfl, qt, qf⟩ := q3
    cases r3
    refine ⟨b, rfl, ?_⟩
    cases b with
    | true =>
      show tc σ H3 _
      exact qt rfl c G3 σ H3 X A3 _ fun w dw E4 G4 H4 q4 A4 m4 r4 => q4 c G4 σ H4 X A4 u w (r2.mono (m3.ex.trans m4.ex)) r4 P fun z d E5 G5 H5 q5 A5 m5 r5 => k z d E5 G5 H5 q5 A5 ((((m1.trans m2).trans m3).trans m4).trans m5) r5
    | false => exact k _ _ _ _ _ (qf rfl) A3 ((m1.trans m2).trans m3) (.bl _)
end
end Z
namespace Z
open PySem L2
section
variable {K : PySem.W.Frag} {fx : Fx} {E : Env}
theorem wg_tup3 {i j l n : Nat} {x y z : D} {Q : Env → Prop} (e : n = 3) (h : Q (((E.set i (.d x)).set j (.d y)).set l (.d z))) : Wg K fx [i, j, l] (gTup K n (gCons (gName i) (gCons (gName j) (gCons (gName l) gNil)))) (.tup [x, y, z]) E Q := by
  subst e
  exact wg_tup (js := [i] ++ ([j] ++ ([l] ++ []))) rfl (wgs_cons (wg_name (wgs_cons (wg_name (wgs_cons (wg_name (wgs_nil h)))))))
end
end Z
end
section
/-! the first item that stands twice: a set of keys that grows, hidden behind a slot -/
namespace Z
open PySem L2
def kD : Key → D
  | .inl i => .int i
  | .inr s => .str s
/-- the first of these keys that stood before, or none -/
def inK (k : Key) (seen : List Key) : Bool := seen.any fun j => decide (j = k)
theorem inK_iff {k : Key} {seen : List Key} : inK k seen = true ↔ k ∈ seen := by
  unfold inK
  rw [List.any_eq_true]
  exact ⟨fun ⟨x, h, e⟩ => by rw [← of_decide_eq_true e]; exact h, fun h => ⟨k, h, decide_eq_true rfl⟩⟩
def ft (seen : List Key) : List Key → D
  | [] => .non
  | k :: ks => if inK k seen = true then kD k else ft (k :: seen) ks
section
variable {K : PySem.W.Frag} {fx : Fx} {E : Env} {c : Cn} {G H : Hp} {σ : St}
theorem As.sideK (A : As K c G σ E H) {D : Addr} {o : HO} (ht : LamX.Tabs c.T (upd H D o)) (hB : c.B D = none) (hG : G D = none) (hF : c.F ≠ some D) (ho : ∀ (i : Nat), σ[i]? = some (some (V.ref D)) → ∀ s, E.sl[i]? = some s → ¬ isOwn s) : As K c G σ E (upd H D o) := by
  have hw : ∀ a u, H a = some u → a ≠ D → upd H D o a = some u := fun a u z y => by rw [upd_ne y]; exact z
  refine ⟨fun a u z => hw a u (A.ex a u z) fun y => (by subst y; rw [hG] at z; cases z), A.g0, fun a u z f kk => hw a u (A.keep a u z f kk) fun y => (by subst y; rw [hB] at z; cases z), A.sep, A.tB, A.len, fun i s e => ?_, A.ne, ?_, A.gt, A.st, ht⟩
  · have w := A.sl i s e
    cases s with
    | no => trivial
    | d x => exact w
    | own ds =>
      obtain ⟨p, vs, a1, a2, a3, a4, a5⟩ := w
      have : p ≠ D := fun q => by subst q; exact ho i (get_join.mp a1) _ e trivial
      exact ⟨p, vs, a1, a2, a3, hw _ _ a4 this, a5⟩
    | slf p C fs =>
      obtain ⟨dx, vs, a1, a2, a3, a4, a5⟩ := w
      have : p ≠ D := fun q => by subst q; exact ho i (get_join.mp a1) _ e trivial
      exact ⟨dx, vs, a1, a2, a3, hw _ _ a4 this, a5⟩
  · have T := A.tap
    unfold TapOk at T ⊢
    cases f : c.F with
    | none => trivial
    | some t =>
      rw [f] at T
      obtain ⟨spot, left, h1, h2⟩ := T
      exact ⟨spot, left, hw _ _ h1 (fun y => by subst y; exact hF f), h2⟩
theorem set_no {L : List Sl} {i : Nat} (h : L[i]? = some .no) : L.set i .no = L := by
  obtain ⟨hl, e⟩ := List.getElem?_eq_some_iff.mp h
  rw [← e]; exact List.set_getElem_self hl
theorem As.putNo (A : As K c G σ E H) {i : Nat} (v : Option V) (h : E.sl[i]? = some .no) : As K c G (σ.set i v) E H := by
  have A' := A.put i v .no trivial (fun o => o.elim)
  have e : E.set i .no = E := by
    show (⟨E.sl.set i .no, E.n⟩ : Env) = E
    rw [set_no h]
  rw [e] at A'
  exact A'
theorem rp_kD {v : V} {k : Key} (r : Rp K G v (kD k)) : v = kV k := by
  cases k <;> · cases r; rfl
theorem kD_rp (k : Key) : Rp K G (kV k) (kD k) := by
  cases k
  · exact .int _
  · exact .str _
theorem ws_twice {P : Program} {w : World} {v i j : Nat} {d : D} {ks : List Key} {Q : Po} (hij : i ≠ j) (hv : E.sl[v]? = some (.d d)) (hs : isSeq d (ks.map kD)) (hi : E.sl[i]? = some .no) (hj : E.sl[j]? = some .no) (hl : ks.length < 4000) (hQ : Q.rt (ft [] ks) E) :
    Ws K fx (tSeq (tAsg (tCB (rSet0K P w) tNil) (gName i)) (tSeq (tFor (Z.iAny K (tVar v)) (gName j) (tSeq (tIfS (tTest (tOp (rSInK P w false) (tVar j) (tVar i))) (tRet (tVar j)) tNext) (tDrop (tSAddK P w (tVar i) (tCons (tVar j) tNil))))) (tRet (tC V.non)))) E Q := fun c G σ H Z X A k => by
  generalize hr0 : ft [] ks = r0 at hQ
  have hvi : v ≠ i := fun e => by rw [e, hi] at hv; cases hv
  have hiσ : i < σ.length := by rw [A.len]; exact (List.getElem?_eq_some_iff.mp hi).1
  have hjσ : j < σ.length := by rw [A.len]; exact (List.getElem?_eq_some_iff.mp hj).1
  refine ⟨rfl, fun p hp => ?_⟩
  have hB := B_free A hp
  have hF : c.F ≠ some p := fun f => (A.tB p f).1 hB
  have hG : G p = none := A.ex.free hp
  have mv := Mv.hid (c := c) (o := SetK P w p (fun _ => false) 0) A.ex hp
  have A1 := (A.move0 mv (fun a u e => by rw [upd_ne (ne_of_none e hp)]; exact e)).putNo (some (V.ref p)) hi
  show tSeq _ _ _ _ _
  have main : ∀ J, Walk K G (ks.map kD) J → ∃ W : Nat → Nat → St → Hp → Prop, (∃ m, W 0 m (σ.set i (some (V.ref p))) (upd H p (SetK P w p (fun _ => false) 0))) ∧ ∀ n m σ2 H2, W n m σ2 H2 →
      (J.stop n H2 ∧ tRet (tC V.non) Z σ2 H2) ∨ (J.go n H2 ∧ ∃ N : St → Hp → Prop, (∀ σ' H', N σ' H' → ∃ m', m' < m ∧ W (n + 1) m' σ' H') ∧ ∀ x H', J.yld n H2 x H' → gName j x σ2 H' fun σ2 H2 => (tSeq (tIfS (tTest (tOp (rSInK P w false) (tVar j) (tVar i))) (tRet (tVar j)) tNext) (tDrop (tSAddK P w (tVar i) (tCons (tVar j) tNil)))) { Z with nx := N, ct := N, bk := tRet (tC V.non) Z } σ2 H2) := by
    intro J wk
    refine ⟨fun n m σ' H' => m = ks.length - n ∧ n ≤ ks.length ∧ As K c G σ' E H' ∧ σ'[i]? = some (some (V.ref p)) ∧ (∀ a u, H a = some u → H' a = some u) ∧ ∃ (S : Key → Bool) (z : Nat) (seen : List Key), H' p = some (SetK P w p S z) ∧ z ≤ n ∧ (∀ q, S q = true ↔ q ∈ seen) ∧ ft seen (ks.drop n) = r0,
      ⟨_, rfl, Nat.zero_le _, A1, List.getElem?_set_self hiσ, (fun a u e => by rw [upd_ne (ne_of_none e hp)]; exact e), _, 0, [], upd_same, Nat.le_refl _, (fun q => by simp), hr0⟩, ?_⟩
    rintro n m σ' H' ⟨rfl, hn, A', ei, hx, S, z, seen, hp', hz, hS, hft⟩
    obtain ⟨w1, w2⟩ := wk H' n A'.ex
    by_cases hlt : n < ks.length
    · obtain ⟨go, yl⟩ := w1 (by rw [List.length_map]; exact hlt)
      refine .inr ⟨go, fun σ' H' => n + 1 ≤ ks.length ∧ As K c G σ' E H' ∧ σ'[i]? = some (some (V.ref p)) ∧ (∀ a u, H a = some u → H' a = some u) ∧ ∃ (S : Key → Bool) (z : Nat) (seen : List Key), H' p = some (SetK P w p S z) ∧ z ≤ n + 1 ∧ (∀ q, S q = true ↔ q ∈ seen) ∧ ft seen (ks.drop (n + 1)) = r0, fun σ2 H2 y => ⟨ks.length - (n + 1), by omega, rfl, y⟩, fun x H2 y => ?_⟩
      obtain ⟨dx, ed, y⟩ := yl x H2 y
      have ek : ks[n]? = some ks[n] := List.getElem?_eq_getElem hlt
      rw [List.getElem?_map, ek] at ed
      cases ed
      generalize hk : ks[n] = kk at y ek
      have hdr : ks.drop n = kk :: ks.drop (n + 1) := by rw [← hk]; exact List.drop_eq_getElem_cons hlt
      rcases y with ⟨e, r⟩ | ⟨T, vs, ds, e1, e2, e3, e4, r⟩
      · subst e
        have ex := rp_kD r
        subst ex
        have A2 := A'.putNo (some (kV kk)) hj
        have hjl : j < σ'.length := by rw [A'.len]; exact (List.getElem?_eq_some_iff.mp hj).1
        have gj : (σ'.set j (some (kV kk)))[j]? = some (some (kV kk)) := List.getElem?_set_self hjl
        have gi : (σ'.set j (some (kV kk)))[i]? = some (some (V.ref p)) := by rw [List.getElem?_set_ne (fun e => hij e.symm)]; exact ei
        refine ⟨_, gj, _, gi, kk, p, S, z, rfl, rfl, hp', _, rfl, ?_⟩
        rw [hdr] at hft
        unfold ft at hft
        cases hb : S kk with
        | true =>
          rw [if_pos (inK_iff.mpr ((hS kk).mp hb))] at hft
          refine ⟨_, gj, ?_⟩
          exact k.rt _ _ _ _ _ _ (by rw [hft]; exact hQ) A2 (kD_rp kk)
        | false =>
          have hns : ¬ inK kk seen = true := fun q => by rw [(hS kk).mpr (inK_iff.mp q)] at hb; cases hb
          rw [if_neg hns] at hft
          refine ⟨_, gi, ⟨p, S, z, rfl, hp'⟩, _, gj, p, kk, S, z, rfl, rfl, hp', ?_, ?_⟩
          · unfold scanBound; omega
          · have ho : ∀ (q : Nat), (σ'.set j (some (kV kk)))[q]? = some (some (V.ref p)) → ∀ s, E.sl[q]? = some s → ¬ isOwn s := fun q eq s es o => by
              cases s with
              | no => exact o
              | d x => exact o
              | own ds =>
                obtain ⟨q2, vs, e1, _, _, h1, _⟩ := A2.own es
                rw [eq] at e1
                cases e1
                rw [hp'] at h1
                unfold SetK at h1
                cases h1
              | slf a C fs =>
                obtain ⟨q2, vs, e1, _, _, h1, _⟩ := A2.slf es
                rw [eq] at e1
                cases e1
                rw [hp'] at h1
                unfold SetK at h1
                cases h1
            refine ⟨by omega, A2.sideK (A.tb.ext fun a u e => by rw [upd_ne (ne_of_none e hp)]; exact hx a u e) hB hG hF ho, gi, (fun a u e => by rw [upd_ne (ne_of_none e hp)]; exact hx a u e), _, _, kk :: seen, upd_same, ?_, fun q => ?_, hft⟩
            · split <;> omega
            · rw [Bool.or_eq_true, hS q, decide_eq_true_eq, List.mem_cons]
              exact or_comm
      · cases kk <;> cases e4
    · have e : n = ks.length := by omega
      subst e
      refine .inl ⟨w2 (by rw [List.length_map]; exact Nat.le_refl _), ?_⟩
      rw [List.drop_length] at hft
      have hft' : r0 = .non := hft.symm
      exact k.rt _ _ _ _ _ _ (by rw [← hft']; exact hQ) A' .non
  have hd := A.sl v _ hv
  obtain ⟨u, eu, ru⟩ := hd
  have gv : (σ.set i (some (V.ref p)))[v]? = some (some u) := by rw [List.getElem?_set_ne (fun e => hvi e.symm)]; exact get_join.mp eu
  refine ⟨u, gv, ?_⟩
  rcases hs with e | e
  · subst e
    cases ru with
    | lst hl rs => exact .inl ⟨_, rfl, ⟨_, .inl (.inl (A1.ex _ _ hl))⟩, main _ (walk_l (.inr trivial) hl rs)⟩
  · subst e
    cases ru with
    | tup hl rs => exact .inr ⟨_, rfl, ⟨_, A1.ex.t hl⟩, main _ (walk_t hl rs)⟩
theorem rop_divN {i j : Int} {Q : D → Env → Prop} (hc : CDivN i j) (h : Q (.int (i.fdiv j)) E) : Rop K fx rDivU (.int i) (.int j) E Q := fun c G σ H X A v u rv ru P k => by
  cases rv; cases ru
  exact .inl ⟨i, j, rfl, rfl, hc, k _ _ _ _ _ h A Mw.refl (.int _)⟩
end
end Z
end
section
/-! list(text), text * integer, {text: integer} -/
namespace Z
open PySem L2
section
variable {X : Cx}
theorem vals_signs {x : Str} {acc : Array Value} (h : ItemsOf (SignAt x) acc x.cps.size) : Vals (x.cps.toList.map fun c => V.str (ch c)) acc.toList := by
  have e : acc.toList.length = x.cps.size := by rw [Array.length_toList]; exact h.1
  refine vals_of_at (by rw [List.length_map, Array.length_toList, e]) fun j y u h1 h2 => ?_
  obtain ⟨c, t, hc, rfl⟩ := h.2 j u (by rw [← h2, Array.getElem?_toList])
  rw [List.getElem?_map, Array.getElem?_toList, hc] at h1
  cases h1
  exact ⟨t, rfl⟩
def rListX : List V → Hp → VK → Prop := fun xs H Q => ∃ x : Str, xs = [.str x] ∧ x.length ≤ 100000 ∧ ∀ q, H q = none → Q (.ref q) (upd H q (.lst (x.cps.toList.map fun c => V.str (ch c))))
theorem call_listX (hc : X.calm = true) : CallR X (.type "list") rListX := by
  intro pins s σ H xs us Q I r h
  obtain ⟨x, rfl, hl, q⟩ := h
  obtain ⟨u, rfl, t, rfl⟩ := vals1 r
  have hz : x.cps.size ≤ sizeLine := by rw [sizeLine_eq]; exact Nat.le_trans hl (by decide)
  refine call_list_str (I.ok.hd hc) x t (hn := hz) fun h' tk acc c' hk e' hi => ?_
  refine ⟨.ref s.heap.objs.size, upd H s.heap.objs.size (.lst (x.cps.toList.map fun c => V.str (ch c))), I.laid hk (Nat.le_refl _) (show ObjOk X.prog X.w _ _ _ (.lst _) from ⟨?_, acc.toList, c', vals_signs hi, ?_⟩), rfl, q _ (I.hok.fresh (Nat.le_refl _))⟩
  · rw [List.length_map, Array.length_toList]; exact hz
  · rw [Array.toArray_toList]; exact e'
/-- a text so many times -/
def repS (z : Str) (k : Int) : Str := if k < 1 then Str.empty else if (k == 1 || z.length == 0) = true then z else ⟨(List.replicate k.toNat z.cps).foldl (· ++ ·) #[]⟩
theorem foldl_len (a : Array Nat) : ∀ (n : Nat) (b : Array Nat), ((List.replicate n a).foldl (· ++ ·) b).size = b.size + n * a.size
  | 0, b => by simp
  | n + 1, b => by
    rw [List.replicate_succ, List.foldl_cons, foldl_len a n, Array.size_append, Nat.succ_mul]
    omega
theorem foldl_list (a : Array Nat) : ∀ (n : Nat) (b : Array Nat), ((List.replicate n a).foldl (· ++ ·) b).toList = b.toList ++ (List.replicate n a.toList).flatten
  | 0, b => by simp
  | n + 1, b => by
    rw [List.replicate_succ, List.foldl_cons, foldl_list a n, Array.toList_append, List.replicate_succ, List.flatten_cons, List.append_assoc]
theorem repS_list {z : Str} {k : Int} : (repS z k).cps.toList = (List.replicate k.toNat z.cps.toList).flatten := by
  unfold repS
  split
  · rename_i h
    have : k.toNat = 0 := by omega
    rw [this]; rfl
  · split
    · rename_i h1 h2
      rw [Bool.or_eq_true, beq_iff_eq, beq_iff_eq] at h2
      rcases h2 with rfl | h2
      · simp
      · have e : z.cps.toList = [] := by
          apply List.eq_nil_of_length_eq_zero
          rw [Array.length_toList]; exact h2
        rw [e]
        simp
    · rw [foldl_list]; simp
def rMulS : R2 := fun x y H Q => ∃ z k, x = .str z ∧ y = .int k ∧ (-1000000 ≤ k ∧ k ≤ 1000) ∧ z.length ≤ 1000 ∧ Q (.str (repS z k)) H
theorem op_mulS : OpR X (binaryOp .Mult) rMulS := by
  intro pins s σ H x y v u Q I rx ry h
  obtain ⟨z, k, rfl, rfl, ⟨hk1, hk2⟩, hz, q⟩ := h
  obtain ⟨t, rfl⟩ := rx
  obtain ⟨t', rfl⟩ := ry
  have hm : z.length * k.toNat ≤ sizeLine := by
    rw [sizeLine_eq]
    exact Nat.le_trans (Nat.mul_le_mul hz (by omega : k.toNat ≤ 1000)) (by decide)
  refine P.mul_str ?_ (fun h1 h2 => ?_) (fun h1 h2 => ?_) ?_
  · rw [decide_eq_false (by omega : ¬ k < -(2 ^ 63 : Int)), decide_eq_false (by omega : ¬ k ≥ 2 ^ 63)]; rfl
  · have h3 : (1000 : Int) ≤ (2 ^ 63 - 1) / k := by
      rw [Int.le_ediv_iff_mul_le (by omega)]
      omega
    have h4 : (z.length : Int) ≤ 1000 := by omega
    omega
  · unfold Builtin.Str.tooLong
    rw [decide_eq_false_iff_not]
    omega
  · unfold repS at q
    split
    · rename_i h1
      rw [if_pos h1] at q
      exact ⟨by decide, .str _, H, I.tok _, ⟨_, rfl⟩, q⟩
    · rename_i h1
      rw [if_neg h1] at q
      split
      · rename_i h2
        rw [if_pos h2] at q
        exact ⟨.str _, H, I, ⟨_, rfl⟩, q⟩
      · rename_i h2
        rw [if_neg h2] at q
        refine ⟨?_, .str _, H, I.tok _, ⟨_, rfl⟩, q⟩
        show ((List.replicate k.toNat z.cps).foldl (· ++ ·) #[]).size ≤ sizeLine
        rw [foldl_len]
        simp only [Array.size_empty, Nat.zero_add]
        rw [Nat.mul_comm]
        exact hm
end
section
variable {K : PySem.W.Frag} {fx : Fx} {E : Env} {Q : D → Env → Prop} {O : List D → Env → Prop}
theorem rop_mulS {z : Str} {k : Int} (hk : -1000000 ≤ k ∧ k ≤ 1000) (hz : z.length ≤ 1000) (h : Q (.str (repS z k)) E) : Rop K fx rMulS (.str z) (.int k) E Q := fun c G σ H X A v u rv ru P q => by
  cases rv
  cases ru
  exact ⟨z, k, rfl, rfl, hk, hz, q _ _ _ _ _ h A Mw.refl (.str _)⟩
theorem rps_ch {G : Hp} : ∀ cs : List Nat, Rps K G (cs.map fun c => V.str (ch c)) (cs.map fun c => D.str (ch c))
  | [] => .nil
  | c :: cs => .cons (.str _) (rps_ch cs)
theorem rco_listX {x : Str} (hl : x.length ≤ 100000) (h : O (chD x) E) : Rco K fx rListX [.str x] E O := fun c G σ H X A vs r P k => by
  obtain ⟨v, rfl, rr⟩ := one r
  cases rr
  refine ⟨x, rfl, hl, fun p hp => ?_⟩
  have m := Mv.hid (c := c) (o := HO.lst (x.cps.toList.map fun c => V.str (ch c))) A.ex hp
  exact k p _ _ _ _ _ h (A.move0 m (fun a u e => by rw [upd_ne (ne_of_none e hp)]; exact e)) m.mw ⟨A.ex.free hp, B_free A hp, own_free A hp⟩ upd_same (rps_ch _)
theorem rcb_listX {x : Str} (hl : x.length ≤ 100000) (h : Q (.lst (chD x)) E) : Rcb K fx rListX [.str x] E Q := rcb_of (rco_listX hl h)
/-- {s: v}, v a name -/
theorem we_disS {s : Str} {d : D} {i : Nat} (hv : E.sl[i]? = some (.d d)) (h : Q (.dk [(Sum.inr s, d)]) E) : We K fx (tDisp [(tC (.str s), tVar i)]) E Q := fun c G σ H X A P k => by
  obtain ⟨v, e1, r⟩ := A.var hv
  intro p hp
  refine ⟨v, e1, ?_⟩
  show (upd H p (.dK [])) p = some (.dK []) ∧ ∃ kvs : List (Key × V), [(V.str s, v)] = kvs.map (fun kv => (kV kv.1, kv.2)) ∧ kvs.length ≤ 15 ∧ _
  refine ⟨upd_same, [(Sum.inr s, v)], rfl, by simp, ?_⟩
  have em : mergeK [] [((Sum.inr s : Key), v)] = [(Sum.inr s, v)] := by simp [mergeK, putK]
  rw [em]
  let kvs : List (Key × V) := [(Sum.inr s, v)]
  have e2 : upd (upd H p (.dK [])) p (.dK kvs) = upd H p (.dK kvs) := by
    funext a
    by_cases ha : a = p
    · subst ha; rw [upd_same, upd_same]
    · rw [upd_ne ha, upd_ne ha, upd_ne ha]
  show P (V.ref p) (upd (upd H p (.dK [])) p (.dK kvs))
  rw [e2]
  have m := Mv.laid (c := c) (o := HO.dK kvs) A.ex hp (fun _ e => by cases e)
  have x : Ex G (upd G p (.dK kvs)) := m.ex
  exact k (.ref p) _ _ _ _ h (A.move0 m (fun a u e => by rw [upd_ne (ne_of_none e hp)]; exact e)) m.mw (.dk upd_same (.cons (r.mono x) .nil))
theorem we_idxI {te tx : TE} (h : We K fx te E fun d E1 => ∃ xs : List Int, d = .lst (zs xs) ∧ We K fx tx E1 fun z E2 => ∃ (x : Int) (j : Nat), z = .int x ∧ xs[j]? = some x ∧ (∀ m, m < j → xs[m]? ≠ some x) ∧ Q (.int (j : Nat)) E2) :
    We K fx (tBM K "list" (rIndexD K) te (tCons tx tNil)) E Q := fun c G σ H X A P k => by
  refine h c G σ H X A _ fun v d E1 G1 H1 q1 A1 m1 r1 => ?_
  obtain ⟨xs, rfl, q1⟩ := q1
  cases r1 with
  | @lst a vs _ ha rs =>
    refine ⟨.inl ⟨rfl, vs, .inl (.inl (A1.ex _ _ ha))⟩, ?_⟩
    refine q1 c G1 σ H1 X A1 _ fun v2 d2 E2 G2 H2 q2 A2 m2 r2 => ?_
    obtain ⟨x, j, rfl, hj, hn, q3⟩ := q2
    have r2' := r2
    cases r2
    refine ⟨a, .int x, .int x, pys (zs xs), j, .int x, rfl, rfl, ?_, .int x, ?_, rfl, ?_, ?_, ?_, k _ _ _ _ _ q3 A2 (m1.trans m2) (.int _)⟩
    · exact .lst (.inl (.inl (A2.ex _ _ (m2.ex _ _ ha)))) ((rs.mono m2.ex).dp (n := 60) A2.ex (dats_zs _ _))
    · have e : py (.lst (zs xs)) = .list (pys (zs xs)) := by rw [py]
      have q := dat_ok (.lst (zs xs)) 60 (by simp only [dat]; exact dats_zs _ _)
      rw [e] at q
      have h2 : (PyData.list (pys (zs xs))).depth ≤ 64 := Nat.le_trans q.2 (by decide)
      exact Bool.and_eq_true_iff.mpr ⟨q.1, decide_eq_true h2⟩
    · rw [pys_get, zs_at hj]; rfl
    · simp [PyData.eqv]
    · intro m z' hm hz
      rw [pys_get] at hz
      obtain ⟨d, hd, rfl⟩ := Option.map_eq_some_iff.mp hz
      obtain ⟨y, hy, rfl⟩ := zs_get hd
      have : y ≠ x := fun e => hn m hm (by rw [hy, e])
      simp [py, PyData.eqv, this]
end
end Z
end
section
/-! tuples of integers that have no dict of their own: tuple(list), min, max, index -/
namespace Z
open PySem L2
/-- the object at a is a plain tuple of these integers -/
def pxT (ns : List Int) : Addr → HO → Prop := fun a o => ∃ oe : Obj, o = kept a oe ∧ oe.cls = .type "tuple" ∧ oe.dict = none ∧ ∃ (its : List Value) (n : Nat), oe.data = .seq its.toArray n ∧ Vals (ns.map V.int) its ∧ ns.length ≤ sizeLine
abbrev D.tpx (ns : List Int) : D := .px (pxT ns)
section
variable {X : Cx}
def rTupX (K : PySem.W.Frag) : List V → Hp → VK → Prop := fun xs H Q => ∃ p ns, xs = [.ref p] ∧ SqL K H p (ns.map V.int) ∧ ∀ l o, H l = none → pxT ns l o → Q (.ref l) (upd H l o)
theorem call_tupX : CallR X (.type "tuple") (rTupX X.K) := by
  intro pins s σ H xs us Q I r h
  obtain ⟨p, ns, rfl, hq, q⟩ := h
  obtain ⟨u, rfl, rx⟩ := vals1 r
  cases rx
  obtain ⟨its, r', pl, hz⟩ := I.list hq
  have hlen := r'.length
  rw [List.length_map] at hz hlen
  refine call_tuple_list pl.isList (fun h' kp => ?_) (by simp only [List.size_toArray] <;> omega)
  have I1 : Inv X pins σ H { s with heap := h' } := I.kept (t' := s.toks) kp
  have hg : (h'.push { cls := .type "tuple", data := .seq its.toArray }).get? h'.objs.size = some { cls := .type "tuple", data := .seq its.toArray } := Heap.get?_push_size _ rfl
  have I2 : Inv X pins σ (upd H h'.objs.size (kept h'.objs.size { cls := .type "tuple", data := .seq its.toArray })) { s with heap := h'.push { cls := .type "tuple", data := .seq its.toArray } } :=
    I1.laid (t' := s.toks) (fun b o e => Heap.get?_push_of_some _ e) (Nat.le_refl _) (show ObjOk X.prog X.w _ _ _ (kept _ _) from ⟨hg, ⟨_, hg⟩, fun h1 h2 z k => k _ z⟩)
  exact ⟨.ref h'.objs.size, _, I2, rfl, q _ _ (I1.hok.fresh (Nat.le_refl _)) ⟨_, rfl, rfl, rfl, its, 0, rfl, r', hz⟩⟩
theorem px_at {pins : List (Addr × Obj)} {σ : L2.St} {H : Hp} {s : Shared} {a : Addr} {o : HO} {ns : List Int} (I : Inv X pins σ H s) (h : H a = some o) (p : pxT ns a o) :
    ∃ (oe : Obj) (its : List Value) (n : Nat), s.heap.get? a = some oe ∧ oe.cls = .type "tuple" ∧ oe.dict = none ∧ oe.data = .seq its.toArray n ∧ Vals (ns.map V.int) its ∧ ns.length ≤ sizeLine := by
  obtain ⟨oe, rfl, hc, hd, its, n, h1, h2, h3⟩ := p
  exact ⟨oe, its, n, (I.hok a _ h).1, hc, hd, h1, h2, h3⟩
def rMinX : List V → Hp → VK → Prop := fun vs H Q => ∃ (a : Addr) (o : HO) (ns : List Int), vs = [V.ref a] ∧ H a = some o ∧ pxT ns a o ∧ 0 < ns.length ∧ ∀ m, m ∈ ns → (∀ y, y ∈ ns → m ≤ y) → Q (.int m) H
def rMaxX : List V → Hp → VK → Prop := fun vs H Q => ∃ (a : Addr) (o : HO) (ns : List Int), vs = [V.ref a] ∧ H a = some o ∧ pxT ns a o ∧ 0 < ns.length ∧ ∀ m, m ∈ ns → (∀ y, y ∈ ns → y ≤ m) → Q (.int m) H
theorem cr_minX (hc : X.calm = true) : CallR X (.builtin "min") rMinX := by
  intro pins s σ H vs us Q I r h
  obtain ⟨a, o, ns, rfl, ho, hp, hne, q⟩ := h
  obtain ⟨oe, its, n, hg, h1, h2, h3, rv, hz⟩ := px_at I ho hp
  rw [Vals.ref1 r]
  exact minT_raw (I.ok.hd hc) ⟨oe, hg, h1, n, h3⟩ rv.ints hne fun h' tk m t' hk h1 h2 => ⟨.int _, H, I.kept hk, ⟨_, rfl⟩, q m h1 h2⟩
theorem cr_maxX (hc : X.calm = true) : CallR X (.builtin "max") rMaxX := by
  intro pins s σ H vs us Q I r h
  obtain ⟨a, o, ns, rfl, ho, hp, hne, q⟩ := h
  obtain ⟨oe, its, n, hg, h1, h2, h3, rv, hz⟩ := px_at I ho hp
  rw [Vals.ref1 r]
  exact maxT_raw (I.ok.hd hc) ⟨oe, hg, h1, n, h3⟩ rv.ints hne fun h' tk m t' hk h1 h2 => ⟨.int _, H, I.kept hk, ⟨_, rfl⟩, q m h1 h2⟩
def tIdxX (to : TE) (t : TA) : TE := fun σ H Q => to σ H fun x H1 => ∃ a o ns, x = V.ref a ∧ H1 a = some o ∧ pxT ns a o ∧ t σ H1 fun xs H2 => ∃ k : Int, xs = [.int k] ∧ H2 a = some o ∧ k ∈ ns ∧ Q (.int (ns.idxOf k : Nat)) H2
theorem pe_idxX {o e : Expr} {es : List Expr} {to : TE} {t : TA} {apos cpos : Pos} (ho : PE X o to) (ha : PA X (e :: es) t)
    (hbase : attributeBase o "index" X.env (eval o X.env) = eval o X.env := by rfl)
    (hfew : ((backTo cpos (starEach (e :: es) X.env)).all (fun x => !x.1) && (backToKw cpos (keywordEach [] X.env)).all (fun x => x.1.isSome)
      && decide ((e :: es).length + ([] : List Keyword).length + (if ([] : List Keyword).isEmpty then 0 else 1) < 30)) = true := by rfl)
    (hline : (apos.endLine == cpos.line) = true := by rfl) (hs : starEach (e :: es) X.env = (false, eval e X.env) :: starEach es X.env := by rfl) (hplain : (backTo cpos (starEach es X.env)).any (·.1) = false := by rfl) :
    PE X (.Call (.Attribute o "index" apos) (e :: es) [] cpos) (tIdxX to t) := by
  refine ⟨fun pins s σ H Q I h => ?_⟩
  refine wpAny_Call_method_late hbase hfew hline rfl (thn (ho.run pins s σ H _ I h) fun v s1 ⟨x, H1, I1, r1, q1⟩ => ?_)
  obtain ⟨a, oo, ns, rfl, hO, hP, q1⟩ := q1
  cases r1
  obtain ⟨oe, its, n, hg, h1, h2, h3, rv, hz⟩ := px_at I1 hO hP
  refine ⟨"tuple", "tuple.index", PySem.F.plainAttrs_tuple, PySem.F.slot_tuple_index, PySem.F.type_tuple_index, ⟨oe, hg, h1⟩, fun b e => ?_, ?_⟩
  · cases e; exact ⟨oe, hg, h2⟩
  have hA := ha.run cpos pins s1 σ H1 _ I1 q1
  rw [hs] at hA ⊢
  refine Calls.callWith_builtin (by show (false || (backTo cpos (starEach es X.env)).any (·.1)) = false; rw [hplain] <;> rfl) (Calls.evalArgs_plain ?_)
  refine thn hA fun us s2 ⟨vs, H2, I2, r2, k, ev, hO2, hk, q2⟩ => ?_
  subst ev
  obtain ⟨u, rfl, t, rfl⟩ := vals1 r2
  obtain ⟨oe2, its2, n2, hg2, c1, c2, c3, rv2, _⟩ := px_at I2 hO2 hP
  exact SeqAt.call_tuple_index (l := a) (vs := its2) (ks := ns) ⟨oe2, hg2, c1, n2, c3⟩ (SeqAt.ItemsEq.ints rv2.ints) hk ⟨.int _, H2, I2.tok _, ⟨_, rfl⟩, q2⟩
end
section
variable {K : PySem.W.Frag} {fx : Fx} {E : Env} {te tx : TE} {Q : D → Env → Prop}
theorem rcb_tupX {ns : List Int} (h : Q (.tpx ns) E) : Rcb K fx (rTupX K) [.lst (zs ns)] E Q := fun c G σ H X A vs r P k => by
  obtain ⟨v, rfl, rr⟩ := one r
  cases rr with
  | @lst a us _ h1 r1 =>
    have e := rps_ints r1
    subst e
    refine ⟨a, ns, rfl, .inl (.inl (A.ex _ _ h1)), fun l o hl hp => ?_⟩
    have ho : ∀ ps, o ≠ .tbl ps := by
      obtain ⟨oe, rfl, _⟩ := hp
      exact fun _ e => by cases e
    have m := Mv.laid (c := c) (o := o) A.ex hl ho
    exact k (.ref l) _ _ _ _ h (A.move0 m (fun a u e => by rw [upd_ne (ne_of_none e hl)]; exact e)) m.mw (.px upd_same hp)
theorem rcb_minX {ns : List Int} (hn : 0 < ns.length) (h : ∀ m ∈ ns, (∀ y ∈ ns, m ≤ y) → Q (.int m) E) : Rcb K fx rMinX [.tpx ns] E Q := fun c G σ H X A vs r P k => by
  obtain ⟨v, rfl, rr⟩ := one r
  cases rr with
  | @px a o _ h1 h2 => exact ⟨a, o, ns, rfl, A.ex _ _ h1, h2, hn, fun m h3 h4 => k _ _ _ _ _ (h m h3 h4) A Mw.refl (.int _)⟩
theorem rcb_maxX {ns : List Int} (hn : 0 < ns.length) (h : ∀ m ∈ ns, (∀ y ∈ ns, y ≤ m) → Q (.int m) E) : Rcb K fx rMaxX [.tpx ns] E Q := fun c G σ H X A vs r P k => by
  obtain ⟨v, rfl, rr⟩ := one r
  cases rr with
  | @px a o _ h1 h2 => exact ⟨a, o, ns, rfl, A.ex _ _ h1, h2, hn, fun m h3 h4 => k _ _ _ _ _ (h m h3 h4) A Mw.refl (.int _)⟩
theorem we_idxX (h : We K fx te E fun d E1 => ∃ ns : List Int, d = .tpx ns ∧ We K fx tx E1 fun z E2 => ∃ k : Int, z = .int k ∧ k ∈ ns ∧ Q (.int (ns.idxOf k : Nat)) E2) : We K fx (tIdxX te (tCons tx tNil)) E Q := fun c G σ H X A P k => by
  refine h c G σ H X A _ fun v d E1 G1 H1 q1 A1 m1 r1 => ?_
  obtain ⟨ns, rfl, q1⟩ := q1
  cases r1 with
  | @px a o _ h1 h2 =>
    refine ⟨a, o, ns, rfl, A1.ex _ _ h1, h2, ?_⟩
    refine q1 c G1 σ H1 X A1 _ fun v2 d2 E2 G2 H2 q2 A2 m2 r2 => ?_
    obtain ⟨x, rfl, hx, q3⟩ := q2
    cases r2
    exact ⟨x, rfl, A2.ex _ _ (m2.ex _ _ h1), hx, k _ _ _ _ _ q3 A2 (m1.trans m2) (.int _)⟩
end
end Z
end
section
namespace Lw
open PySem L2

def top (i : Nat) : Stmt := PySem.Challenge.pw_anyseven_k07_least_and_greatest_sums.main.body.getD i (.Pass ⟨0, 0, 0, 0⟩)
abbrev s_is_integer : Stmt := top 9
abbrev N_is_integer : List Str := ["value"]
theorem sc_is_integer : FnScope N_is_integer ["value"] (defScope s_is_integer) := ⟨rfl, rfl, rfl, by decide +kernel, rfl, by decide +kernel, by decide +kernel⟩
def d_is_integer : He.DefD := ⟨("is_integer", none), "is_integer", "is_integer", defArgs s_is_integer, defBody s_is_integer, defScope s_is_integer, [], []⟩
abbrev s_is_within : Stmt := top 10
abbrev N_is_within : List Str := ["value", "least", "most"]
theorem sc_is_within : FnScope N_is_within ["value", "least", "most"] (defScope s_is_within) := ⟨rfl, rfl, rfl, by decide +kernel, rfl, by decide +kernel, by decide +kernel⟩
def d_is_within : He.DefD := ⟨("is_within", none), "is_within", "is_within", defArgs s_is_within, defBody s_is_within, defScope s_is_within, [], []⟩
abbrev s_need_number : Stmt := top 12
abbrev N_need_number : List Str := ["value", "part", "least", "most"]
theorem sc_need_number : FnScope N_need_number ["value", "part", "least", "most"] (defScope s_need_number) := ⟨rfl, rfl, rfl, by decide +kernel, rfl, by decide +kernel, by decide +kernel⟩
def d_need_number : He.DefD := ⟨("need_number", none), "need_number", "need_number", defArgs s_need_number, defBody s_need_number, defScope s_need_number, [.non, .non], []⟩
abbrev s_Row_need_stretch : Stmt := inClass (top 23) 6
abbrev N_Row_need_stretch : List Str := ["self", "begin", "length"]
theorem sc_Row_need_stretch : FnScope N_Row_need_stretch ["self", "begin", "length"] (defScope s_Row_need_stretch) := ⟨rfl, rfl, rfl, by decide +kernel, rfl, by decide +kernel, by decide +kernel⟩
def d_Row_need_stretch : He.DefD := ⟨("Row", some "_need_stretch"), "_need_stretch", "Row._need_stretch", defArgs s_Row_need_stretch, defBody s_Row_need_stretch, defScope s_Row_need_stretch, [], []⟩
abbrev s_Row_sum_of : Stmt := inClass (top 23) 4
abbrev N_Row_sum_of : List Str := ["self", "begin", "length"]
theorem sc_Row_sum_of : FnScope N_Row_sum_of ["self", "begin", "length"] (defScope s_Row_sum_of) := ⟨rfl, rfl, rfl, by decide +kernel, rfl, by decide +kernel, by decide +kernel⟩
def d_Row_sum_of : He.DefD := ⟨("Row", some "sum_of"), "sum_of", "Row.sum_of", defArgs s_Row_sum_of, defBody s_Row_sum_of, defScope s_Row_sum_of, [], []⟩
abbrev s_need_row : Stmt := top 26
abbrev N_need_row : List Str := ["value", "part"]
theorem sc_need_row : FnScope N_need_row ["value", "part"] (defScope s_need_row) := ⟨rfl, rfl, rfl, by decide +kernel, rfl, by decide +kernel, by decide +kernel⟩
def d_need_row : He.DefD := ⟨("need_row", none), "need_row", "need_row", defArgs s_need_row, defBody s_need_row, defScope s_need_row, [], []⟩
abbrev s_sums : Stmt := top 29
abbrev N_sums : List Str := ["row", "length", "begin"]
theorem sc_sums : FnScope N_sums ["row", "length"] (defScope s_sums) := ⟨rfl, rfl, rfl, by decide +kernel, rfl, by decide +kernel, by decide +kernel⟩
def d_sums : He.DefD := ⟨("sums", none), "sums", "sums", defArgs s_sums, defBody s_sums, defScope s_sums, [], []⟩
abbrev s_greatest_sum : Stmt := top 33
abbrev N_greatest_sum : List Str := ["row", "length", "found", "greatest"]
theorem sc_greatest_sum : FnScope N_greatest_sum ["row", "length"] (defScope s_greatest_sum) := ⟨rfl, rfl, rfl, by decide +kernel, rfl, by decide +kernel, by decide +kernel⟩
def d_greatest_sum : He.DefD := ⟨("greatest_sum", none), "greatest_sum", "greatest_sum", defArgs s_greatest_sum, defBody s_greatest_sum, defScope s_greatest_sum, [], []⟩
abbrev s_least_sum : Stmt := top 32
abbrev N_least_sum : List Str := ["row", "length", "found", "least"]
theorem sc_least_sum : FnScope N_least_sum ["row", "length"] (defScope s_least_sum) := ⟨rfl, rfl, rfl, by decide +kernel, rfl, by decide +kernel, by decide +kernel⟩
def d_least_sum : He.DefD := ⟨("least_sum", none), "least_sum", "least_sum", defArgs s_least_sum, defBody s_least_sum, defScope s_least_sum, [], []⟩
abbrev s_heights_of : Stmt := top 24
abbrev N_heights_of : List Str := ["gains", "heights", "gain"]
theorem sc_heights_of : FnScope N_heights_of ["gains"] (defScope s_heights_of) := ⟨rfl, rfl, rfl, by decide +kernel, rfl, by decide +kernel, by decide +kernel⟩
def d_heights_of : He.DefD := ⟨("heights_of", none), "heights_of", "heights_of", defArgs s_heights_of, defBody s_heights_of, defScope s_heights_of, [], []⟩
abbrev s_are_integers : Stmt := top 11
abbrev N_are_integers : List Str := ["value", "item"]
theorem sc_are_integers : FnScope N_are_integers ["value"] (defScope s_are_integers) := ⟨rfl, rfl, rfl, by decide +kernel, rfl, by decide +kernel, by decide +kernel⟩
def d_are_integers : He.DefD := ⟨("are_integers", none), "are_integers", "are_integers", defArgs s_are_integers, defBody s_are_integers, defScope s_are_integers, [], []⟩
abbrev s_Row_init : Stmt := inClass (top 23) 0
abbrev N_Row_init : List Str := ["self", "gains"]
theorem sc_Row_init : FnScope N_Row_init ["self", "gains"] (defScope s_Row_init) := ⟨rfl, rfl, rfl, by decide +kernel, rfl, by decide +kernel, by decide +kernel⟩
def d_Row_init : He.DefD := ⟨("Row", some "__init__"), "__init__", "Row.__init__", defArgs s_Row_init, defBody s_Row_init, defScope s_Row_init, [], []⟩
abbrev s_Row_plus : Stmt := inClass (top 23) 9
abbrev N_Row_plus : List Str := ["self", "number", "gain"]
theorem sc_Row_plus : FnScope N_Row_plus ["self", "number"] (defScope s_Row_plus) := ⟨rfl, rfl, rfl, by decide +kernel, rfl, by decide +kernel, by decide +kernel⟩
def d_Row_plus : He.DefD := ⟨("Row", some "plus"), "plus", "Row.plus", defArgs s_Row_plus, defBody s_Row_plus, defScope s_Row_plus, [], []⟩
abbrev s_Row_backwards : Stmt := inClass (top 23) 7
abbrev N_Row_backwards : List Str := ["self"]
theorem sc_Row_backwards : FnScope N_Row_backwards ["self"] (defScope s_Row_backwards) := ⟨rfl, rfl, rfl, by decide +kernel, rfl, by decide +kernel, by decide +kernel⟩
def d_Row_backwards : He.DefD := ⟨("Row", some "backwards"), "backwards", "Row.backwards", defArgs s_Row_backwards, defBody s_Row_backwards, defScope s_Row_backwards, [], []⟩
abbrev s_Row_times : Stmt := inClass (top 23) 8
abbrev N_Row_times : List Str := ["self", "number", "gain"]
theorem sc_Row_times : FnScope N_Row_times ["self", "number"] (defScope s_Row_times) := ⟨rfl, rfl, rfl, by decide +kernel, rfl, by decide +kernel, by decide +kernel⟩
def d_Row_times : He.DefD := ⟨("Row", some "times"), "times", "Row.times", defArgs s_Row_times, defBody s_Row_times, defScope s_Row_times, [], []⟩
abbrev s_word_of : Stmt := top 31
abbrev N_word_of : List Str := ["found", "least", "greatest"]
theorem sc_word_of : FnScope N_word_of ["found"] (defScope s_word_of) := ⟨rfl, rfl, rfl, by decide +kernel, rfl, by decide +kernel, by decide +kernel⟩
def d_word_of : He.DefD := ⟨("word_of", none), "word_of", "word_of", defArgs s_word_of, defBody s_word_of, defScope s_word_of, [], []⟩
abbrev s_sort_of : Stmt := top 30
abbrev N_sort_of : List Str := ["row", "length"]
theorem sc_sort_of : FnScope N_sort_of ["row", "length"] (defScope s_sort_of) := ⟨rfl, rfl, rfl, by decide +kernel, rfl, by decide +kernel, by decide +kernel⟩
def d_sort_of : He.DefD := ⟨("sort_of", none), "sort_of", "sort_of", defArgs s_sort_of, defBody s_sort_of, defScope s_sort_of, [], []⟩
abbrev s_Lsort_due : Stmt := top 41
abbrev N_Lsort_due : List Str := ["_law_least", "_law_most"]
theorem sc_Lsort_due : FnScope N_Lsort_due ["_law_least", "_law_most"] (defScope s_Lsort_due) := ⟨rfl, rfl, rfl, by decide +kernel, rfl, by decide +kernel, by decide +kernel⟩
def d_Lsort_due : He.DefD := ⟨("_law_sort_due", none), "_law_sort_due", "_law_sort_due", defArgs s_Lsort_due, defBody s_Lsort_due, defScope s_Lsort_due, [], []⟩
abbrev s_Lends : Stmt := top 40
abbrev N_Lends : List Str := ["_law_gains_here", "_law_length", "_law_total", "_law_least", "_law_most", "_law_last", "_law_far", "_law_begin"]
theorem sc_Lends : FnScope N_Lends ["_law_gains_here", "_law_length"] (defScope s_Lends) := ⟨rfl, rfl, rfl, by decide +kernel, rfl, by decide +kernel, by decide +kernel⟩
def d_Lends : He.DefD := ⟨("_law_ends", none), "_law_ends", "_law_ends", defArgs s_Lends, defBody s_Lends, defScope s_Lends, [], []⟩
abbrev s_Ldrip : Stmt := top 36
abbrev N_Ldrip : List Str := ["_law_tap_here", "_law_many", "_law_digit", "_law_at", "_law_cell", "_law_great", "_law_mixed"]
theorem sc_Ldrip : FnScope N_Ldrip ["_law_tap_here", "_law_many"] (defScope s_Ldrip) := ⟨rfl, rfl, rfl, by decide +kernel, rfl, by decide +kernel, by decide +kernel⟩
def d_Ldrip : He.DefD := ⟨("_law_drip", none), "_law_drip", "_law_drip", defArgs s_Ldrip, defBody s_Ldrip, defScope s_Ldrip, [], []⟩
abbrev s_Lany : Stmt := top 37
abbrev N_Lany : List Str := ["_law_tap_here", "_law_some"]
theorem sc_Lany : FnScope N_Lany ["_law_tap_here", "_law_some"] (defScope s_Lany) := ⟨rfl, rfl, rfl, by decide +kernel, rfl, by decide +kernel, by decide +kernel⟩
def d_Lany : He.DefD := ⟨("_law_any", none), "_law_any", "_law_any", defArgs s_Lany, defBody s_Lany, defScope s_Lany, [], []⟩
abbrev s_Llength_right : Stmt := top 42
abbrev N_Llength_right : List Str := ["_law_tap_here", "_law_gains_here", "_law_length", "_law_row", "_law_days", "_law_more", "_law_least", "_law_most", "_law_last", "_law_far", "_law_contrary", "_law_back", "_law_higher"]
theorem sc_Llength_right : FnScope N_Llength_right ["_law_tap_here", "_law_gains_here", "_law_length"] (defScope s_Llength_right) := ⟨rfl, rfl, rfl, by decide +kernel, rfl, by decide +kernel, by decide +kernel⟩
def d_Llength_right : He.DefD := ⟨("_law_length_right", none), "_law_length_right", "_law_length_right", defArgs s_Llength_right, defBody s_Llength_right, defScope s_Llength_right, [], []⟩
abbrev s_Lknown : Stmt := top 39
abbrev N_Lknown : List Str := ["_law_tap_here"]
theorem sc_Lknown : FnScope N_Lknown ["_law_tap_here"] (defScope s_Lknown) := ⟨rfl, rfl, rfl, by decide +kernel, rfl, by decide +kernel, by decide +kernel⟩
def d_Lknown : He.DefD := ⟨("_law_known", none), "_law_known", "_law_known", defArgs s_Lknown, defBody s_Lknown, defScope s_Lknown, [], []⟩
abbrev s_Lgains : Stmt := top 38
abbrev N_Lgains : List Str := ["_law_tap_here", "_law_days", "_law_way", "_law_few", "_law_found", "_law_at", "_law_day"]
theorem sc_Lgains : FnScope N_Lgains ["_law_tap_here", "_law_days"] (defScope s_Lgains) := ⟨rfl, rfl, rfl, by decide +kernel, rfl, by decide +kernel, by decide +kernel⟩
def d_Lgains : He.DefD := ⟨("_law_gains", none), "_law_gains", "_law_gains", defArgs s_Lgains, defBody s_Lgains, defScope s_Lgains, [], []⟩
abbrev s_Ltap : Stmt := top 35
abbrev N_Ltap : List Str := ["_law_script", "_law_cell"]
theorem sc_Ltap : FnScope N_Ltap ["_law_script"] (defScope s_Ltap) := ⟨rfl, rfl, rfl, by decide +kernel, rfl, by decide +kernel, by decide +kernel⟩
def d_Ltap : He.DefD := ⟨("_law_tap", none), "_law_tap", "_law_tap", defArgs s_Ltap, defBody s_Ltap, defScope s_Ltap, [], []⟩
abbrev s_law : Stmt := top 43
abbrev N_law : List Str := ["_law_script", "_law_tap_here", "_law_turn", "_law_gains_here", "_law_days", "_law_lengths", "_law_length", "_law_draw"]
theorem sc_law : FnScope N_law ["_law_script"] (defScope s_law) := ⟨rfl, rfl, rfl, by decide +kernel, rfl, by decide +kernel, by decide +kernel⟩
def d_law : He.DefD := ⟨("law", none), "law", "law", defArgs s_law, defBody s_law, defScope s_law, [], []⟩
structure Tx (K : PySem.W.Frag) (mg : Str → Option Value) : Prop where
  g_is_integer : mg "is_integer" = some (.ref (He.ga K "is_integer"))
  g_is_within : mg "is_within" = some (.ref (He.ga K "is_within"))
  g_need_number : mg "need_number" = some (.ref (He.ga K "need_number"))
  g_need_row : mg "need_row" = some (.ref (He.ga K "need_row"))
  g_sums : mg "sums" = some (.ref (He.ga K "sums"))
  g_greatest_sum : mg "greatest_sum" = some (.ref (He.ga K "greatest_sum"))
  g_least_sum : mg "least_sum" = some (.ref (He.ga K "least_sum"))
  g_heights_of : mg "heights_of" = some (.ref (He.ga K "heights_of"))
  g_are_integers : mg "are_integers" = some (.ref (He.ga K "are_integers"))
  g_word_of : mg "word_of" = some (.ref (He.ga K "word_of"))
  g_sort_of : mg "sort_of" = some (.ref (He.ga K "sort_of"))
  g_Lsort_due : mg "_law_sort_due" = some (.ref (He.ga K "_law_sort_due"))
  g_Lends : mg "_law_ends" = some (.ref (He.ga K "_law_ends"))
  g_Ldrip : mg "_law_drip" = some (.ref (He.ga K "_law_drip"))
  g_Lany : mg "_law_any" = some (.ref (He.ga K "_law_any"))
  g_Llength_right : mg "_law_length_right" = some (.ref (He.ga K "_law_length_right"))
  g_Lknown : mg "_law_known" = some (.ref (He.ga K "_law_known"))
  g_Lgains : mg "_law_gains" = some (.ref (He.ga K "_law_gains"))
  g_Ltap : mg "_law_tap" = some (.ref (He.ga K "_law_tap"))
  g_law : mg "law" = some (.ref (He.ga K "law"))
  g_Row : mg "Row" = some (.ref (He.ga K "Row"))
  f_len : mg "len" = none
  f_range : mg "range" = none
  f_isinstance : mg "isinstance" = none
  f_int : mg "int" = none
  f_bool : mg "bool" = none
  f_list : mg "list" = none
  f_tuple : mg "tuple" = none
  f_sum : mg "sum" = none
  f_min : mg "min" = none
  f_max : mg "max" = none
  f_abs : mg "abs" = none
  f_all : mg "all" = none
  f_any : mg "any" = none
  f_str : mg "str" = none
  f_divmod : mg "divmod" = none
  f_sorted : mg "sorted" = none
  f_set : mg "set" = none
  f_enumerate : mg "enumerate" = none
  f_zip : mg "zip" = none
  f_reversed : mg "reversed" = none
  f_type : mg "type" = none
  f_dict : mg "dict" = none
  c_DIGITS : ∃ t, mg "DIGITS" = some (.str "0123456789" t)
  c_MOST_DIGITS : ∃ t, mg "MOST_DIGITS" = some (.int 60 t)
  c_MOST_DAYS : ∃ t, mg "MOST_DAYS" = some (.int 48 t)
  cl_Row : Cls K (He.ga K "Row")
  mk_Row : Mk K (He.ga K "Row") (He.ma K (He.ga K "Row") "__init__")
  ob_Row : Z.ObT K (He.ga K "Row")
  na_Row_gains : NoAttr K (He.ga K "Row") "gains"
  na_Row_heights : NoAttr K (He.ga K "Row") "heights"
  na_Row_days : NoAttr K (He.ga K "Row") "days"
  na_Row_total : NoAttr K (He.ga K "Row") "total"
  m_Row_need_stretch : Meth K (He.ga K "Row") "_need_stretch" (He.ma K (He.ga K "Row") "_need_stretch")
  m_Row_sum_of : Meth K (He.ga K "Row") "sum_of" (He.ma K (He.ga K "Row") "sum_of")
  m_Row_plus : Meth K (He.ga K "Row") "plus" (He.ma K (He.ga K "Row") "plus")
  m_Row_backwards : Meth K (He.ga K "Row") "backwards" (He.ma K (He.ga K "Row") "backwards")
  m_Row_times : Meth K (He.ga K "Row") "times" (He.ma K (He.ga K "Row") "times")
  kt_0 : PySem.W.kitOne K (.type "int") (.ref (He.ga K "Row")) = some false
  kt_1 : PySem.W.kitOne K (.type "int") (.type "int") = some true
  d_is_integer : ∃ fd, FunD K d_is_integer.name d_is_integer.qual d_is_integer.params d_is_integer.body d_is_integer.scope (d_is_integer.dvs K) (d_is_integer.kws K) (He.fAd K d_is_integer.at_) fd
  d_is_within : ∃ fd, FunD K d_is_within.name d_is_within.qual d_is_within.params d_is_within.body d_is_within.scope (d_is_within.dvs K) (d_is_within.kws K) (He.fAd K d_is_within.at_) fd
  d_need_number : ∃ fd, FunD K d_need_number.name d_need_number.qual d_need_number.params d_need_number.body d_need_number.scope (d_need_number.dvs K) (d_need_number.kws K) (He.fAd K d_need_number.at_) fd
  d_Row_need_stretch : ∃ fd, FunD K d_Row_need_stretch.name d_Row_need_stretch.qual d_Row_need_stretch.params d_Row_need_stretch.body d_Row_need_stretch.scope (d_Row_need_stretch.dvs K) (d_Row_need_stretch.kws K) (He.fAd K d_Row_need_stretch.at_) fd
  d_Row_sum_of : ∃ fd, FunD K d_Row_sum_of.name d_Row_sum_of.qual d_Row_sum_of.params d_Row_sum_of.body d_Row_sum_of.scope (d_Row_sum_of.dvs K) (d_Row_sum_of.kws K) (He.fAd K d_Row_sum_of.at_) fd
  d_need_row : ∃ fd, FunD K d_need_row.name d_need_row.qual d_need_row.params d_need_row.body d_need_row.scope (d_need_row.dvs K) (d_need_row.kws K) (He.fAd K d_need_row.at_) fd
  d_sums : ∃ fd, FunD K d_sums.name d_sums.qual d_sums.params d_sums.body d_sums.scope (d_sums.dvs K) (d_sums.kws K) (He.fAd K d_sums.at_) fd
  d_greatest_sum : ∃ fd, FunD K d_greatest_sum.name d_greatest_sum.qual d_greatest_sum.params d_greatest_sum.body d_greatest_sum.scope (d_greatest_sum.dvs K) (d_greatest_sum.kws K) (He.fAd K d_greatest_sum.at_) fd
  d_least_sum : ∃ fd, FunD K d_least_sum.name d_least_sum.qual d_least_sum.params d_least_sum.body d_least_sum.scope (d_least_sum.dvs K) (d_least_sum.kws K) (He.fAd K d_least_sum.at_) fd
  d_heights_of : ∃ fd, FunD K d_heights_of.name d_heights_of.qual d_heights_of.params d_heights_of.body d_heights_of.scope (d_heights_of.dvs K) (d_heights_of.kws K) (He.fAd K d_heights_of.at_) fd
  d_are_integers : ∃ fd, FunD K d_are_integers.name d_are_integers.qual d_are_integers.params d_are_integers.body d_are_integers.scope (d_are_integers.dvs K) (d_are_integers.kws K) (He.fAd K d_are_integers.at_) fd
  d_Row_init : ∃ fd, FunD K d_Row_init.name d_Row_init.qual d_Row_init.params d_Row_init.body d_Row_init.scope (d_Row_init.dvs K) (d_Row_init.kws K) (He.fAd K d_Row_init.at_) fd
  d_Row_plus : ∃ fd, FunD K d_Row_plus.name d_Row_plus.qual d_Row_plus.params d_Row_plus.body d_Row_plus.scope (d_Row_plus.dvs K) (d_Row_plus.kws K) (He.fAd K d_Row_plus.at_) fd
  d_Row_backwards : ∃ fd, FunD K d_Row_backwards.name d_Row_backwards.qual d_Row_backwards.params d_Row_backwards.body d_Row_backwards.scope (d_Row_backwards.dvs K) (d_Row_backwards.kws K) (He.fAd K d_Row_backwards.at_) fd
  d_Row_times : ∃ fd, FunD K d_Row_times.name d_Row_times.qual d_Row_times.params d_Row_times.body d_Row_times.scope (d_Row_times.dvs K) (d_Row_times.kws K) (He.fAd K d_Row_times.at_) fd
  d_word_of : ∃ fd, FunD K d_word_of.name d_word_of.qual d_word_of.params d_word_of.body d_word_of.scope (d_word_of.dvs K) (d_word_of.kws K) (He.fAd K d_word_of.at_) fd
  d_sort_of : ∃ fd, FunD K d_sort_of.name d_sort_of.qual d_sort_of.params d_sort_of.body d_sort_of.scope (d_sort_of.dvs K) (d_sort_of.kws K) (He.fAd K d_sort_of.at_) fd
  d_Lsort_due : ∃ fd, FunD K d_Lsort_due.name d_Lsort_due.qual d_Lsort_due.params d_Lsort_due.body d_Lsort_due.scope (d_Lsort_due.dvs K) (d_Lsort_due.kws K) (He.fAd K d_Lsort_due.at_) fd
  d_Lends : ∃ fd, FunD K d_Lends.name d_Lends.qual d_Lends.params d_Lends.body d_Lends.scope (d_Lends.dvs K) (d_Lends.kws K) (He.fAd K d_Lends.at_) fd
  d_Ldrip : ∃ fd, FunD K d_Ldrip.name d_Ldrip.qual d_Ldrip.params d_Ldrip.body d_Ldrip.scope (d_Ldrip.dvs K) (d_Ldrip.kws K) (He.fAd K d_Ldrip.at_) fd
  d_Lany : ∃ fd, FunD K d_Lany.name d_Lany.qual d_Lany.params d_Lany.body d_Lany.scope (d_Lany.dvs K) (d_Lany.kws K) (He.fAd K d_Lany.at_) fd
  d_Llength_right : ∃ fd, FunD K d_Llength_right.name d_Llength_right.qual d_Llength_right.params d_Llength_right.body d_Llength_right.scope (d_Llength_right.dvs K) (d_Llength_right.kws K) (He.fAd K d_Llength_right.at_) fd
  d_Lknown : ∃ fd, FunD K d_Lknown.name d_Lknown.qual d_Lknown.params d_Lknown.body d_Lknown.scope (d_Lknown.dvs K) (d_Lknown.kws K) (He.fAd K d_Lknown.at_) fd
  d_Lgains : ∃ fd, FunD K d_Lgains.name d_Lgains.qual d_Lgains.params d_Lgains.body d_Lgains.scope (d_Lgains.dvs K) (d_Lgains.kws K) (He.fAd K d_Lgains.at_) fd
  d_Ltap : ∃ fd, FunD K d_Ltap.name d_Ltap.qual d_Ltap.params d_Ltap.body d_Ltap.scope (d_Ltap.dvs K) (d_Ltap.kws K) (He.fAd K d_Ltap.at_) fd
  d_law : ∃ fd, FunD K d_law.name d_law.qual d_law.params d_law.body d_law.scope (d_law.dvs K) (d_law.kws K) (He.fAd K d_law.at_) fd
end Lw
end
section
namespace Lw
open PySem L2
def fa0 : List He.Fa := [.glo "is_integer", .glo "is_within", .glo "need_number", .glo "need_row", .glo "sums", .glo "greatest_sum", .glo "least_sum", .glo "heights_of", .glo "are_integers", .glo "word_of", .glo "sort_of", .glo "_law_sort_due", .glo "_law_ends", .glo "_law_drip", .glo "_law_any", .glo "_law_length_right", .glo "_law_known", .glo "_law_gains", .glo "_law_tap", .glo "law", .glo "Row", .free "len", .free "range", .free "isinstance", .free "int", .free "bool", .free "list", .free "tuple", .free "sum", .free "min"]
def fa1 : List He.Fa := [.free "max", .free "abs", .free "all", .free "any", .free "str", .free "divmod", .free "sorted", .free "set", .free "enumerate", .free "zip", .free "reversed", .free "type", .free "dict", .str "DIGITS" "0123456789", .int "MOST_DIGITS" 60, .int "MOST_DAYS" 48, .cls "Row", .mkr "Row", .noat "Row" "gains", .noat "Row" "heights", .noat "Row" "days", .noat "Row" "total", .meth "Row" "_need_stretch", .meth "Row" "sum_of", .meth "Row" "plus", .meth "Row" "backwards", .meth "Row" "times"]
def fa : List He.Fa := fa0 ++ fa1
def fns : List He5.DefA := []
def fn0 : List He.DefD := [d_is_integer, d_is_within, d_need_number, d_Row_need_stretch, d_Row_sum_of, d_need_row, d_sums, d_greatest_sum, d_least_sum, d_heights_of, d_are_integers, d_Row_init, d_Row_plus, d_Row_backwards, d_Row_times, d_word_of, d_sort_of, d_Lsort_due, d_Lends, d_Ldrip, d_Lany, d_Llength_right, d_Lknown, d_Lgains, d_Ltap, d_law]
def fn : List He.DefD := fn0
def exs0 (K : PySem.W.Frag) : List Bool := [He.eqO (PySem.W.findIn K (.ref (He.ga K "Row")) "__class__") (some (some (.builtin "object.__class__"))), He.eqO (PySem.W.specialIn K (.builtin "object.__class__") "__get__") (some (some (.builtin "getset_descriptor.__get__"))), decide (PySem.W.takesIn K (.builtin "object.__class__") = some true), decide (PySem.W.mroIn K (He.ga K "Row") (.type "object") = some true), decide (PySem.W.kitOne K (.type "int") (.ref (He.ga K "Row")) = some false), decide (PySem.W.kitOne K (.type "int") (.type "int") = some true)]
def exs (K : PySem.W.Frag) : List Bool := exs0 K
def ex (K : PySem.W.Frag) : Bool := (exs K).all id
theorem exs_at {K : PySem.W.Frag} (h : ex K = true) (i : Nat) {b : Bool} (e : (exs K)[i]? = some b) : b = true := by
  have := List.all_eq_true.mp h b (List.mem_of_getElem? e)
  simpa using this
theorem tx {K : PySem.W.Frag} {h : Heap} {mg : Str → Option Value} (X : K.In h) (G : h.Ns mainGlobals mg) (c : He.SaysD fa fn K) (e : ex K = true) : Tx K mg where
  g_is_integer := He.glo_ok X G (c.fact 0)
  g_is_within := He.glo_ok X G (c.fact 1)
  g_need_number := He.glo_ok X G (c.fact 2)
  g_need_row := He.glo_ok X G (c.fact 3)
  g_sums := He.glo_ok X G (c.fact 4)
  g_greatest_sum := He.glo_ok X G (c.fact 5)
  g_least_sum := He.glo_ok X G (c.fact 6)
  g_heights_of := He.glo_ok X G (c.fact 7)
  g_are_integers := He.glo_ok X G (c.fact 8)
  g_word_of := He.glo_ok X G (c.fact 9)
  g_sort_of := He.glo_ok X G (c.fact 10)
  g_Lsort_due := He.glo_ok X G (c.fact 11)
  g_Lends := He.glo_ok X G (c.fact 12)
  g_Ldrip := He.glo_ok X G (c.fact 13)
  g_Lany := He.glo_ok X G (c.fact 14)
  g_Llength_right := He.glo_ok X G (c.fact 15)
  g_Lknown := He.glo_ok X G (c.fact 16)
  g_Lgains := He.glo_ok X G (c.fact 17)
  g_Ltap := He.glo_ok X G (c.fact 18)
  g_law := He.glo_ok X G (c.fact 19)
  g_Row := He.glo_ok X G (c.fact 20)
  f_len := He.free_ok X G (c.fact 21)
  f_range := He.free_ok X G (c.fact 22)
  f_isinstance := He.free_ok X G (c.fact 23)
  f_int := He.free_ok X G (c.fact 24)
  f_bool := He.free_ok X G (c.fact 25)
  f_list := He.free_ok X G (c.fact 26)
  f_tuple := He.free_ok X G (c.fact 27)
  f_sum := He.free_ok X G (c.fact 28)
  f_min := He.free_ok X G (c.fact 29)
  f_max := He.free_ok X G (c.fact 30)
  f_abs := He.free_ok X G (c.fact 31)
  f_all := He.free_ok X G (c.fact 32)
  f_any := He.free_ok X G (c.fact 33)
  f_str := He.free_ok X G (c.fact 34)
  f_divmod := He.free_ok X G (c.fact 35)
  f_sorted := He.free_ok X G (c.fact 36)
  f_set := He.free_ok X G (c.fact 37)
  f_enumerate := He.free_ok X G (c.fact 38)
  f_zip := He.free_ok X G (c.fact 39)
  f_reversed := He.free_ok X G (c.fact 40)
  f_type := He.free_ok X G (c.fact 41)
  f_dict := He.free_ok X G (c.fact 42)
  c_DIGITS := He.str_ok X G (c.fact 43)
  c_MOST_DIGITS := He.int_ok X G (c.fact 44)
  c_MOST_DAYS := He.int_ok X G (c.fact 45)
  cl_Row := He.cls_ok (c.fact 46)
  mk_Row := He.mkr_ok (c.fact 47)
  na_Row_gains := He.noat_ok (c.fact 48)
  na_Row_heights := He.noat_ok (c.fact 49)
  na_Row_days := He.noat_ok (c.fact 50)
  na_Row_total := He.noat_ok (c.fact 51)
  m_Row_need_stretch := He.meth_ok (c.fact 52)
  m_Row_sum_of := He.meth_ok (c.fact 53)
  m_Row_plus := He.meth_ok (c.fact 54)
  m_Row_backwards := He.meth_ok (c.fact 55)
  m_Row_times := He.meth_ok (c.fact 56)
  ob_Row := ⟨He.cls_ok (c.fact 46), He.eqO_ok (exs_at e 0 rfl), He.eqO_ok (exs_at e 1 rfl), of_decide_eq_true (exs_at e 2 rfl), of_decide_eq_true (exs_at e 3 rfl)⟩
  kt_0 := of_decide_eq_true (exs_at e 4 rfl)
  kt_1 := of_decide_eq_true (exs_at e 5 rfl)
  d_is_integer := c.def_ 0 (d := d_is_integer) rfl
  d_is_within := c.def_ 1 (d := d_is_within) rfl
  d_need_number := c.def_ 2 (d := d_need_number) rfl
  d_Row_need_stretch := c.def_ 3 (d := d_Row_need_stretch) rfl
  d_Row_sum_of := c.def_ 4 (d := d_Row_sum_of) rfl
  d_need_row := c.def_ 5 (d := d_need_row) rfl
  d_sums := c.def_ 6 (d := d_sums) rfl
  d_greatest_sum := c.def_ 7 (d := d_greatest_sum) rfl
  d_least_sum := c.def_ 8 (d := d_least_sum) rfl
  d_heights_of := c.def_ 9 (d := d_heights_of) rfl
  d_are_integers := c.def_ 10 (d := d_are_integers) rfl
  d_Row_init := c.def_ 11 (d := d_Row_init) rfl
  d_Row_plus := c.def_ 12 (d := d_Row_plus) rfl
  d_Row_backwards := c.def_ 13 (d := d_Row_backwards) rfl
  d_Row_times := c.def_ 14 (d := d_Row_times) rfl
  d_word_of := c.def_ 15 (d := d_word_of) rfl
  d_sort_of := c.def_ 16 (d := d_sort_of) rfl
  d_Lsort_due := c.def_ 17 (d := d_Lsort_due) rfl
  d_Lends := c.def_ 18 (d := d_Lends) rfl
  d_Ldrip := c.def_ 19 (d := d_Ldrip) rfl
  d_Lany := c.def_ 20 (d := d_Lany) rfl
  d_Llength_right := c.def_ 21 (d := d_Llength_right) rfl
  d_Lknown := c.def_ 22 (d := d_Lknown) rfl
  d_Lgains := c.def_ 23 (d := d_Lgains) rfl
  d_Ltap := c.def_ 24 (d := d_Ltap) rfl
  d_law := c.def_ 25 (d := d_law) rfl
abbrev R : PySem.W.OpenRow := PySem.W.OpenLaw.row PySem.Challenge.rw_anyseven_k07_least_and_greatest_sums
abbrev hk : PySem.W.Hook := Z.hookZ 5 fa fn ex
def ob (s : PySem.W.SharedT) : He.AlD × Bool := Z.obsZ 5 fa fn ex (HandSHeadRun.getT s)
theorem ob_eq (s : PySem.W.SharedT) : ob s = hk.obs s.abs := Z.obsZ_eq (HandSHeadRun.getT_eq s)
def loose0 : List Str := ["_wall", "DayError", "BadRow", "BadNumber", "TooMany", "BadText", "DIGITS", "is_integer", "is_within", "are_integers", "need_number", "MOST_DIGITS", "number_text", "is_number_text", "items_of", "item_at", "need_end", "number_at", "MOST_DAYS", "Row", "heights_of", "gains_of", "need_row", "row_at", "sums", "sort_of", "word_of", "least_sum", "greatest_sum", "_law_tap"]
def loose1 : List Str := ["_law_drip", "_law_any", "_law_gains", "_law_known", "_law_ends", "_law_sort_due", "_law_length_right"]
abbrev loose : List Str := loose0 ++ loose1
theorem run (w : World) : HandSHeadRun.RunEq R (PySem.W.view R.prog [43]) hk ob 20000 loose w := by
  intro os
  kernel_rfl
end Lw
end
section
open PySem PySem.W PySem.Calls PyProof.Rows
set_option maxRecDepth 100000 in
set_option maxHeartbeats 0 in
theorem Lw.fin (okl : ∀ {w : World} {K : PySem.W.Frag} {mg : PySem.Str → Option Value} {base : Heap} (T : Lw.Tx K mg) {fd : FuncData} (F : L2.FunD K Lw.d_law.name Lw.d_law.qual Lw.d_law.params Lw.d_law.body Lw.d_law.scope (Lw.d_law.dvs K) (Lw.d_law.kws K) (He.fAd K Lw.d_law.at_) fd), L2.FnOk (PySem.Challenge.rw_anyseven_k07_least_and_greatest_sums).prog w K mg base L2.CX0 9 (He.fAd K Lw.d_law.at_) fd ["_law_script"] (Z.spL K)) : PySem.Challenge.rw_anyseven_k07_least_and_greatest_sums.Holds := by
  w_on; o_law
  refine HandSHeadRun.head_any (r := OpenLaw.row PySem.Challenge.rw_anyseven_k07_least_and_greatest_sums) (q := view (OpenLaw.row PySem.Challenge.rw_anyseven_k07_least_and_greatest_sums).prog [43]) (H := Lw.hk) (ob := Lw.ob) (M := 20000) (loose := Lw.loose) (d := HandSHeadRun.topDef (OpenLaw.row PySem.Challenge.rw_anyseven_k07_least_and_greatest_sums).prog 43) (kwd := []) Lw.ob_eq
    (by kernel_rfl) (fun s => by kernel_rfl) Lw.run (by kernel_rfl) (by kernel_rfl) (by kernel_rfl) (by rfl) (by first | assumption | decide +kernel) (by decide +kernel) ⟨rfl, rfl, rfl, rfl, rfl, by decide +kernel⟩ ?hw ?hc
  case hw => w_witness2
  case hc =>
    refine L2.walk_ofE (l := PySem.Challenge.rw_anyseven_k07_least_and_greatest_sums) (n := 63) (k := 9) (x := "_law_script") (CX := L2.CX0) rfl (by decide) (by kernel_rfl) ⟨rfl, by decide, by decide⟩ ?F (fun _ _ _ _ z => z)
    intro w mg fa h Y G hmg0
    obtain ⟨K, KX, c, ce⟩ := Y
    have T := Lw.tx KX G c ce
    have hmg : mg ("law" : PySem.Str) = some (.ref fa) := by
      have e : (HandSHeadRun.topDef (OpenLaw.row PySem.Challenge.rw_anyseven_k07_least_and_greatest_sums).prog 43).name = ("law" : PySem.Str) := by kernel_rfl
      rw [← e]
      exact hmg0
    have efa : fa = He.ga K "law" := by
      have e := hmg.symm.trans T.g_law
      cases e; rfl
    obtain ⟨fd0, F0⟩ := T.d_law
    subst efa
    refine ⟨K, fd0, Z.spL K, KX, fun s u => L2.FunD.bindsA (ps := ["_law_script"]) F0 (fun _ _ _ _ _ _ us hl => match us, hl with | [_], _ => rfl) s [u] rfl, fun H a ns hl hO hS => Z.spL_of hl hO hS, fun base _ _ => ?_⟩
    exact okl (w := w) (base := base) T F0
end
section
namespace Lw
open PySem L2 Z
/-- the heights of gains -/
def hts (ns : List Int) : List Int := (List.range (ns.length + 1)).map fun k => (ns.take k).sum
theorem hts_length (ns : List Int) : (hts ns).length = ns.length + 1 := by simp [hts]
theorem hts_nil : hts [] = [0] := rfl
theorem hts_get {ns : List Int} {k : Nat} (h : k ≤ ns.length) : (hts ns)[k]? = some (ns.take k).sum := by
  unfold hts
  rw [List.getElem?_map, List.getElem?_range (by omega)]
  rfl
theorem hts_snoc (ns : List Int) (x : Int) : hts (ns ++ [x]) = hts ns ++ [ns.sum + x] := by
  unfold hts
  rw [List.length_append, List.length_singleton, List.range_succ, List.map_append]
  congr 1
  · apply List.map_congr_left
    intro k hk
    rw [List.mem_range] at hk
    rw [List.take_append_of_le_length (by omega)]
  · simp
    rw [List.take_of_length_le (by simp)]
    simp
theorem hts_last (ns : List Int) : atI (zs (hts ns)) (-1) = some (.int ns.sum) := by
  apply zs_atI
  unfold atI ixN
  rw [hts_length]
  rw [if_neg (by omega), if_pos (by omega)]
  show (hts ns)[(-1 + ((ns.length + 1 : Nat) : Int)).toNat]? = _
  have : (-1 + ((ns.length + 1 : Nat) : Int)).toNat = ns.length := by omega
  rw [this, hts_get (Nat.le_refl _), List.take_length]
theorem take_snoc {ns : List Int} {i : Nat} {x : Int} (h : ns[i]? = some x) : ns.take (i + 1) = ns.take i ++ [x] := by
  rw [List.take_succ, h]; rfl
theorem sq_seq (b : Bool) (ns : List Int) : isSeq (sq b ns) (zs ns) := by
  unfold sq
  cases b
  · exact .inl rfl
  · exact .inr rfl
/-- a row of these gains -/
def rowF (ns : List Int) : List (Str × D) := [("gains", .tup (zs ns)), ("heights", .tup (zs (hts ns))), ("days", .int ns.length), ("total", .int ns.sum)]
abbrev rowD (K : PySem.W.Frag) (ns : List Int) : D := .ob (He.ga K "Row") (rowF ns)
theorem row_gains (ns : List Int) : (rowF ns).lookup ("gains" : Str) = some (.tup (zs ns)) := by with_unfolding_all rfl
theorem row_heights (ns : List Int) : (rowF ns).lookup ("heights" : Str) = some (.tup (zs (hts ns))) := by with_unfolding_all rfl
theorem row_days (ns : List Int) : (rowF ns).lookup ("days" : Str) = some (.int ns.length) := by with_unfolding_all rfl
theorem row_total (ns : List Int) : (rowF ns).lookup ("total" : Str) = some (.int ns.sum) := by with_unfolding_all rfl
/-- an optional int -/
def oD : Option Int → D
  | none => .non
  | some i => .int i
def inb (i : Int) (lo hi : Option Int) : Bool := (match lo with | none => true | some l => decide (l ≤ i)) && (match hi with | none => true | some h => decide (i ≤ h))
/-- the sum of a stretch, the sums of all stretches of a length -/
def ssum (ns : List Int) (b l : Nat) : Int := ((ns.drop b).take l).sum
theorem take_sum (ns : List Int) (b l : Nat) : (ns.take (b + l)).sum - (ns.take b).sum = ssum ns b l := by
  unfold ssum
  have : ns.take (b + l) = ns.take b ++ (ns.drop b).take l := by rw [List.take_add]
  rw [this, List.sum_append]
  omega
def sumsL (ns : List Int) (l : Nat) : List Int := (List.range (ns.length + 1 - l)).map fun b => ssum ns b l
end Lw
namespace Lw
open PySem L2 Z
theorem ty_row {K : PySem.W.Frag} {ns : List Int} (h : ObT K (He.ga K "Row")) : TyD K (rowD K ns) (.ref (He.ga K "Row")) := .ob _ h
end Lw
namespace Lw
open PySem L2 Z
theorem row_fld {K : PySem.W.Frag} {ns : List Int} {f : Str} {d : D} {R : D → Prop} (hc : Cls K (He.ga K "Row")) (hn : NoAttr K (He.ga K "Row") f) (hl : (rowF ns).lookup f = some d) (h : R d) : ∃ C fs d, rowD K ns = D.ob C fs ∧ Cls K C ∧ NoAttr K C f ∧ fs.lookup f = some d ∧ R d := ⟨_, _, d, rfl, hc, hn, hl, h⟩
theorem row_meth {K : PySem.W.Frag} {ns : List Int} {m : Str} {R : Prop} (h : R) (hl : (rowF ns).lookup m = none := by with_unfolding_all rfl) : ∃ fs, rowD K ns = D.ob (He.ga K "Row") fs ∧ fs.lookup m = none ∧ R := ⟨_, rfl, hl, h⟩
end Lw
namespace Lw
open PySem L2 Z
theorem sumsL_length (ns : List Int) (l : Nat) : (sumsL ns l).length = ns.length + 1 - l := by simp [sumsL]
theorem sumsL_get {ns : List Int} {l i : Nat} (h : i < ns.length + 1 - l) : (sumsL ns l)[i]? = some (ssum ns i l) := by
  unfold sumsL
  rw [List.getElem?_map, List.getElem?_range h]
  rfl
/-- the word of the sums -/
def word (xs : List Int) : Str := if xs.all (fun x => decide (0 < x)) then "gains" else if xs.all (fun x => decide (x < 0)) then "loses" else if xs.all (fun x => decide (x = 0)) then "flat" else "mixed"
end Lw
namespace Lw
open PySem L2 Z
/-- the word by the least and the greatest one -/
theorem word_by {xs : List Int} {a b : Int} (ha : a ∈ xs) (hla : ∀ y ∈ xs, a ≤ y) (hb : b ∈ xs) (hlb : ∀ y ∈ xs, y ≤ b) :
    word xs = (if 0 < a then ("gains" : Str) else if b < 0 then ("loses" : Str) else if a = 0 ∧ b = 0 then ("flat" : Str) else ("mixed" : Str)) := by
  unfold word
  have e1 : xs.all (fun x => decide (0 < x)) = decide (0 < a) := by
    rw [Bool.eq_iff_iff, List.all_eq_true, decide_eq_true_iff]
    simp only [decide_eq_true_iff]
    exact ⟨fun h => h a ha, fun h y hy => by have := hla y hy; omega⟩
  have e2 : xs.all (fun x => decide (x < 0)) = decide (b < 0) := by
    rw [Bool.eq_iff_iff, List.all_eq_true, decide_eq_true_iff]
    simp only [decide_eq_true_iff]
    exact ⟨fun h => h b hb, fun h y hy => by have := hlb y hy; omega⟩
  have e3 : xs.all (fun x => decide (x = 0)) = decide (a = 0 ∧ b = 0) := by
    rw [Bool.eq_iff_iff, List.all_eq_true, decide_eq_true_iff]
    simp only [decide_eq_true_iff]
    exact ⟨fun h => ⟨h a ha, h b hb⟩, fun h y hy => by have := hlb y hy; have := hla y hy; omega⟩
  simp only [e1, e2, e3, decide_eq_true_eq]
end Lw
namespace Lw
open PySem L2 Z
def wordsL (ns : List Int) : List Str := (List.range ns.length).map fun k => word (sumsL ns (k + 1))
theorem wordsL_length (ns : List Int) : (wordsL ns).length = ns.length := by simp [wordsL]
theorem wordsL_get {ns : List Int} {i : Nat} (h : i < ns.length) : (wordsL ns)[i]? = some (word (sumsL ns (i + 1))) := by
  unfold wordsL
  rw [List.getElem?_map, List.getElem?_range h]
  rfl
theorem word_ok (xs : List Int) : SeqAt.shaped (.str (word xs)) = true := by
  unfold word
  split
  · decide +kernel
  · split
    · decide +kernel
    · split
      · decide +kernel
      · decide +kernel
theorem wordsL_ok (ns : List Int) : shapes (wordsL ns) = true := by
  unfold shapes wordsL
  rw [List.all_map, List.all_eq_true]
  intro k hk
  exact word_ok _
end Lw
namespace Lw
open PySem L2 Z
theorem cut_mid {ns : List Int} {i l : Nat} {a b : Int} (ha : a = i) (hb : b = i + l) (h : i + l ≤ ns.length) : cutD (zs ns) (some a) (some b) = zs ((ns.drop i).take l) := by
  subst ha hb
  rw [zs_cut]
  have e0 : HT.sIx ns.length 0 (some (i : Int)) = i := by
    rw [HT.sIx_nat]; omega
  have e1 : HT.sIx ns.length ns.length (some ((i : Int) + (l : Int))) = i + l := by
    have := HT.sIx_nat ns.length ns.length (i + l)
    rw [Int.natCast_add] at this
    rw [this]; omega
  rw [e0, e1]
  congr 2
  omega
def fPos : D → Bool
  | .int x => decide (0 < x)
  | _ => false
def fNeg : D → Bool
  | .int x => decide (x < 0)
  | _ => false
theorem filt_pos (xs : List Int) : (zs xs).filter fPos = zs (xs.filter fun x => decide (0 < x)) := by
  unfold zs
  rw [List.filter_map]
  rfl
theorem filt_neg (xs : List Int) : (zs xs).filter fNeg = zs (xs.filter fun x => decide (x < 0)) := by
  unfold zs
  rw [List.filter_map]
  rfl
theorem word_of (xs : List Int) : word xs = (if (xs.filter fun x => decide (0 < x)).length = xs.length then ("gains" : Str) else if (xs.filter fun x => decide (x < 0)).length = xs.length then ("loses" : Str) else if (xs.filter fun x => decide (0 < x)).length + (xs.filter fun x => decide (x < 0)).length = 0 then ("flat" : Str) else ("mixed" : Str)) := by
  unfold word
  have e1 : xs.all (fun x => decide (0 < x)) = decide ((xs.filter fun x => decide (0 < x)).length = xs.length) := by
    rw [Bool.eq_iff_iff, decide_eq_true_iff, List.length_filter_eq_length_iff, List.all_eq_true]
  have e2 : xs.all (fun x => decide (x < 0)) = decide ((xs.filter fun x => decide (x < 0)).length = xs.length) := by
    rw [Bool.eq_iff_iff, decide_eq_true_iff, List.length_filter_eq_length_iff, List.all_eq_true]
  have e3 : xs.all (fun x => decide (x = 0)) = decide ((xs.filter fun x => decide (0 < x)).length + (xs.filter fun x => decide (x < 0)).length = 0) := by
    rw [Bool.eq_iff_iff, decide_eq_true_iff, List.all_eq_true, Nat.add_eq_zero_iff, List.length_eq_zero_iff, List.length_eq_zero_iff, List.filter_eq_nil_iff, List.filter_eq_nil_iff]
    simp only [decide_eq_true_eq]
    exact ⟨fun h => ⟨fun y hy => by have := h y hy; omega, fun y hy => by have := h y hy; omega⟩, fun h y hy => by have := h.1 y hy; have := h.2 y hy; omega⟩
  rw [e1, e2, e3]
  simp only [decide_eq_true_eq]
end Lw
namespace Lw
open PySem L2 Z
theorem take_step {ns : List Int} {k : Nat} {x : Int} (h : ns[k]? = some x) : (ns.take (k + 1)).sum = (ns.take k).sum + x := by
  rw [List.take_succ, h, List.sum_append]
  simp
theorem ssum_step {ns : List Int} {b l : Nat} {x y : Int} (hx : ns[b + l]? = some x) (hy : ns[b]? = some y) : ssum ns (b + 1) l - ssum ns b l = x - y := by
  rw [← take_sum, ← take_sum, show b + 1 + l = b + l + 1 by omega, take_step hx, take_step hy]
  omega
theorem ssum_one {ns : List Int} {b : Nat} {x : Int} (hx : ns[b]? = some x) : ssum ns b 1 = x := by
  rw [← take_sum, take_step hx]
  omega
theorem sumsL_one (ns : List Int) : sumsL ns 1 = ns := by
  apply List.ext_getElem?
  intro i
  by_cases h : i < ns.length
  · rw [sumsL_get (by omega), List.getElem?_eq_getElem h, ssum_one (List.getElem?_eq_getElem h)]
  · rw [List.getElem?_eq_none (by rw [sumsL_length]; omega), List.getElem?_eq_none (by omega)]
theorem sumsL_all (ns : List Int) : sumsL ns ns.length = [ns.sum] := by
  unfold sumsL ssum
  rw [show ns.length + 1 - ns.length = 1 by omega]
  simp
end Lw
namespace Lw
open PySem L2 Z
theorem word_gains {xs : List Int} : word xs = "gains" ↔ ∀ x ∈ xs, 0 < x := by
  unfold word
  constructor
  · intro h
    split at h
    · rename_i e; simpa [List.all_eq_true] using e
    · split at h
      · exact absurd h (by decide)
      · split at h
        · exact absurd h (by decide)
        · exact absurd h (by decide)
  · intro h
    rw [if_pos (by simpa [List.all_eq_true] using h)]
theorem word_loses {xs : List Int} (hn : xs ≠ []) : word xs = "loses" ↔ ∀ x ∈ xs, x < 0 := by
  unfold word
  constructor
  · intro h
    split at h
    · exact absurd h (by decide)
    · split at h
      · rename_i e; simpa [List.all_eq_true] using e
      · split at h
        · exact absurd h (by decide)
        · exact absurd h (by decide)
  · intro h
    obtain ⟨x, hx⟩ := List.exists_mem_of_ne_nil xs hn
    rw [if_neg (fun e => by
      have := (by simpa [List.all_eq_true] using e : ∀ x ∈ xs, 0 < x) x hx
      have := h x hx
      omega), if_pos (by simpa [List.all_eq_true] using h)]
theorem word_flat {xs : List Int} (hn : xs ≠ []) : word xs = "flat" ↔ ∀ x ∈ xs, x = 0 := by
  unfold word
  constructor
  · intro h
    split at h
    · exact absurd h (by decide)
    · split at h
      · exact absurd h (by decide)
      · split at h
        · rename_i e; simpa [List.all_eq_true] using e
        · exact absurd h (by decide)
  · intro h
    obtain ⟨x, hx⟩ := List.exists_mem_of_ne_nil xs hn
    rw [if_neg (fun e => by
      have := (by simpa [List.all_eq_true] using e : ∀ x ∈ xs, 0 < x) x hx
      have := h x hx
      omega), if_neg (fun e => by
      have := (by simpa [List.all_eq_true] using e : ∀ x ∈ xs, x < 0) x hx
      have := h x hx
      omega), if_pos (by simpa [List.all_eq_true] using h)]
theorem word_cases (xs : List Int) : word xs = "gains" ∨ word xs = "loses" ∨ word xs = "flat" ∨ word xs = "mixed" := by
  unfold word
  split
  · exact .inl rfl
  · split
    · exact .inr (.inl rfl)
    · split
      · exact .inr (.inr (.inl rfl))
      · exact .inr (.inr (.inr rfl))
theorem sumsL_mem {ns : List Int} {l : Nat} {x : Int} : x ∈ sumsL ns l ↔ ∃ b, b < ns.length + 1 - l ∧ x = ssum ns b l := by
  unfold sumsL
  rw [List.mem_map]
  constructor
  · rintro ⟨b, hb, rfl⟩; exact ⟨b, List.mem_range.mp hb, rfl⟩
  · rintro ⟨b, hb, rfl⟩; exact ⟨b, List.mem_range.mpr hb, rfl⟩
theorem sumsL_ne {ns : List Int} {l : Nat} (h : l ≤ ns.length) : sumsL ns l ≠ [] := by
  intro e
  have := sumsL_length ns l
  rw [e] at this
  simp at this
  omega
theorem ssum_add (ns : List Int) (b k l : Nat) : ssum ns b (k + l) = ssum ns b k + ssum ns (b + k) l := by
  rw [← take_sum, ← take_sum, ← take_sum, show b + (k + l) = b + k + l by omega]
  omega
theorem word_last (x : Int) : word [x] ≠ "mixed" := by
  unfold word
  split
  · decide
  · split
    · decide
    · split
      · decide
      · rename_i a b c
        simp at a b c
        omega
/-- two lengths of one sort, and their sum -/
theorem word_sum {ns : List Int} {k l : Nat} (hk : 1 ≤ k) (hl : 1 ≤ l) (h : k + l ≤ ns.length) :
    (word (sumsL ns k) = "gains" → word (sumsL ns l) = "gains" → word (sumsL ns (k + l)) = "gains") ∧
    (word (sumsL ns k) = "loses" → word (sumsL ns l) = "loses" → word (sumsL ns (k + l)) = "loses") ∧
    (word (sumsL ns k) = "flat" → word (sumsL ns l) = word (sumsL ns (k + l)) ∨ word (sumsL ns l) = "mixed") ∧
    (word (sumsL ns l) = "flat" → word (sumsL ns k) = word (sumsL ns (k + l)) ∨ word (sumsL ns k) = "mixed") := by
  have a := sumsL_ne (ns := ns) (l := k) (by omega)
  have b := sumsL_ne (ns := ns) (l := l) (by omega)
  have c := sumsL_ne (ns := ns) (l := k + l) (by omega)
  have m1 : ∀ i, i < ns.length + 1 - k → ssum ns i k ∈ sumsL ns k := fun i hi => sumsL_mem.mpr ⟨i, hi, rfl⟩
  have m2 : ∀ i, i < ns.length + 1 - l → ssum ns i l ∈ sumsL ns l := fun i hi => sumsL_mem.mpr ⟨i, hi, rfl⟩
  have sp : ∀ {p : Int → Prop}, (∀ i, i < ns.length + 1 - (k + l) → p (ssum ns i k + ssum ns (i + k) l)) → ∀ x ∈ sumsL ns (k + l), p x := by
    intro p hp x hx
    obtain ⟨i, hi, rfl⟩ := sumsL_mem.mp hx
    rw [ssum_add]
    exact hp i hi
  refine ⟨fun h1 h2 => ?_, fun h1 h2 => ?_, fun h1 => ?_, fun h1 => ?_⟩
  · rw [word_gains] at *
    exact sp fun i hi => by have := h1 _ (m1 i (by omega)); have := h2 _ (m2 (i + k) (by omega)); omega
  · rw [word_loses a] at h1; rw [word_loses b] at h2; rw [word_loses c]
    exact sp fun i hi => by have := h1 _ (m1 i (by omega)); have := h2 _ (m2 (i + k) (by omega)); omega
  · rw [word_flat a] at h1
    rcases word_cases (sumsL ns l) with w | w | w | w
    · rw [w]; left; symm
      rw [word_gains] at *
      exact sp fun i hi => by have := h1 _ (m1 i (by omega)); have := w _ (m2 (i + k) (by omega)); omega
    · rw [w]; left; symm
      rw [word_loses b] at w; rw [word_loses c]
      exact sp fun i hi => by have := h1 _ (m1 i (by omega)); have := w _ (m2 (i + k) (by omega)); omega
    · rw [w]; left; symm
      rw [word_flat b] at w; rw [word_flat c]
      exact sp fun i hi => by have := h1 _ (m1 i (by omega)); have := w _ (m2 (i + k) (by omega)); omega
    · exact .inr w
  · rw [word_flat b] at h1
    rcases word_cases (sumsL ns k) with w | w | w | w
    · rw [w]; left; symm
      rw [word_gains] at *
      exact sp fun i hi => by have := w _ (m1 i (by omega)); have := h1 _ (m2 (i + k) (by omega)); omega
    · rw [w]; left; symm
      rw [word_loses a] at w; rw [word_loses c]
      exact sp fun i hi => by have := w _ (m1 i (by omega)); have := h1 _ (m2 (i + k) (by omega)); omega
    · rw [w]; left; symm
      rw [word_flat a] at w; rw [word_flat c]
      exact sp fun i hi => by have := w _ (m1 i (by omega)); have := h1 _ (m2 (i + k) (by omega)); omega
    · exact .inr w
theorem perm_pair {α : Type} {ys : List α} {a b : α} (h : ys.Perm [a, b]) : ∃ x y, ys = [x, y] ∧ ((x = a ∧ y = b) ∨ (x = b ∧ y = a)) := by
  have hl := h.length_eq
  match ys, hl with
  | [x, y], _ =>
    refine ⟨x, y, rfl, ?_⟩
    have hx : x ∈ [a, b] := h.mem_iff.mp List.mem_cons_self
    rcases List.mem_cons.mp hx with e | e
    · subst e
      have := (List.perm_cons x).mp h
      have := List.perm_singleton.mp this
      simp at this
      exact .inl ⟨rfl, this⟩
    · have e : x = b := by simpa using e
      subst e
      have h2 : [x, y].Perm [x, a] := h.trans (List.Perm.swap _ _ _)
      have := (List.perm_cons x).mp h2
      have := List.perm_singleton.mp this
      simp at this
      exact .inr ⟨rfl, this⟩
/-- what the law asks of two lengths -/
theorem pair_ok {ns : List Int} {k l : Nat} (hk : 1 ≤ k) (hl : 1 ≤ l) (h : k + l ≤ ns.length) {x y : Str} (hxy : (x = word (sumsL ns k) ∧ y = word (sumsL ns l)) ∨ (x = word (sumsL ns l) ∧ y = word (sumsL ns k))) :
    (x = y → x ≠ "mixed" → word (sumsL ns (k + l)) = x) ∧ ((x = "flat" ∧ y = "gains") ∨ (x = "flat" ∧ y = "loses") → word (sumsL ns (k + l)) = y) := by
  obtain ⟨p1, p2, p3, p4⟩ := word_sum hk hl h
  have nm : ("gains" : Str) ≠ "mixed" := by decide
  have nm2 : ("loses" : Str) ≠ "mixed" := by decide
  have nm3 : ("flat" : Str) ≠ "mixed" := by decide
  constructor
  · intro e hm
    have ek : word (sumsL ns k) = x := by
      rcases hxy with ⟨a, b⟩ | ⟨a, b⟩
      · exact a.symm
      · rw [← b]; exact e.symm
    have el : word (sumsL ns l) = x := by
      rcases hxy with ⟨a, b⟩ | ⟨a, b⟩
      · rw [← b]; exact e.symm
      · exact a.symm
    rw [ek, el] at p1 p2 p3
    rcases word_cases (sumsL ns k) with w | w | w | w <;> rw [ek] at w
    · rw [w]; exact p1 w w
    · rw [w]; exact p2 w w
    · rcases p3 w with q | q
      · exact q.symm
      · exact absurd q hm
    · exact absurd w hm
  · intro e
    have ym : y ≠ "mixed" := by rcases e with ⟨_, e⟩ | ⟨_, e⟩ <;> rw [e] <;> decide
    have xf : x = "flat" := by rcases e with ⟨e, _⟩ | ⟨e, _⟩ <;> exact e
    rcases hxy with ⟨a, b⟩ | ⟨a, b⟩
    · rw [← a, ← b] at p3
      rcases p3 xf with q | q
      · exact q.symm
      · exact absurd q ym
    · rw [← a, ← b] at p4
      rcases p4 xf with q | q
      · exact q.symm
      · exact absurd q ym
end Lw
namespace Lw
open PySem L2 Z
theorem rop_pairs {K : PySem.W.Frag} {fx : Fx} {E : Z.Env} {Q : D → Z.Env → Prop} {x y x1 y1 x2 y2 : Str} (hx : SeqAt.shaped (.str x) = true) (hy : SeqAt.shaped (.str y) = true) (a1 : SeqAt.shaped (.str x1) = true) (b1 : SeqAt.shaped (.str y1) = true) (a2 : SeqAt.shaped (.str x2) = true) (b2 : SeqAt.shaped (.str y2) = true)
    (h : Q (.bl (decide ((x = x1 ∧ y = y1) ∨ (x = x2 ∧ y = y2)))) E) : Rop K fx (rInU K) (.lst [.str x, .str y]) (.tup [.lst [.str x1, .str y1], .lst [.str x2, .str y2]]) E Q := by
  refine rop_inT (by simp [dat, dats, hx, hy]) (by simp [dat, dats, a1, b1, a2, b2]) ?_
  have e : ([.lst [.str x1, .str y1], .lst [.str x2, .str y2]] : List D).any (fun z => deq z (.lst [.str x, .str y])) = decide ((x = x1 ∧ y = y1) ∨ (x = x2 ∧ y = y2)) := by
    have d : ∀ a b : Str, deq (.lst [.str a, .str b]) (.lst [.str x, .str y]) = decide (x = a ∧ y = b) := by
      intro a b
      rw [deq_lst]
      have := deqs_ts [a, b] [x, y]
      rw [show ts [a, b] = [.str a, .str b] from rfl, show ts [x, y] = [.str x, .str y] from rfl] at this
      rw [this]
      by_cases q : x = a ∧ y = b
      · obtain ⟨rfl, rfl⟩ := q
        simp
      · have : ¬ ([a, b] = [x, y]) := fun z => by
          simp at z
          exact q ⟨z.1.symm, z.2.symm⟩
        rw [decide_eq_false this, decide_eq_false q]
    simp only [List.any_cons, List.any_nil, d, Bool.or_false, ← Bool.decide_or]
  rw [e]
  exact h
end Lw

namespace Lw
open PySem L2 Z
def fDiv (n : Nat) : D → Bool
  | .int i => decide ((n : Int) % i = 0)
  | _ => false
end Lw
namespace Lw
open PySem L2 Z
theorem chunk_sum (ns : List Int) (l : Nat) : ∀ q : Nat, ((List.range q).map fun k => ssum ns (k * l) l).sum = (ns.take (q * l)).sum
  | 0 => by simp
  | q + 1 => by
    rw [List.range_succ, List.map_append, List.sum_append, chunk_sum ns l q]
    simp only [List.map_cons, List.map_nil, List.sum_cons, List.sum_nil]
    rw [← take_sum, show q * l + l = (q + 1) * l by rw [Nat.add_mul]; omega]
    omega
theorem sum_pos : ∀ {xs : List Int}, xs ≠ [] → (∀ x ∈ xs, 0 < x) → 0 < xs.sum
  | [], h, _ => absurd rfl h
  | [x], _, h => by have := h x List.mem_cons_self; simpa using this
  | x :: y :: r, _, h => by
    have := h x List.mem_cons_self
    have := sum_pos (xs := y :: r) (by simp) fun z hz => h z (List.mem_cons_of_mem _ hz)
    rw [List.sum_cons]; omega
theorem sum_neg : ∀ {xs : List Int}, xs ≠ [] → (∀ x ∈ xs, x < 0) → xs.sum < 0
  | [], h, _ => absurd rfl h
  | [x], _, h => by have := h x List.mem_cons_self; simpa using this
  | x :: y :: r, _, h => by
    have := h x List.mem_cons_self
    have := sum_neg (xs := y :: r) (by simp) fun z hz => h z (List.mem_cons_of_mem _ hz)
    rw [List.sum_cons]; omega
theorem sum_zero : ∀ {xs : List Int}, (∀ x ∈ xs, x = 0) → xs.sum = 0
  | [], _ => rfl
  | x :: r, h => by
    have := h x List.mem_cons_self
    have := sum_zero (xs := r) fun z hz => h z (List.mem_cons_of_mem _ hz)
    rw [List.sum_cons]; omega
/-- the sums of the parts of a length that divides the days -/
def parts (ns : List Int) (l : Nat) : List Int := (List.range (ns.length / l)).map fun k => ssum ns (k * l) l
theorem parts_sum {ns : List Int} {l : Nat} (h : ns.length % l = 0) : (parts ns l).sum = ns.sum := by
  unfold parts
  rw [chunk_sum, Nat.div_mul_cancel (Nat.dvd_of_mod_eq_zero h), List.take_length]
theorem part_in {n l k : Nat} (hl : 1 ≤ l) (hk : k < n / l) : k * l + l ≤ n := by
  have : (k + 1) * l ≤ n := Nat.le_trans (Nat.mul_le_mul_right l hk) (Nat.div_mul_le_self n l)
  rw [Nat.add_mul] at this
  omega
theorem parts_mem {ns : List Int} {l : Nat} (hl : 1 ≤ l) {x : Int} (hx : x ∈ parts ns l) : x ∈ sumsL ns l := by
  unfold parts at hx
  obtain ⟨k, hk, rfl⟩ := List.mem_map.mp hx
  have := part_in hl (List.mem_range.mp hk)
  exact sumsL_mem.mpr ⟨k * l, by omega, rfl⟩
theorem parts_ne {ns : List Int} {l : Nat} (hl : 1 ≤ l) (h : l ≤ ns.length) : parts ns l ≠ [] := by
  intro e
  have t1 : (parts ns l).length = ns.length / l := by simp [parts]
  rw [e] at t1
  have t2 := Nat.div_pos h hl
  rw [← t1] at t2
  exact absurd t2 (by simp)
theorem part_word {ns : List Int} {l : Nat} (hl : 1 ≤ l) (h : l ≤ ns.length) (hm : ns.length % l = 0) :
    (word (sumsL ns l) = "gains" → 0 < ns.sum) ∧ (word (sumsL ns l) = "loses" → ns.sum < 0) ∧ (word (sumsL ns l) = "flat" → ns.sum = 0) := by
  have a := sumsL_ne (ns := ns) (l := l) h
  rw [← parts_sum hm, word_gains, word_loses a, word_flat a]
  exact ⟨fun w => sum_pos (parts_ne hl h) fun x hx => w x (parts_mem hl hx), fun w => sum_neg (parts_ne hl h) fun x hx => w x (parts_mem hl hx), fun w => sum_zero fun x hx => w x (parts_mem hl hx)⟩
theorem div_get {n i : Nat} {d : D} (h : ((rangeD 1 ((n : Int) + 1 - 1).toNat).filter fun d => fDiv n d)[i]? = some d) : ∃ l : Nat, d = .int l ∧ 1 ≤ l ∧ l ≤ n ∧ n % l = 0 := by
  have hm := List.mem_of_getElem? h
  obtain ⟨h1, h2⟩ := List.mem_filter.mp hm
  obtain ⟨k, hk⟩ := List.getElem?_of_mem h1
  obtain ⟨hk1, rfl⟩ := rg_get hk
  refine ⟨k + 1, by rw [show (1 + (k : Int)) = ((k + 1 : Nat) : Int) by omega], by omega, by omega, ?_⟩
  have : (n : Int) % (1 + (k : Int)) = 0 := by simpa [fDiv] using h2
  rw [show (1 + (k : Int)) = ((k + 1 : Nat) : Int) by omega] at this
  exact_mod_cast this
end Lw

namespace Lw
open PySem L2 Z
theorem rgc {n l : Nat} (hl : 1 ≤ l) (h : l ≤ n) (hn : n ≤ 1000) (hm : n % l = 0) : RgC 0 (n : Int) (l : Int) (n / l) := by
  have e1 : Builtin.Range.rangeSize 0 (n : Int) (l : Int) = ((n / l : Nat) : Int) := by
    rw [PyProof.Rows.rangeSize_pos (by omega) (by omega)]
    obtain ⟨q, hq⟩ := Nat.dvd_of_mod_eq_zero hm
    subst hq
    rw [Nat.mul_div_cancel_left _ (by omega)]
    rw [show (((l * q : Nat) : Int) + (l : Int) - 1) = ((l : Int) - 1) + (l : Int) * (q : Int) by push_cast; omega]
    rw [Int.add_mul_ediv_left _ _ (by omega), Int.ediv_eq_zero_of_lt (by omega) (by omega)]
    omega
  have hq : n / l ≤ n := Nat.div_le_self _ _
  refine ⟨by omega, by omega, ?_, e1⟩
  unfold Builtin.Range.small
  rw [e1]
  unfold Builtin.Range.rangeFitsLong
  rw [if_pos (by omega)]
  generalize n / l = q at *
  simp only [Bool.and_eq_true, Bool.or_eq_true, decide_eq_true_eq]
  refine ⟨by omega, .inr (by omega)⟩
end Lw
namespace Lw
open PySem L2 Z
theorem gi_hts {ns : List Int} {k : Nat} {i : Int} (e : i = k) (h : k ≤ ns.length) : gi (hts ns) i = (ns.take k).sum := by
  subst e
  exact gi_nat (hts_get h)
theorem rev_take_sum {ns : List Int} {k : Nat} (h : k ≤ ns.length) : (ns.reverse.take k).sum = (ns.drop (ns.length - k)).sum := by
  rw [List.take_reverse, List.sum_reverse]
theorem map_inv {f g : Int → Int} (h : ∀ a, g (f a) = a) (ns : List Int) : (ns.map f).map g = ns := by
  rw [List.map_map]
  have : g ∘ f = id := funext h
  rw [this, List.map_id]
theorem map2_eq {f g p q : Int → Int} (h : ∀ a, g (f a) = q (p a)) (ns : List Int) : (ns.map f).map g = (ns.map p).map q := by
  rw [List.map_map, List.map_map]
  exact List.map_congr_left fun a _ => h a
theorem map_one {f g : Int → Int} (h : ∀ a, f a = g a) (ns : List Int) : ns.map f = ns.map g := List.map_congr_left fun a _ => h a
theorem map_self {f : Int → Int} (h : ∀ a, f a = a) (ns : List Int) : ns.map f = ns := by
  have : f = id := funext h
  rw [this, List.map_id]
theorem sum_plus (ns : List Int) (r : Int) : (ns.map fun a => a + r).sum = ns.sum + ns.length * r := by
  induction ns with
  | nil => simp
  | cons a ns ih =>
    rw [List.map_cons, List.sum_cons, List.sum_cons, ih, List.length_cons, Int.natCast_add, Int.add_mul]
    omega
end Lw
namespace Lw
open PySem L2 Z
theorem zip_comm (a b : List Int) : List.zipWith (fun x y : Int => x + y) b a = List.zipWith (fun x y => x + y) a b := by
  induction a generalizing b with
  | nil => simp
  | cons x a ih =>
    cases b with
    | nil => simp
    | cons y b => simp only [List.zipWith_cons_cons, ih, Int.add_comm]
theorem zip_self (a : List Int) : List.zipWith (fun x y : Int => x + y) a a = a.map fun x => x * 2 := by
  induction a with
  | nil => rfl
  | cons x a ih =>
    simp only [List.zipWith_cons_cons, List.map_cons, ih]
    congr 1; omega
theorem zip_neg (a : List Int) : List.zipWith (fun x y : Int => x + y) a (a.map fun x => x * -1) = List.replicate a.length 0 := by
  induction a with
  | nil => rfl
  | cons x a ih =>
    simp only [List.zipWith_cons_cons, List.map_cons, ih, List.length_cons, List.replicate_succ]
    congr 1; omega
theorem zip_off {a b : List Int} (h : b.length = a.length) : List.zipWith (fun x y : Int => x + y) (List.zipWith (fun x y : Int => x + y) a b) (b.map fun x => x * -1) = a := by
  induction a generalizing b with
  | nil => simp
  | cons x a ih =>
    cases b with
    | nil => simp at h
    | cons y b =>
      simp only [List.zipWith_cons_cons, List.map_cons, ih (b := b) (by simpa using h)]
      congr 1; omega
theorem zip_take_sum {a b : List Int} (h : b.length = a.length) : ∀ k : Nat, ((List.zipWith (fun x y : Int => x + y) a b).take k).sum = (a.take k).sum + (b.take k).sum := by
  induction a generalizing b with
  | nil => intro k; cases b with
    | nil => simp
    | cons y b => simp at h
  | cons x a ih =>
    cases b with
    | nil => simp at h
    | cons y b =>
      intro k
      cases k with
      | zero => simp
      | succ k =>
        simp only [List.zipWith_cons_cons, List.take_succ_cons, List.sum_cons, ih (b := b) (by simpa using h) k]
        omega
theorem zip_app {a b c d : List Int} (h : b.length = a.length) : List.zipWith (fun x y : Int => x + y) (a ++ c) (b ++ d) = List.zipWith (fun x y : Int => x + y) a b ++ List.zipWith (fun x y : Int => x + y) c d := List.zipWith_append h.symm
theorem zip_rev {a b : List Int} (h : b.length = a.length) : List.zipWith (fun x y : Int => x + y) a.reverse b.reverse = (List.zipWith (fun x y : Int => x + y) a b).reverse := by
  induction a generalizing b with
  | nil => simp
  | cons x a ih =>
    cases b with
    | nil => simp at h
    | cons y b =>
      have h' : b.length = a.length := by simpa using h
      rw [List.reverse_cons, List.reverse_cons, zip_app (by simp [h']), ih h']
      simp
theorem app_take_sum {a b : List Int} {k : Nat} (_ : k ≤ b.length) : ((a ++ b).take (a.length + k)).sum = a.sum + (b.take k).sum := by
  rw [List.take_append, List.take_of_length_le (by omega), List.sum_append]
  congr 2
  congr 1; omega
end Lw
namespace Lw
open PySem L2 Z
abbrev lowD (a b : Int) : Z.D := .tup [.int (a / ((Nat.gcd a.natAbs b.natAbs : Nat) : Int)), .int (b / ((Nat.gcd a.natAbs b.natAbs : Nat) : Int))]
/-- the first of b, b - 1, .., 1 that divides both is their greatest common divisor -/
theorem gcd_first (a : Int) {b : Nat} (hb : 1 ≤ b) : ∃ i, i < b ∧ b - i = Nat.gcd a.natAbs b ∧ (∀ k < b, (decide ((b : Int) % ((b : Int) + -1 * (k : Int)) = 0) && decide (a % ((b : Int) + -1 * (k : Int)) = 0)) = decide (b - k ∣ Nat.gcd a.natAbs b)) := by
  have hg : 0 < Nat.gcd a.natAbs b := Nat.gcd_pos_of_pos_right _ (by omega)
  have hg2 : Nat.gcd a.natAbs b ≤ b := Nat.le_of_dvd (by omega) (Nat.gcd_dvd_right _ _)
  refine ⟨b - Nat.gcd a.natAbs b, by omega, by omega, fun k hk => ?_⟩
  have e : ((b : Int) + -1 * (k : Int)) = ((b - k : Nat) : Int) := by omega
  rw [e]
  have d1 : ((b : Int) % ((b - k : Nat) : Int) = 0) ↔ b - k ∣ b := by
    rw [← Int.dvd_iff_emod_eq_zero, Int.natCast_dvd_natCast]
  have d2 : (a % ((b - k : Nat) : Int) = 0) ↔ b - k ∣ a.natAbs := by
    rw [← Int.dvd_iff_emod_eq_zero, Int.ofNat_dvd_left]
  rw [← Bool.decide_and]
  congr 1
  rw [d1, d2, Nat.dvd_gcd_iff]
  exact propext And.comm
end Lw
namespace Lw
open PySem L2 Z
abbrev levL (ns : List Int) : List Int := (ns.map fun a : Int => a * (ns.length : Int)).map fun a => a + -ns.sum
theorem sum_times (ns : List Int) (r : Int) : (ns.map fun a => a * r).sum = ns.sum * r := by
  induction ns with
  | nil => simp
  | cons a ns ih => rw [List.map_cons, List.sum_cons, List.sum_cons, ih, Int.add_mul]
theorem lev_length (ns : List Int) : (levL ns).length = ns.length := by simp [levL]
theorem lev_sum (ns : List Int) : (levL ns).sum = 0 := by
  unfold levL
  rw [sum_plus, sum_times, List.length_map, Int.mul_neg, Int.mul_comm]
  omega
theorem lev_plus (ns : List Int) (r : Int) : levL (ns.map fun a => a + r) = levL ns := by
  unfold levL
  rw [List.length_map, sum_plus, List.map_map, List.map_map, List.map_map]
  refine List.map_congr_left fun a _ => ?_
  simp only [Function.comp]
  rw [Int.add_mul, Int.mul_comm r]
  omega
theorem lev_times (ns : List Int) (r : Int) : levL (ns.map fun a => a * r) = (levL ns).map fun a => a * r := by
  unfold levL
  rw [List.length_map, sum_times, List.map_map, List.map_map, List.map_map, List.map_map]
  refine List.map_congr_left fun a _ => ?_
  simp only [Function.comp]
  rw [Int.add_mul, Int.mul_assoc, Int.mul_comm r, ← Int.mul_assoc, Int.neg_mul]
theorem lev_rev (ns : List Int) : levL ns.reverse = (levL ns).reverse := by
  unfold levL
  rw [List.length_reverse, List.sum_reverse, List.map_reverse, List.map_reverse]
theorem lev_lev (ns : List Int) : levL (levL ns) = (levL ns).map fun a => a * (ns.length : Int) := by
  have h1 := lev_length ns
  have h2 := lev_sum ns
  show ((levL ns).map fun a : Int => a * ((levL ns).length : Int)).map (fun a => a + -(levL ns).sum) = _
  rw [h1, h2, List.map_map]
  exact List.map_congr_left fun a _ => by simp
theorem lev_zero {ns : List Int} (h : ns.sum = 0) : levL ns = ns.map fun a => a * (ns.length : Int) := by
  unfold levL
  rw [h, List.map_map]
  exact List.map_congr_left fun a _ => by simp
theorem lev_eq (ns : List Int) : levL ns = ns.map fun a => (ns.length : Int) * a - ns.sum := by
  unfold levL
  rw [List.map_map]
  exact List.map_congr_left fun a _ => by simp only [Function.comp]; rw [Int.mul_comm]; rfl
theorem low_zero {n : Nat} (h : 1 ≤ n) : ((0 : Int) / ((Nat.gcd (0 : Int).natAbs (n : Int).natAbs : Nat) : Int), (n : Int) / ((Nat.gcd (0 : Int).natAbs (n : Int).natAbs : Nat) : Int)) = (0, 1) := by
  have e : Nat.gcd (0 : Int).natAbs (n : Int).natAbs = n := by simp
  rw [e, Int.zero_ediv, Int.ediv_self (by omega)]
end Lw
namespace Lw
open PySem L2 Z
theorem low_lev {ns : List Int} (h : 1 ≤ ns.length) : ((levL ns).sum / ((Nat.gcd (levL ns).sum.natAbs ((levL ns).length : Int).natAbs : Nat) : Int), ((levL ns).length : Int) / ((Nat.gcd (levL ns).sum.natAbs ((levL ns).length : Int).natAbs : Nat) : Int)) = (0, 1) := by
  rw [lev_sum, lev_length]; exact low_zero h
theorem low_plus (ns : List Int) (r : Int) : ((ns.map fun a => a + r).sum / ((Nat.gcd (ns.map fun a => a + r).sum.natAbs ((ns.map fun a => a + r).length : Int).natAbs : Nat) : Int), ((ns.map fun a => a + r).length : Int) / ((Nat.gcd (ns.map fun a => a + r).sum.natAbs ((ns.map fun a => a + r).length : Int).natAbs : Nat) : Int)) = ((ns.sum + ns.length * r) / ((Nat.gcd (ns.sum + ns.length * r).natAbs (ns.length : Int).natAbs : Nat) : Int), (ns.length : Int) / ((Nat.gcd (ns.sum + ns.length * r).natAbs (ns.length : Int).natAbs : Nat) : Int)) := by
  rw [sum_plus, List.length_map]
end Lw
namespace Lw
open PySem L2 Z
theorem ssum_lev {ns : List Int} {b l : Nat} (h : b + l ≤ ns.length) : ssum (levL ns) b l = (ns.length : Int) * ssum ns b l - (l : Int) * ns.sum := by
  unfold ssum levL
  rw [← List.map_drop, ← List.map_drop, ← List.map_take, ← List.map_take, sum_plus, sum_times, List.length_map, List.length_take, List.length_drop, show min l (ns.length - b) = l by omega, Int.mul_neg, Int.mul_comm]
  omega
theorem sumsL_lev {ns : List Int} {l : Nat} (h1 : 1 ≤ l) (h : l ≤ ns.length) : sumsL (levL ns) l = (sumsL ns l).map fun s => (ns.length : Int) * s - (l : Int) * ns.sum := by
  unfold sumsL
  rw [lev_length, List.map_map]
  refine List.map_congr_left fun b hb => ?_
  have := List.mem_range.mp hb
  exact ssum_lev (by omega)
theorem filter_all {α : Type} (p : α → Bool) (xs : List α) : ((xs.filter p).length : Int) = (xs.length : Int) ↔ ∀ x ∈ xs, p x = true := by
  rw [Int.ofNat_inj, List.length_filter_eq_length_iff]
theorem w_gains (S : List Int) (n k : Int) : decide (word (S.map fun s => n * s - k) = "gains") = decide (((S.filter fun s => decide (k < n * s)).length : Int) = (S.length : Int)) := by
  rw [decide_eq_decide, word_gains, filter_all]
  simp only [List.mem_map, forall_exists_index, and_imp, forall_apply_eq_imp_iff₂, decide_eq_true_eq]
  exact ⟨fun h s hs => by have := h s hs; omega, fun h s hs => by have := h s hs; omega⟩
theorem w_loses {S : List Int} (hS : S ≠ []) (n k : Int) : decide (word (S.map fun s => n * s - k) = "loses") = decide (((S.filter fun s => decide (n * s < k)).length : Int) = (S.length : Int)) := by
  rw [decide_eq_decide, word_loses (by simpa using hS), filter_all]
  simp only [List.mem_map, forall_exists_index, and_imp, forall_apply_eq_imp_iff₂, decide_eq_true_eq]
  exact ⟨fun h s hs => by have := h s hs; omega, fun h s hs => by have := h s hs; omega⟩
theorem w_flat {S : List Int} (hS : S ≠ []) (n k : Int) : decide (word (S.map fun s => n * s - k) = "flat") = decide ((S.filter fun s => decide (k < n * s)) ++ (S.filter fun s => decide (n * s < k)) = []) := by
  rw [decide_eq_decide, word_flat (by simpa using hS), List.append_eq_nil_iff, List.filter_eq_nil_iff, List.filter_eq_nil_iff]
  simp only [List.mem_map, forall_exists_index, and_imp, forall_apply_eq_imp_iff₂, decide_eq_true_eq]
  exact ⟨fun h => ⟨fun s hs => by have := h s hs; omega, fun s hs => by have := h s hs; omega⟩, fun h s hs => by have := h.1 s hs; have := h.2 s hs; omega⟩
end Lw
end
section
namespace Lw
open PySem L2 Z
/-! sorts go along -/
theorem ssum_mul (ns : List Int) (k : Int) (b l : Nat) : ssum (ns.map fun a => a * k) b l = ssum ns b l * k := by
  unfold ssum
  rw [← List.map_drop, ← List.map_take]
  generalize (ns.drop b).take l = xs
  induction xs with
  | nil => simp
  | cons a r ih => rw [List.map_cons, List.sum_cons, List.sum_cons, ih, Int.add_mul]
theorem ssum_plus {ns : List Int} (k : Int) {b l : Nat} (h : b + l ≤ ns.length) : ssum (ns.map fun a => a + k) b l = ssum ns b l + (l : Int) * k := by
  unfold ssum
  rw [← List.map_drop, ← List.map_take]
  have hl : ((ns.drop b).take l).length = l := by rw [List.length_take, List.length_drop]; omega
  clear h
  generalize (ns.drop b).take l = xs at hl
  subst hl
  induction xs with
  | nil => simp
  | cons a r ih => rw [List.map_cons, List.sum_cons, List.sum_cons, ih, List.length_cons, Int.natCast_add, Int.add_mul]; omega
theorem sumsL_mul (ns : List Int) (k : Int) (l : Nat) : sumsL (ns.map fun a => a * k) l = (sumsL ns l).map fun s => s * k := by
  unfold sumsL
  rw [List.length_map, List.map_map]
  exact List.map_congr_left fun b _ => ssum_mul ns k b l
theorem sumsL_plus {ns : List Int} (k : Int) {l : Nat} (h1 : 1 ≤ l) : sumsL (ns.map fun a => a + k) l = (sumsL ns l).map fun s => s + (l : Int) * k := by
  unfold sumsL
  rw [List.length_map, List.map_map]
  refine List.map_congr_left fun b hb => ssum_plus k ?_
  have := List.mem_range.mp hb
  omega
theorem ssum_rev {ns : List Int} {b l : Nat} (h : b + l ≤ ns.length) : ssum ns.reverse b l = ssum ns (ns.length - b - l) l := by
  unfold ssum
  rw [List.drop_reverse, List.take_reverse, List.sum_reverse]
  congr 1
  rw [List.length_take, List.drop_take, Nat.min_eq_left (by omega)]
  congr 1
  omega
theorem sumsL_rev {ns : List Int} {l : Nat} (h1 : 1 ≤ l) : sumsL ns.reverse l = (sumsL ns l).reverse := by
  apply List.ext_getElem?
  intro i
  by_cases h : i < ns.length + 1 - l
  · rw [sumsL_get (by rw [List.length_reverse]; omega), List.getElem?_reverse (by rw [sumsL_length]; omega), sumsL_length, sumsL_get (by omega), ssum_rev (by omega)]
    congr 2
    omega
  · rw [List.getElem?_eq_none (by rw [sumsL_length, List.length_reverse]; omega), List.getElem?_eq_none (by rw [List.length_reverse, sumsL_length]; omega)]
theorem word_map {f : Int → Int} (h1 : ∀ a, 0 < f a ↔ 0 < a) (h2 : ∀ a, f a < 0 ↔ a < 0) (h3 : ∀ a, f a = 0 ↔ a = 0) (xs : List Int) : word (xs.map f) = word xs := by
  have e1 : (fun x => decide (0 < x)) ∘ f = fun x => decide (0 < x) := funext fun a => decide_eq_decide.mpr (h1 a)
  have e2 : (fun x => decide (x < 0)) ∘ f = fun x => decide (x < 0) := funext fun a => decide_eq_decide.mpr (h2 a)
  have e3 : (fun x => decide (x = 0)) ∘ f = fun x => decide (x = 0) := funext fun a => decide_eq_decide.mpr (h3 a)
  unfold word
  rw [List.all_map, List.all_map, List.all_map, e1, e2, e3]
theorem word_rev (xs : List Int) : word xs.reverse = word xs := by
  unfold word
  rw [List.all_reverse, List.all_reverse, List.all_reverse]
/-- the contrary word -/
def turnW (w : Str) : Str := if w = "gains" then "loses" else if w = "loses" then "gains" else w
theorem word_neg {f : Int → Int} (h1 : ∀ a, 0 < f a ↔ a < 0) (h2 : ∀ a, f a < 0 ↔ 0 < a) (h3 : ∀ a, f a = 0 ↔ a = 0) {xs : List Int} (hn : xs ≠ []) : word (xs.map f) = turnW (word xs) := by
  have hm : xs.map f ≠ [] := fun e => hn (List.map_eq_nil_iff.mp e)
  unfold turnW
  rcases word_cases xs with e | e | e | e
  · rw [e, if_pos rfl, word_loses hm]
    intro x hx
    obtain ⟨a, ha, rfl⟩ := List.mem_map.mp hx
    exact (h2 a).mpr (word_gains.mp e a ha)
  · rw [e, if_neg (by decide), if_pos rfl, word_gains]
    intro x hx
    obtain ⟨a, ha, rfl⟩ := List.mem_map.mp hx
    exact (h1 a).mpr ((word_loses hn).mp e a ha)
  · rw [e, if_neg (by decide), if_neg (by decide), word_flat hm]
    intro x hx
    obtain ⟨a, ha, rfl⟩ := List.mem_map.mp hx
    exact (h3 a).mpr ((word_flat hn).mp e a ha)
  · rw [e, if_neg (by decide), if_neg (by decide)]
    rcases word_cases (xs.map f) with q | q | q | q
    · have : word xs = "loses" := (word_loses hn).mpr fun a ha => (h1 a).mp (word_gains.mp q _ (List.mem_map.mpr ⟨a, ha, rfl⟩))
      rw [e] at this
      exact absurd this (by decide)
    · have : word xs = "gains" := word_gains.mpr fun a ha => (h2 a).mp ((word_loses hm).mp q _ (List.mem_map.mpr ⟨a, ha, rfl⟩))
      rw [e] at this
      exact absurd this (by decide)
    · have : word xs = "flat" := (word_flat hn).mpr fun a ha => (h3 a).mp ((word_flat hm).mp q _ (List.mem_map.mpr ⟨a, ha, rfl⟩))
      rw [e] at this
      exact absurd this (by decide)
    · exact q
theorem mul_sgn {a k : Int} (hk : 0 < k) : (0 < a * k ↔ 0 < a) ∧ (a * k < 0 ↔ a < 0) := by
  rcases Int.lt_trichotomy a 0 with h | h | h
  · have := Int.mul_neg_of_neg_of_pos h hk
    omega
  · subst h
    rw [Int.zero_mul]
    exact ⟨Iff.rfl, Iff.rfl⟩
  · have := Int.mul_pos h hk
    omega
theorem wordsL_ext {ms ns : List Int} {g : Str → Str} (hl : ms.length = ns.length) (h : ∀ l, 1 ≤ l → l ≤ ns.length → word (sumsL ms l) = g (word (sumsL ns l))) : wordsL ms = (wordsL ns).map g := by
  unfold wordsL
  rw [List.map_map, hl]
  refine List.map_congr_left fun k hk => ?_
  have := List.mem_range.mp hk
  exact h (k + 1) (by omega) (by omega)
theorem wordsL_ext0 {ms ns : List Int} (hl : ms.length = ns.length) (h : ∀ l, 1 ≤ l → l ≤ ns.length → word (sumsL ms l) = word (sumsL ns l)) : wordsL ms = wordsL ns := by
  rw [wordsL_ext (g := id) hl h, List.map_id]
theorem wordsL_all {ns : List Int} {w : Str} (h : ∀ l, 1 ≤ l → l ≤ ns.length → word (sumsL ns l) = w) : wordsL ns = List.replicate ns.length w := by
  unfold wordsL
  apply List.ext_getElem?
  intro i
  by_cases hi : i < ns.length
  · rw [List.getElem?_map, List.getElem?_range hi, List.getElem?_replicate_of_lt hi]
    exact congrArg some (h (i + 1) (by omega) (by omega))
  · rw [List.getElem?_eq_none (by simpa using hi), List.getElem?_eq_none (by simpa using hi)]
theorem wordsL_rev (ns : List Int) : wordsL ns.reverse = wordsL ns := wordsL_ext0 (List.length_reverse) fun l h1 _ => by rw [sumsL_rev h1, word_rev]
theorem wordsL_mul (ns : List Int) {k : Int} (hk : 0 < k) : wordsL (ns.map fun a => a * k) = wordsL ns := wordsL_ext0 (List.length_map _) fun l h1 _ => by
  rw [sumsL_mul]
  exact word_map (fun a => (mul_sgn hk).1) (fun a => (mul_sgn hk).2) (fun a => by rw [Int.mul_eq_zero]; omega) _
theorem wordsL_neg (ns : List Int) {k : Int} (hk : 0 < k) : wordsL (ns.map fun a => a * -k) = (wordsL ns).map turnW := wordsL_ext (List.length_map _) fun l h1 h2 => by
  rw [sumsL_mul]
  refine word_neg (fun a => ?_) (fun a => ?_) (fun a => ?_) (sumsL_ne h2)
  · rw [Int.mul_neg, Int.neg_pos]
    exact (mul_sgn hk).2
  · rw [Int.mul_neg, Int.neg_lt_zero_iff]
    exact (mul_sgn hk).1
  · rw [Int.mul_eq_zero]; omega
theorem wordsL_zero (ns : List Int) : wordsL (ns.map fun a => a * 0) = List.replicate ns.length ("flat" : Str) := by
  rw [wordsL_all (w := "flat"), List.length_map]
  intro l h1 h2
  rw [List.length_map] at h2
  rw [sumsL_mul, word_flat (fun e => sumsL_ne h2 (List.map_eq_nil_iff.mp e))]
  intro x hx
  obtain ⟨a, ha, rfl⟩ := List.mem_map.mp hx
  exact Int.mul_zero a
theorem ssum_pos {ns : List Int} (h : ∀ a ∈ ns, 0 < a) {b l : Nat} (h1 : 1 ≤ l) (h2 : b + l ≤ ns.length) : 0 < ssum ns b l := by
  unfold ssum
  refine sum_pos (fun e => ?_) fun x hx => h x (List.mem_of_mem_drop (List.mem_of_mem_take hx))
  have := congrArg List.length e
  rw [List.length_take, List.length_drop, List.length_nil] at this
  omega
theorem ssum_neg {ns : List Int} (h : ∀ a ∈ ns, a < 0) {b l : Nat} (h1 : 1 ≤ l) (h2 : b + l ≤ ns.length) : ssum ns b l < 0 := by
  unfold ssum
  refine sum_neg (fun e => ?_) fun x hx => h x (List.mem_of_mem_drop (List.mem_of_mem_take hx))
  have := congrArg List.length e
  rw [List.length_take, List.length_drop, List.length_nil] at this
  omega
theorem wordsL_up {ns : List Int} (h : ∀ a ∈ ns, 0 < a) : wordsL ns = List.replicate ns.length ("gains" : Str) := by
  refine wordsL_all fun l h1 h2 => word_gains.mpr fun x hx => ?_
  obtain ⟨b, hb, rfl⟩ := sumsL_mem.mp hx
  exact ssum_pos h h1 (by omega)
theorem wordsL_down {ns : List Int} (h : ∀ a ∈ ns, a < 0) : wordsL ns = List.replicate ns.length ("loses" : Str) := by
  refine wordsL_all fun l h1 h2 => (word_loses (sumsL_ne h2)).mpr fun x hx => ?_
  obtain ⟨b, hb, rfl⟩ := sumsL_mem.mp hx
  exact ssum_neg h h1 (by omega)
theorem wordsL_great {ns : List Int} {m : Int} (h : ∀ y ∈ ns.map (fun a : Int => if a < 0 then -a else a), y ≤ m) : wordsL (ns.map fun a => a + (1 + m)) = List.replicate ns.length ("gains" : Str) ∧ wordsL (ns.map fun a => a + -(1 + m)) = List.replicate ns.length ("loses" : Str) := by
  constructor
  · rw [wordsL_up, List.length_map]
    intro x hx
    obtain ⟨a, ha, rfl⟩ := List.mem_map.mp hx
    have := h _ (List.mem_map.mpr ⟨a, ha, rfl⟩)
    split at this <;> omega
  · rw [wordsL_down, List.length_map]
    intro x hx
    obtain ⟨a, ha, rfl⟩ := List.mem_map.mp hx
    have := h _ (List.mem_map.mpr ⟨a, ha, rfl⟩)
    split at this <;> omega
/-! two rows added -/
theorem ssum_zip {a b : List Int} (h : b.length = a.length) (s l : Nat) : ssum (List.zipWith (fun x y : Int => x + y) a b) s l = ssum a s l + ssum b s l := by
  unfold ssum
  rw [List.drop_zipWith, List.take_zipWith]
  have hl : ((b.drop s).take l).length = ((a.drop s).take l).length := by simp [h]
  generalize (a.drop s).take l = xs at hl
  generalize (b.drop s).take l = ys at hl
  induction xs generalizing ys with
  | nil => cases ys with
    | nil => rfl
    | cons => simp at hl
  | cons x r ih => cases ys with
    | nil => simp at hl
    | cons y q =>
      rw [List.zipWith_cons_cons, List.sum_cons, List.sum_cons, List.sum_cons, ih q (by simpa using hl)]
      omega
theorem added_word {a b : List Int} (h : b.length = a.length) {l : Nat} (h1 : 1 ≤ l) (h2 : l ≤ a.length) : (word (sumsL a l) = word (sumsL b l) → word (sumsL a l) ≠ "mixed" → word (sumsL (List.zipWith (fun x y : Int => x + y) a b) l) = word (sumsL a l)) ∧ (word (sumsL a l) = "flat" → word (sumsL (List.zipWith (fun x y : Int => x + y) a b) l) = word (sumsL b l)) ∧ (word (sumsL b l) = "flat" → word (sumsL (List.zipWith (fun x y : Int => x + y) a b) l) = word (sumsL a l)) := by
  have hz : (List.zipWith (fun x y : Int => x + y) a b).length = a.length := by rw [List.length_zipWith]; omega
  have na := sumsL_ne (ns := a) (l := l) h2
  have nb := sumsL_ne (ns := b) (l := l) (by omega)
  have nz := sumsL_ne (ns := List.zipWith (fun x y : Int => x + y) a b) (l := l) (by omega)
  refine ⟨fun e hm => ?_, fun e => ?_, fun e => ?_⟩
  · rcases word_cases (sumsL a l) with q | q | q | q
    · rw [q] at e ⊢
      refine word_gains.mpr fun x hx => ?_
      obtain ⟨s, hs, rfl⟩ := sumsL_mem.mp hx
      rw [ssum_zip h]
      have := word_gains.mp q _ (sumsL_mem.mpr ⟨s, by omega, rfl⟩)
      have := word_gains.mp e.symm _ (sumsL_mem.mpr ⟨s, by omega, rfl⟩)
      omega
    · rw [q] at e ⊢
      refine (word_loses nz).mpr fun x hx => ?_
      obtain ⟨s, hs, rfl⟩ := sumsL_mem.mp hx
      rw [ssum_zip h]
      have := (word_loses na).mp q _ (sumsL_mem.mpr ⟨s, by omega, rfl⟩)
      have := (word_loses nb).mp e.symm _ (sumsL_mem.mpr ⟨s, by omega, rfl⟩)
      omega
    · rw [q] at e ⊢
      refine (word_flat nz).mpr fun x hx => ?_
      obtain ⟨s, hs, rfl⟩ := sumsL_mem.mp hx
      rw [ssum_zip h]
      have := (word_flat na).mp q _ (sumsL_mem.mpr ⟨s, by omega, rfl⟩)
      have := (word_flat nb).mp e.symm _ (sumsL_mem.mpr ⟨s, by omega, rfl⟩)
      omega
    · exact absurd q hm
  · have : sumsL (List.zipWith (fun x y : Int => x + y) a b) l = sumsL b l := by
      unfold sumsL
      rw [hz, h]
      refine List.map_congr_left fun s hs => ?_
      rw [ssum_zip h]
      have := (word_flat na).mp e _ (sumsL_mem.mpr ⟨s, List.mem_range.mp hs, rfl⟩)
      omega
    rw [this]
  · have : sumsL (List.zipWith (fun x y : Int => x + y) a b) l = sumsL a l := by
      unfold sumsL
      rw [hz]
      refine List.map_congr_left fun s hs => ?_
      rw [ssum_zip h]
      have := (word_flat nb).mp e _ (sumsL_mem.mpr ⟨s, by rw [h]; exact List.mem_range.mp hs, rfl⟩)
      omega
    rw [this]
/-! a row joined with one -/
theorem ssum_appL {a b : List Int} {s l : Nat} (h : s + l ≤ a.length) : ssum (a ++ b) s l = ssum a s l := by
  unfold ssum
  rw [List.drop_append_of_le_length (by omega), List.take_append_of_le_length (by rw [List.length_drop]; omega)]
theorem ssum_appR {a b : List Int} {s l : Nat} : ssum (a ++ b) (a.length + s) l = ssum b s l := by
  unfold ssum
  rw [← List.drop_drop, List.drop_left]
theorem joined_word {a b : List Int} {l : Nat} (h1 : 1 ≤ l) (hm : word (sumsL (a ++ b) l) ≠ "mixed") : (l ≤ a.length → word (sumsL a l) = word (sumsL (a ++ b) l)) ∧ (l ≤ b.length → word (sumsL b l) = word (sumsL (a ++ b) l)) := by
  have hl : (a ++ b).length = a.length + b.length := List.length_append
  have ia : l ≤ a.length → ∀ x ∈ sumsL a l, x ∈ sumsL (a ++ b) l := fun h2 x hx => by
    obtain ⟨s, hs, rfl⟩ := sumsL_mem.mp hx
    exact sumsL_mem.mpr ⟨s, by omega, (ssum_appL (by omega)).symm⟩
  have ib : l ≤ b.length → ∀ x ∈ sumsL b l, x ∈ sumsL (a ++ b) l := fun h2 x hx => by
    obtain ⟨s, hs, rfl⟩ := sumsL_mem.mp hx
    exact sumsL_mem.mpr ⟨a.length + s, by omega, ssum_appR.symm⟩
  have key : ∀ xs : List Int, xs ≠ [] → sumsL (a ++ b) l ≠ [] → (∀ x ∈ xs, x ∈ sumsL (a ++ b) l) → word xs = word (sumsL (a ++ b) l) := fun xs hn hn2 hi => by
    rcases word_cases (sumsL (a ++ b) l) with q | q | q | q
    · rw [q]; exact word_gains.mpr fun x hx => word_gains.mp q x (hi x hx)
    · rw [q]; exact (word_loses hn).mpr fun x hx => (word_loses hn2).mp q x (hi x hx)
    · rw [q]; exact (word_flat hn).mpr fun x hx => (word_flat hn2).mp q x (hi x hx)
    · exact absurd q hm
  exact ⟨fun h2 => key _ (sumsL_ne h2) (sumsL_ne (by omega)) (ia h2), fun h2 => key _ (sumsL_ne h2) (sumsL_ne (by omega)) (ib h2)⟩
/-! a row joined with itself -/
theorem twice_sum {ns : List Int} {b : Nat} (h : b ≤ ns.length) : ssum (ns ++ ns) b ns.length = ns.sum := by
  unfold ssum
  rw [List.drop_append_of_le_length h, List.take_append, List.take_of_length_le (by rw [List.length_drop]; omega), List.length_drop, show ns.length - (ns.length - b) = b by omega, List.sum_append, Int.add_comm, ← List.sum_append, List.take_append_drop]
theorem twice_sums (ns : List Int) : sumsL (ns ++ ns) ns.length = List.replicate (ns.length + 1) ns.sum := by
  apply List.ext_getElem?
  intro i
  by_cases hi : i < ns.length + 1
  · rw [sumsL_get (by rw [List.length_append]; omega), List.getElem?_replicate_of_lt hi, twice_sum (by omega)]
  · rw [List.getElem?_eq_none (by rw [sumsL_length, List.length_append]; omega), List.getElem?_eq_none (by simpa using hi)]
theorem word_rep {n : Nat} {t : Int} : word (List.replicate (n + 1) t) = if 0 < t then ("gains" : Str) else if t < 0 then "loses" else "flat" := by
  have hn : List.replicate (n + 1) t ≠ [] := by simp
  by_cases h : 0 < t
  · rw [if_pos h]; exact word_gains.mpr fun x hx => by rw [List.eq_of_mem_replicate hx]; exact h
  · rw [if_neg h]
    by_cases g : t < 0
    · rw [if_pos g]; exact (word_loses hn).mpr fun x hx => by rw [List.eq_of_mem_replicate hx]; exact g
    · rw [if_neg g]; exact (word_flat hn).mpr fun x hx => by rw [List.eq_of_mem_replicate hx]; omega
theorem twice_word (ns : List Int) : word (sumsL (ns ++ ns) ns.length) = if 0 < ns.sum then ("gains" : Str) else if ns.sum < 0 then "loses" else "flat" := by
  rw [twice_sums, word_rep]
theorem twice_word2 (ns : List Int) : word (sumsL (ns ++ ns) (2 * ns.length)) = if 0 < ns.sum then ("gains" : Str) else if ns.sum < 0 then "loses" else "flat" := by
  have e : 2 * ns.length = (ns ++ ns).length := by rw [List.length_append]; omega
  rw [e, sumsL_all, List.sum_append, show [ns.sum + ns.sum] = List.replicate (0 + 1) (ns.sum + ns.sum) from rfl, word_rep]
  have e1 : (0 < ns.sum + ns.sum) = (0 < ns.sum) := propext (by omega)
  have e2 : (ns.sum + ns.sum < 0) = (ns.sum < 0) := propext (by omega)
  simp only [e1, e2]
theorem range_add (f g : Nat → Int) (n : Nat) : ((List.range n).map fun b => f b + g b).sum = ((List.range n).map f).sum + ((List.range n).map g).sum := by
  induction n with
  | zero => rfl
  | succ n ih => rw [List.range_succ, List.map_append, List.map_append, List.map_append, List.sum_append, List.sum_append, List.sum_append, ih]; simp only [List.map_cons, List.map_nil, List.sum_cons, List.sum_nil]; omega
theorem ssum_range {ns : List Int} {b l : Nat} (h : b + l ≤ ns.length) : ssum ns b l = ((List.range l).map fun i => ns.getD (b + i) 0).sum := by
  unfold ssum
  congr 1
  apply List.ext_getElem?
  intro i
  by_cases hi : i < l
  · rw [List.getElem?_take_of_lt hi, List.getElem?_drop, List.getElem?_map, List.getElem?_range hi, Option.map_some, List.getD_eq_getElem?_getD, List.getElem?_eq_getElem (by omega)]
    rfl
  · rw [List.getElem?_eq_none (by rw [List.length_take]; omega), List.getElem?_eq_none (by simpa using hi)]
theorem twice_ring {ns : List Int} : ∀ {l : Nat}, l ≤ ns.length → ((List.range ns.length).map fun b => ssum (ns ++ ns) b l).sum = (l : Int) * ns.sum
  | 0, _ => by
    have : ∀ b, ssum (ns ++ ns) b 0 = 0 := fun b => by unfold ssum; simp
    simp only [this]
    rw [Int.natCast_zero, Int.zero_mul]
    exact sum_zero fun x hx => by obtain ⟨_, _, rfl⟩ := List.mem_map.mp hx; rfl
  | l + 1, h => by
    have e : (List.range ns.length).map (fun b => ssum (ns ++ ns) b (l + 1)) = (List.range ns.length).map fun b => ssum (ns ++ ns) b l + (ns ++ ns).getD (l + b) 0 := by
      refine List.map_congr_left fun b hb => ?_
      have hb := List.mem_range.mp hb
      rw [ssum_add, ssum_one (x := (ns ++ ns).getD (l + b) 0)]
      rw [List.getD_eq_getElem?_getD, Nat.add_comm b l, List.getElem?_eq_getElem (by rw [List.length_append]; omega)]
      rfl
    rw [e, range_add, twice_ring (by omega), ← ssum_range (by rw [List.length_append]; omega), twice_sum (by omega), Int.natCast_add, Int.add_mul]
    omega
theorem twice_none {ns : List Int} (hz : ns.sum = 0) {l : Nat} (h1 : 1 ≤ l) (h2 : l ≤ ns.length) : word (sumsL (ns ++ ns) l) ≠ "gains" ∧ word (sumsL (ns ++ ns) l) ≠ "loses" := by
  have hr := twice_ring h2
  rw [hz, Int.mul_zero] at hr
  have hm : ∀ x ∈ (List.range ns.length).map (fun b => ssum (ns ++ ns) b l), x ∈ sumsL (ns ++ ns) l := fun x hx => by
    obtain ⟨b, hb, rfl⟩ := List.mem_map.mp hx
    exact sumsL_mem.mpr ⟨b, by have := List.mem_range.mp hb; rw [List.length_append]; omega, rfl⟩
  have h3 : 0 < ns.length := by omega
  have hn : (List.range ns.length).map (fun b => ssum (ns ++ ns) b l) ≠ [] := fun e => by
    have := congrArg List.length e
    rw [List.length_map, List.length_range, List.length_nil] at this
    omega
  refine ⟨fun e => ?_, fun e => ?_⟩
  · have := sum_pos hn fun x hx => word_gains.mp e x (hm x hx)
    omega
  · have := sum_neg hn fun x hx => (word_loses (sumsL_ne (by rw [List.length_append]; omega))).mp e x (hm x hx)
    omega
theorem second_at {W x y : Str} (h : ¬ W = x) : ∀ m, m < 1 → [W, y][m]? ≠ some x := fun m hm e => by
  obtain rfl : m = 0 := by omega
  exact h (Option.some_inj.mp e)
theorem toNat_succ (n : Nat) : ((n : Int) + 1).toNat = n + 1 := by omega
theorem twice_in {ns : List Int} (hz : ns.sum = 0) {w : Str} (h : w ∈ (wordsL (ns ++ ns)).take ns.length) : SeqAt.shaped (.str w) = true ∧ ¬ w = "gains" ∧ ¬ w = "loses" := by
  obtain ⟨i, hi⟩ := List.mem_iff_getElem?.mp h
  have hl : i < ns.length := by
    have := (List.getElem?_eq_some_iff.mp hi).1
    rw [List.length_take] at this
    omega
  rw [List.getElem?_take_of_lt hl, wordsL_get (by rw [List.length_append]; omega), Option.some_inj] at hi
  subst hi
  exact ⟨word_ok _, twice_none hz (by omega) (by omega)⟩
theorem wordsL_turn (ns : List Int) {k : Int} (hk : 0 < k) : wordsL (ns.map fun a => a * -k) = (wordsL ns).map fun a => if a = ("gains" : Str) then ("loses" : Str) else if a = ("loses" : Str) then ("gains" : Str) else a := wordsL_neg ns hk
theorem turned_ok (ns : List Int) : Z.shapes ((wordsL ns).map fun a => if a = ("gains" : Str) then ("loses" : Str) else if a = ("loses" : Str) then ("gains" : Str) else a) = true := Z.shapes_map (fun x h => by
  split
  · decide +kernel
  · split
    · decide +kernel
    · exact h) (wordsL_ok ns)
/-! gains from heights -/
theorem gains_hts (ns : List Int) : (List.range (((hts ns).length : Int) - 1).toNat).map (fun i : Nat => D.int (gi (hts ns) (0 + (i : Int) + 1) - gi (hts ns) (0 + (i : Int)))) = zs ns := by
  have e : (((hts ns).length : Int) - 1).toNat = ns.length := by rw [hts_length]; omega
  rw [e]
  unfold zs
  apply List.ext_getElem?
  intro i
  by_cases h : i < ns.length
  · rw [List.getElem?_map, List.getElem?_range h, List.getElem?_map, List.getElem?_eq_getElem h, Option.map_some, Option.map_some]
    rw [gi_hts (k := i + 1) (by omega) (by omega), gi_hts (k := i) (by omega) (by omega), take_step (List.getElem?_eq_getElem h)]
    congr 2
    omega
  · rw [List.getElem?_eq_none (by simpa using h), List.getElem?_eq_none (by simpa using h)]
theorem sum_within {m : Int} : ∀ ns : List Int, (∀ x ∈ ns, -m ≤ x ∧ x ≤ m) → -(m * ns.length) ≤ ns.sum ∧ ns.sum ≤ m * ns.length
  | [], _ => by simp
  | x :: ns, h => by
    have a := sum_within ns fun y hy => h y (List.mem_cons_of_mem _ hy)
    have b := h x List.mem_cons_self
    rw [List.sum_cons, List.length_cons, Int.natCast_add, Int.mul_add]
    omega
end Lw
end
section
namespace Lw
open PySem L2 Z
theorem cut_last {ns : List Int} {i : Int} (hi : i = -1) (h : 1 ≤ ns.length) : cutD (zs ns) none (some i) = zs ns.dropLast := by
  subst hi
  unfold cutD
  rw [List.dropLast_eq_take]
  unfold HT.sIx
  simp [zs, List.map_take]
  omega
theorem we_last {K : PySem.W.Frag} {fx : Fx} {E : Z.Env} {Q : D → Z.Env → Prop} {te tl th} (h : We K fx te E fun d E1 => Wp K fx tl E1 fun lo E2 => Wp K fx th E2 fun hi E3 => lo = none ∧ ∃ j, hi = some j ∧ ∃ ns, d = .lst (zs ns) ∧ (j = -1 ∧ 1 ≤ ns.length) ∧ Q (.lst (zs ns.dropLast)) E3) : We K fx (tSl (rSlU K) te tl th) E Q :=
  we_of (wo_sl (We.mono h fun d E1 h => Wp.mono h fun lo E2 h => Wp.mono h fun hi E3 ⟨e1, j, e2, ns, e3, e4, q⟩ => ⟨zs ns, e3, by
    rw [e1, e2, cut_last e4.1 e4.2]; exact q⟩))
theorem nolst_zs : ∀ ns : List Int, nolsts (zs ns) = true
  | [] => rfl
  | a :: r => by
    show (nolst (.int a) && nolsts (zs r)) = true
    rw [nolst_zs r]; rfl
theorem nolst_row {C : Addr} (ns : List Int) : nolst (.ob C (rowF ns)) = true := by
  simp [rowF, nolst, nolstf, nolst_zs]
theorem shaped_of {x : Str} (h : ∀ c ∈ x.cps, c < 0x110000) : SeqAt.shaped (.str x) = true := by
  simp only [SeqAt.shaped, PyData.canLay0, PyData.depth, PyData.strOk]
  rw [Bool.and_eq_true]
  refine ⟨?_, decide_eq_true (Nat.zero_le _)⟩
  rw [Array.all_eq_true_iff_forall_mem]
  intro c hc
  exact decide_eq_true (h c hc)
theorem of_shaped {x : Str} (h : SeqAt.shaped (.str x) = true) : ∀ c ∈ x.cps, c < 0x110000 := by
  simp only [SeqAt.shaped, PyData.canLay0, PyData.depth, PyData.strOk] at h
  rw [Bool.and_eq_true, Array.all_eq_true_iff_forall_mem] at h
  exact fun c hc => of_decide_eq_true (h.1 c hc)
theorem shaped_text (x : String) : SeqAt.shaped (.str (Str.ofString x)) = true := by
  refine shaped_of fun c hc => ?_
  rw [Str.ofString_eq_toList] at hc
  simp at hc
  obtain ⟨a, _, rfl⟩ := hc
  exact a.valid.elim (fun h => by have : a.toNat = a.val.toNat := rfl; omega) (fun h => by have : a.toNat = a.val.toNat := rfl; omega)
theorem shaped_fold {s : Str} (hs : ∀ c ∈ s.cps, c < 0x110000) : ∀ (xs : List Str) (a : Array Nat), (∀ c ∈ a, c < 0x110000) → (∀ x ∈ xs, ∀ c ∈ x.cps, c < 0x110000) → ∀ c ∈ xs.foldl (fun acc p => acc ++ s.cps ++ p.cps) a, c < 0x110000
  | [], a, ha, _ => ha
  | x :: xs, a, ha, hx => by
    rw [List.foldl_cons]
    refine shaped_fold hs xs _ (fun c hc => ?_) fun y hy => hx y (List.mem_cons_of_mem _ hy)
    rw [Array.mem_append, Array.mem_append] at hc
    rcases hc with (hc | hc) | hc
    · exact ha c hc
    · exact hs c hc
    · exact hx x List.mem_cons_self c hc
theorem shaped_join {s : Str} (hs : SeqAt.shaped (.str s) = true) {xs : List Str} (h : ∀ x ∈ xs, SeqAt.shaped (.str x) = true) : SeqAt.shaped (.str (Txt.join s xs)) = true := by
  refine shaped_of ?_
  cases xs with
  | nil => exact fun c hc => by simp [Txt.join, Builtin.Str.glued, Str.empty] at hc
  | cons x xs =>
    exact shaped_fold (of_shaped hs) xs x.cps (of_shaped (h x List.mem_cons_self)) fun y hy => of_shaped (h y (List.mem_cons_of_mem _ hy))
theorem shaped_row (ns : List Int) : SeqAt.shaped (.str (Txt.join (Str.ofString " ") (ns.map fun a => Str.ofString (toString a)))) = true :=
  shaped_join (shaped_text _) fun x hx => by
    obtain ⟨a, _, rfl⟩ := List.mem_map.mp hx
    exact shaped_text _
end Lw
namespace Lw
open PySem L2 Z
def pts (ps : List (Nat × Nat)) : List D := ps.map fun p => .tup [.int p.1, .int p.2]
theorem pts_length (ps : List (Nat × Nat)) : (pts ps).length = ps.length := List.length_map ..
theorem pts_app (ps qs : List (Nat × Nat)) : pts (ps ++ qs) = pts ps ++ pts qs := List.map_append ..
theorem pts_get {ps : List (Nat × Nat)} {i : Nat} {d : D} (h : (pts ps)[i]? = some d) : ∃ b l, (b, l) ∈ ps ∧ d = .tup [.int (b : Nat), .int (l : Nat)] := by
  unfold pts at h
  rw [List.getElem?_map] at h
  cases e : ps[i]? with
  | none => rw [e] at h; cases h
  | some p => rw [e] at h; cases h; exact ⟨p.1, p.2, List.mem_of_getElem? e, rfl⟩
theorem pts_row (b m : Nat) : ((List.range m).map fun k => D.tup [.int (b : Nat), .int ((k + 1 : Nat) : Int)]) = pts ((List.range m).map fun k => (b, k + 1)) := by
  unfold pts; rw [List.map_map]; rfl
theorem pt_eq {a b c d : Int} (h : a = b) (k : c = d) : D.tup [.int a, .int c] = .tup [.int b, .int d] := by rw [h, k]
end Lw
end
section
/-! the least and the greatest of a list, their first and last places -/
namespace Lw
open PySem L2 Z
def minF (S : List Int) : Int := S.tail.foldl min (S.headD 0)
def maxF (S : List Int) : Int := S.tail.foldl max (S.headD 0)
theorem foldl_min : ∀ (r : List Int) (a : Int), r.foldl min a ∈ a :: r ∧ ∀ y ∈ a :: r, r.foldl min a ≤ y
  | [], a => by simp
  | b :: r, a => by
    obtain ⟨h1, h2⟩ := foldl_min r (min a b)
    rw [List.foldl_cons]
    refine ⟨?_, fun y hy => ?_⟩
    · rcases List.mem_cons.mp h1 with h | h
      · rw [h]
        rcases Int.le_total a b with q | q
        · rw [Int.min_eq_left q]; simp
        · rw [Int.min_eq_right q]; simp
      · simp [h]
    · have h3 := h2 (min a b) List.mem_cons_self
      rcases List.mem_cons.mp hy with rfl | hy
      · exact Int.le_trans h3 (Int.min_le_left _ _)
      · rcases List.mem_cons.mp hy with rfl | hy
        · exact Int.le_trans h3 (Int.min_le_right _ _)
        · exact h2 y (List.mem_cons_of_mem _ hy)
theorem foldl_max : ∀ (r : List Int) (a : Int), r.foldl max a ∈ a :: r ∧ ∀ y ∈ a :: r, y ≤ r.foldl max a
  | [], a => by simp
  | b :: r, a => by
    obtain ⟨h1, h2⟩ := foldl_max r (max a b)
    rw [List.foldl_cons]
    refine ⟨?_, fun y hy => ?_⟩
    · rcases List.mem_cons.mp h1 with h | h
      · rw [h]
        rcases Int.le_total a b with q | q
        · rw [Int.max_eq_right q]; simp
        · rw [Int.max_eq_left q]; simp
      · simp [h]
    · have h3 := h2 (max a b) List.mem_cons_self
      rcases List.mem_cons.mp hy with rfl | hy
      · exact Int.le_trans (Int.le_max_left _ _) h3
      · rcases List.mem_cons.mp hy with rfl | hy
        · exact Int.le_trans (Int.le_max_right _ _) h3
        · exact h2 y (List.mem_cons_of_mem _ hy)
theorem minF_ok {S : List Int} (h : S ≠ []) : minF S ∈ S ∧ ∀ y ∈ S, minF S ≤ y := by
  cases S with
  | nil => exact absurd rfl h
  | cons a r => exact foldl_min r a
theorem maxF_ok {S : List Int} (h : S ≠ []) : maxF S ∈ S ∧ ∀ y ∈ S, y ≤ maxF S := by
  cases S with
  | nil => exact absurd rfl h
  | cons a r => exact foldl_max r a
theorem minF_eq {S : List Int} {m : Int} (h1 : m ∈ S) (h2 : ∀ y ∈ S, m ≤ y) : minF S = m := by
  have hn : S ≠ [] := fun e => by rw [e] at h1; cases h1
  obtain ⟨h3, h4⟩ := minF_ok hn
  exact Int.le_antisymm (h4 m h1) (h2 _ h3)
theorem maxF_eq {S : List Int} {m : Int} (h1 : m ∈ S) (h2 : ∀ y ∈ S, y ≤ m) : maxF S = m := by
  have hn : S ≠ [] := fun e => by rw [e] at h1; cases h1
  obtain ⟨h3, h4⟩ := maxF_ok hn
  exact Int.le_antisymm (h2 _ h3) (h4 m h1)
/-- what least_sum and greatest_sum tell of these sums -/
def lsF (S : List Int) : Int × Nat := (minF S, S.idxOf (minF S))
def gsF (S : List Int) : Int × Nat := (maxF S, S.idxOf (maxF S))
theorem idx_first {S : List Int} {v : Int} {i : Nat} (h : S[i]? = some v) (hf : ∀ j, j < i → S[j]? ≠ some v) : S.idxOf v = i := by
  induction S generalizing i with
  | nil => cases h
  | cons a S ih =>
    cases i with
    | zero =>
      have : a = v := Option.some.inj h
      rw [this]
      simp
    | succ i =>
      have hne : a ≠ v := fun e => hf 0 (by omega) (by rw [e]; rfl)
      rw [List.idxOf_cons, show (a == v) = false by simpa using hne, cond_false, ih (i := i) h (fun j hj => hf (j + 1) (by omega))]
theorem lsF_eq {S : List Int} {v : Int} {i : Nat} (h : S[i]? = some v) (hm : ∀ y ∈ S, v ≤ y) (hf : ∀ j, j < i → S[j]? ≠ some v) : lsF S = (v, i) := by
  unfold lsF
  rw [minF_eq (List.mem_of_getElem? h) hm, idx_first h hf]
theorem gsF_eq {S : List Int} {v : Int} {i : Nat} (h : S[i]? = some v) (hm : ∀ y ∈ S, y ≤ v) (hf : ∀ j, j < i → S[j]? ≠ some v) : gsF S = (v, i) := by
  unfold gsF
  rw [maxF_eq (List.mem_of_getElem? h) hm, idx_first h hf]
/-- least, its first place; greatest, its first place; their last places -/
structure En where
  lv : Int
  li : Nat
  mv : Int
  mi : Nat
  la : Nat
  fa : Nat
def stepE (e : En) (b : Nat) (s : Int) : En :=
  ⟨if s < e.lv then s else e.lv, if s < e.lv then b else e.li, if e.mv < s then s else e.mv, if e.mv < s then b else e.mi, if s ≤ e.lv then b else e.la, if e.mv ≤ s then b else e.fa⟩
def endsT (S : List Int) : Nat → En
  | 0 => ⟨S.headD 0, 0, S.headD 0, 0, 0, 0⟩
  | k + 1 => stepE (endsT S k) (k + 1) (S.getD (k + 1) 0)
structure EnOk (S : List Int) (k : Nat) (e : En) : Prop where
  l1 : e.li ≤ k
  l2 : S[e.li]? = some e.lv
  l3 : ∀ j y, j ≤ k → S[j]? = some y → e.lv ≤ y
  l4 : ∀ j, j < e.li → S[j]? ≠ some e.lv
  a1 : e.la ≤ k
  a2 : S[e.la]? = some e.lv
  a3 : ∀ j, e.la < j → j ≤ k → S[j]? ≠ some e.lv
  m1 : e.mi ≤ k
  m2 : S[e.mi]? = some e.mv
  m3 : ∀ j y, j ≤ k → S[j]? = some y → y ≤ e.mv
  m4 : ∀ j, j < e.mi → S[j]? ≠ some e.mv
  f1 : e.fa ≤ k
  f2 : S[e.fa]? = some e.mv
  f3 : ∀ j, e.fa < j → j ≤ k → S[j]? ≠ some e.mv
theorem ends_ok {S : List Int} : ∀ k, k < S.length → EnOk S k (endsT S k)
  | 0, h => by
    cases S with
    | nil => exact absurd h (Nat.not_lt_zero _)
    | cons a r =>
      have z : ∀ j y, j ≤ 0 → (a :: r)[j]? = some y → y = a := fun j y hj e => by
        obtain rfl : j = 0 := by omega
        exact (Option.some.inj e).symm
      refine ⟨Nat.le_refl _, rfl, fun j y hj e => ?_, fun j hj => absurd hj (Nat.not_lt_zero _), Nat.le_refl _, rfl, fun j h1 h2 => ?_, Nat.le_refl _, rfl, fun j y hj e => ?_, fun j hj => absurd hj (Nat.not_lt_zero _), Nat.le_refl _, rfl, fun j h1 h2 => ?_⟩
      · rw [z j y hj e]; exact Int.le_refl _
      · have h1' : 0 < j := h1; omega
      · rw [z j y hj e]; exact Int.le_refl _
      · have h1' : 0 < j := h1; omega
  | k + 1, h => by
    have i := ends_ok (S := S) k (by omega)
    obtain ⟨s, hs⟩ : ∃ s, S[k + 1]? = some s := ⟨_, List.getElem?_eq_getElem h⟩
    have hd : S.getD (k + 1) 0 = s := by rw [List.getD_eq_getElem?_getD, hs]; rfl
    show EnOk S (k + 1) (stepE (endsT S k) (k + 1) (S.getD (k + 1) 0))
    rw [hd]
    generalize endsT S k = e at i
    obtain ⟨lv, li, mv, mi, la, fa⟩ := e
    obtain ⟨l1, l2, l3, l4, a1, a2, a3, m1, m2, m3, m4, f1, f2, f3⟩ := i
    dsimp only at *
    have at_ : ∀ j y, S[j]? = some y → j = k + 1 → y = s := fun j y e q => by rw [q, hs] at e; exact (Option.some.inj e).symm
    unfold stepE
    constructor <;> dsimp only
    · split <;> omega
    · split
      · exact hs
      · exact l2
    · intro j y hj e
      by_cases q : j = k + 1
      · have := at_ j y e q
        split <;> omega
      · have := l3 j y (by omega) e
        split <;> omega
    · intro j hj e
      split at hj
      · rename_i q
        rw [if_pos q] at e
        have := l3 j s (by omega) e
        omega
      · rename_i q
        rw [if_neg q] at e
        exact l4 j hj e
    · split <;> omega
    · split
      · rename_i q
        split
        · exact hs
        · rw [hs]; congr 1; omega
      · rename_i q
        rw [if_neg (by omega)]
        exact a2
    · intro j hj hk e
      by_cases q : s ≤ lv
      · rw [if_pos q] at hj
        omega
      · rw [if_neg q] at hj
        rw [if_neg (by omega)] at e
        by_cases w : j = k + 1
        · have := at_ j _ e w
          omega
        · exact a3 j hj (by omega) e
    · split <;> omega
    · split
      · exact hs
      · exact m2
    · intro j y hj e
      by_cases q : j = k + 1
      · have := at_ j y e q
        split <;> omega
      · have := m3 j y (by omega) e
        split <;> omega
    · intro j hj e
      split at hj
      · rename_i q
        rw [if_pos q] at e
        have := m3 j s (by omega) e
        omega
      · rename_i q
        rw [if_neg q] at e
        exact m4 j hj e
    · split <;> omega
    · split
      · rename_i q
        split
        · exact hs
        · rw [hs]; congr 1; omega
      · rename_i q
        rw [if_neg (by omega)]
        exact f2
    · intro j hj hk e
      by_cases q : mv ≤ s
      · rw [if_pos q] at hj
        omega
      · rw [if_neg q] at hj
        rw [if_neg (by omega)] at e
        by_cases w : j = k + 1
        · have := at_ j _ e w
          omega
        · exact f3 j hj (by omega) e
abbrev endsF (S : List Int) : En := endsT S (S.length - 1)
structure EnW (S : List Int) (e : En) : Prop where
  l : lsF S = (e.lv, e.li)
  g : gsF S = (e.mv, e.mi)
  ln : lsF (S.map fun a => -a) = (-e.mv, e.mi)
  gn : gsF (S.map fun a => -a) = (-e.lv, e.li)
  lr : lsF S.reverse = (e.lv, S.length - 1 - e.la)
  gr : gsF S.reverse = (e.mv, S.length - 1 - e.fa)
  lp : ∀ c, lsF (S.map fun a => a + c) = (e.lv + c, e.li)
  gp : ∀ c, gsF (S.map fun a => a + c) = (e.mv + c, e.mi)
  la : e.la < S.length
  fa : e.fa < S.length
theorem ends_w {S : List Int} (h : S ≠ []) : EnW S (endsF S) := by
  have hl : 0 < S.length := List.length_pos_iff.mpr h
  have i := ends_ok (S := S) (S.length - 1) (by omega)
  show EnW S (endsT S (S.length - 1))
  generalize endsT S (S.length - 1) = e at i ⊢
  obtain ⟨l1, l2, l3, l4, a1, a2, a3, m1, m2, m3, m4, f1, f2, f3⟩ := i
  have low : ∀ y ∈ S, e.lv ≤ y := fun y hy => by
    obtain ⟨j, hj⟩ := List.mem_iff_getElem?.mp hy
    have := (List.getElem?_eq_some_iff.mp hj).1
    exact l3 j y (by omega) hj
  have hig : ∀ y ∈ S, y ≤ e.mv := fun y hy => by
    obtain ⟨j, hj⟩ := List.mem_iff_getElem?.mp hy
    have := (List.getElem?_eq_some_iff.mp hj).1
    exact m3 j y (by omega) hj
  have neg : ∀ j v, (S.map fun a => -a)[j]? = some (-v) → S[j]? = some v := fun j v e => by
    rw [List.getElem?_map] at e
    obtain ⟨y, hy, q⟩ := Option.map_eq_some_iff.mp e
    rw [hy]; congr 1; omega
  have pl : ∀ c j v, (S.map fun a => a + c)[j]? = some (v + c) → S[j]? = some v := fun c j v e => by
    rw [List.getElem?_map] at e
    obtain ⟨y, hy, q⟩ := Option.map_eq_some_iff.mp e
    rw [hy]; congr 1; omega
  have rv : ∀ j v, j < S.length → S.reverse[j]? = some v → S[S.length - 1 - j]? = some v := fun j v hj e => by
    rw [List.getElem?_reverse hj] at e; exact e
  refine ⟨lsF_eq l2 low l4, gsF_eq m2 hig m4, lsF_eq (by rw [List.getElem?_map, m2]; rfl) (fun y hy => ?_) (fun j hj q => m4 j hj (neg _ _ q)), gsF_eq (by rw [List.getElem?_map, l2]; rfl) (fun y hy => ?_) (fun j hj q => l4 j hj (neg _ _ q)),
    lsF_eq ?_ (fun y hy => low y (List.mem_reverse.mp hy)) (fun j hj q => ?_), gsF_eq ?_ (fun y hy => hig y (List.mem_reverse.mp hy)) (fun j hj q => ?_),
    fun c => lsF_eq (by rw [List.getElem?_map, l2]; rfl) (fun y hy => ?_) (fun j hj q => l4 j hj (pl c _ _ q)), fun c => gsF_eq (by rw [List.getElem?_map, m2]; rfl) (fun y hy => ?_) (fun j hj q => m4 j hj (pl c _ _ q)), by omega, by omega⟩
  · obtain ⟨x, hx, rfl⟩ := List.mem_map.mp hy
    have := hig x hx; omega
  · obtain ⟨x, hx, rfl⟩ := List.mem_map.mp hy
    have := low x hx; omega
  · rw [List.getElem?_reverse (by omega), show S.length - 1 - (S.length - 1 - e.la) = e.la by omega]; exact a2
  · exact a3 _ (by omega) (by omega) (rv j _ (by omega) q)
  · rw [List.getElem?_reverse (by omega), show S.length - 1 - (S.length - 1 - e.fa) = e.fa by omega]; exact f2
  · exact f3 _ (by omega) (by omega) (rv j _ (by omega) q)
  · obtain ⟨x, hx, rfl⟩ := List.mem_map.mp hy
    have := low x hx; omega
  · obtain ⟨x, hx, rfl⟩ := List.mem_map.mp hy
    have := hig x hx; omega
/-- the sort by the two alone -/
def sortE (a b : Int) : Str := if 0 < a ∨ b < 0 then (if 0 < a then "gains" else "loses") else if a = b then "flat" else "mixed"
theorem word_sort {a b : Int} (h : a ≤ b) : (if 0 < a then ("gains" : Str) else if b < 0 then ("loses" : Str) else if a = 0 ∧ b = 0 then ("flat" : Str) else ("mixed" : Str)) = sortE a b := by
  unfold sortE
  by_cases h1 : 0 < a
  · rw [if_pos h1, if_pos (.inl h1), if_pos h1]
  · rw [if_neg h1]
    by_cases h2 : b < 0
    · rw [if_pos h2, if_pos (.inr h2), if_neg h1]
    · rw [if_neg h2, if_neg (c := 0 < a ∨ b < 0) (by omega)]
      by_cases h3 : a = b
      · rw [if_pos (c := a = 0 ∧ b = 0) (by omega), if_pos h3]
      · rw [if_neg (c := a = 0 ∧ b = 0) (by omega), if_neg h3]
theorem word_end {S : List Int} (h : S ≠ []) : word S = sortE (endsF S).lv (endsF S).mv := by
  have w := ends_w h
  have q1 := minF_ok h
  have q2 := maxF_ok h
  have e1 : minF S = (endsF S).lv := congrArg Prod.fst w.l
  have e2 : maxF S = (endsF S).mv := congrArg Prod.fst w.g
  rw [e1] at q1
  rw [e2] at q2
  rw [word_by q1.1 q1.2 q2.1 q2.2]
  exact word_sort (q1.2 _ q2.1)
theorem sorts_ok (a b : Int) : SeqAt.shaped (.str (sortE a b)) = true := by
  unfold sortE
  split
  · split <;> decide +kernel
  · split <;> decide +kernel
section
variable {K : PySem.W.Frag} {fx : Fx} {E : Z.Env} {Q : D → Z.Env → Prop} {a b c d : Int}
theorem dat_pair : dat 60 (.tup [.int a, .int b]) = true := by simp only [dat, dats, Bool.and_true]
theorem ne_same (h : Q (.bl false) E) : Rop K fx (rNeD K) (.tup [.int a, .int b]) (.tup [.int a, .int b]) E Q := rop_neF rfl dat_pair h
theorem ne_pair (e1 : a = c) (e2 : b = d) (h : Q (.bl false) E) : Rop K fx (rNeD K) (.tup [.int a, .int b]) (.tup [.int c, .int d]) E Q := rop_neF (by rw [e1, e2]) dat_pair h
theorem eq_pair (e1 : a = c) (e2 : b = d) (h : Q (.bl true) E) : Rop K fx (rEqD K) (.tup [.int a, .int b]) (.tup [.int c, .int d]) E Q := rop_eqT (by rw [e1, e2]) dat_pair h
end
end Lw
end
section
local macro_rules | `(tactic| kfm_turns) => `(tactic| first | omega | (dsimp only [Z.env0, Z.Env.set, Z.Env.at, Z.Env.up]; omega) | (simp only [List.length_map, List.length_range, List.length_append, List.length_cons, List.length_nil, List.length_replicate, List.length_set, List.length_take, List.length_drop, List.length_reverse, List.length_zipWith, Z.zs_length, Z.rangeD_length, Int.natCast_add, Int.natCast_one, Int.natCast_zero, and_true, true_and, Int.toNat_natCast, Lw.hts_length, Lw.sumsL_length, Lw.wordsL_length]; omega) | (simp only [List.length_map, List.length_range, List.length_append, List.length_cons, List.length_nil, List.length_replicate, List.length_set, List.length_take, List.length_drop, List.length_reverse, List.length_zipWith, Z.zs_length, Z.rangeD_length, Int.natCast_add, Int.natCast_one, Int.natCast_zero, and_true, true_and, Int.toNat_natCast, Lw.hts_length, Lw.sumsL_length, Lw.wordsL_length] at *; omega))
local macro_rules | `(tactic| mem_news) => `(tactic| first
  | ((with_reducible show Z.We _ _ _ _ _); first
    | (with_reducible refine Z.we_fldS (by with_unfolding_all rfl) (Lw.Tx.cl_Row (by assumption)) (Lw.Tx.na_Row_heights (by assumption)) (by with_unfolding_all rfl) ?_)
    | (with_reducible refine Z.we_var (by with_unfolding_all rfl) ?_)
    | (with_reducible refine Z.we_varF (by with_unfolding_all rfl) ?_)
    | (with_reducible refine Z.we_ty ?_)
    | (with_reducible refine Z.we_isiT ?_)
    | (with_reducible refine Z.we_cb ?_)
    | (with_reducible refine Z.we_andV ?_)
    | (with_reducible refine Z.we_notV ?_)
    | fail)
  | ((with_reducible show Z.Wa _ _ _ _ _); first
    | (with_reducible refine Z.wa_cons ?_)
    | (with_reducible refine Z.wa_nil ?_)
    | fail)
  | ((with_reducible show Z.Ws _ _ _ _ _); first
    | (with_reducible refine Z.ws_fld (by with_unfolding_all rfl) (Lw.Tx.cl_Row (by assumption)) (Lw.Tx.na_Row_gains (by assumption)) (by with_unfolding_all exact Nat.le_of_ble_eq_true rfl) ?_)
    | (with_reducible refine Z.ws_fld (by with_unfolding_all rfl) (Lw.Tx.cl_Row (by assumption)) (Lw.Tx.na_Row_heights (by assumption)) (by with_unfolding_all exact Nat.le_of_ble_eq_true rfl) ?_)
    | (with_reducible refine Z.ws_fld (by with_unfolding_all rfl) (Lw.Tx.cl_Row (by assumption)) (Lw.Tx.na_Row_days (by assumption)) (by with_unfolding_all exact Nat.le_of_ble_eq_true rfl) ?_)
    | (with_reducible refine Z.ws_fld (by with_unfolding_all rfl) (Lw.Tx.cl_Row (by assumption)) (Lw.Tx.na_Row_total (by assumption)) (by with_unfolding_all exact Nat.le_of_ble_eq_true rfl) ?_)
    | (with_reducible refine Z.ws_seqN (by first | (dsimp only [Z.env0, Lw.N_is_integer, Z.heardX, Z.Env.set, Z.Env.at, Z.Env.up, List.set, List.length_cons, List.length_nil, List.length, Nat.reduceAdd, Nat.reduceSub, Nat.zero_add, List.replicate_succ, List.replicate_zero, List.map, List.cons_append, List.nil_append, List.append_eq, List.append] <;> exact rfl) | exact rfl) ?_)
    | (with_reducible refine Z.ws_ret ?_)
    | (with_reducible refine Z.ws_next ?_)
    | fail)
  | ((with_reducible show Z.Rcb _ _ _ _ _ _); first
    | (with_reducible refine Z.isi_int_int ?_)
    | (with_reducible refine Z.isi_int_bool ?_)
    | (with_reducible refine Z.isi_bl_int ?_)
    | (with_reducible refine Z.isi_str_int ?_)
    | (with_reducible refine Z.isi_lst_int ?_)
    | (with_reducible refine Z.isi_tup_int ?_)
    | (with_reducible refine Z.isi_non_int ?_)
    | (with_reducible refine Z.isi_bl_bool ?_)
    | (with_reducible refine Z.isi_str_bool ?_)
    | (with_reducible refine Z.isi_lst_bool ?_)
    | (with_reducible refine Z.isi_tup_bool ?_)
    | (with_reducible refine Z.isi_non_bool ?_)
    | fail)
  | ((with_reducible show Z.Wt _ _ _ _ _); first
    | (with_reducible refine Z.wt_test ?_)
    | (with_reducible refine Z.wt_B ?_)
    | (with_reducible refine Z.wt_and ?_)
    | (with_reducible refine Z.wt_not ?_)
    | fail)
  | ((with_reducible show Z.Wg _ _ _ _ _ _ _); first
    | (with_reducible refine Z.wg_name ?_)
    | fail)
  | ((with_reducible show Exists _); first
    | (with_reducible refine Lw.row_fld (Lw.Tx.cl_Row (by assumption)) (Lw.Tx.na_Row_heights (by assumption)) (Lw.row_heights _) ?_)
    | (with_reducible refine Lw.row_fld (Lw.Tx.cl_Row (by assumption)) (Lw.Tx.na_Row_days (by assumption)) (Lw.row_days _) ?_)
    | (with_reducible refine Lw.row_fld (Lw.Tx.cl_Row (by assumption)) (Lw.Tx.na_Row_gains (by assumption)) (Lw.row_gains _) ?_)
    | (with_reducible refine Lw.row_fld (Lw.Tx.cl_Row (by assumption)) (Lw.Tx.na_Row_total (by assumption)) (Lw.row_total _) ?_)
    | (with_reducible refine Lw.row_meth ?_)
    | fail)
  | (with_reducible first
    | refine Z.bF (Z.nd_self _) ?_
    | refine Z.bT (Z.d_self _) ?_
    | refine Z.b1 ?_
    | refine Z.b0 ?_
    | refine Z.bN0 ?_
    | refine Z.bN1 ?_
    | refine Z.bF (Z.nd_of (by kpc_turns)) ?_
    | refine Z.bT (Z.d_of (by kpc_turns)) ?_
    | refine Z.isiT_lst ?_
    | refine Z.isiT_tup ?_
    | fail)
  | ((fail_if_success (with_reducible refine Z.spl ?_ ?_)); first
    | (refine ⟨Nat.le_of_ble_eq_true rfl, ?_⟩)
    | (refine ⟨_, rfl, ?_⟩)
    | (refine ⟨_, _, rfl, ?_⟩)
    | (refine ⟨_, _, _, rfl, ?_⟩)
    | (refine ⟨_, _, _, _, rfl, ?_⟩)
    | (refine ⟨(show (_ = _) by with_unfolding_all rfl), ?_⟩)
    | (refine ⟨⟨(show (_ = _) by with_unfolding_all rfl), (show (_ = _) by with_unfolding_all rfl)⟩, ?_⟩))
  | fail)
local macro_rules | `(tactic| kt_ors) => `(tactic| ((repeat mem_news); (try dsimp only); (try rfl)))
local macro_rules | `(tactic| leaf_len) => `(tactic| ((repeat' (first | (with_reducible first | refine Z.bF (Z.nd_self _) ?_ | refine Z.bT (Z.d_self _) ?_ | refine Z.b1 ?_ | refine Z.b0 ?_ | refine Z.bN0 ?_ | refine Z.bN1 ?_) | ((with_reducible refine Z.spl (fun hb => ?_) (fun hb => ?_)) <;> (try simp only [decide_eq_true_eq, decide_eq_false_iff_not, Bool.not_eq_true', Bool.not_eq_false', Bool.not_eq_true, Bool.not_eq_false] at hb)) | mem_news | fail)); (all_goals (try dsimp only)); (all_goals (try rfl))))

namespace Lw
open PySem L2
section
variable {P : Program} {w : World} {K : PySem.W.Frag} {mg : Str → Option Value} {base : Heap}
abbrev pm_is_integer (K : PySem.W.Frag) : Z.Pm Int := Z.pmX (fun i => [.int i]) (fun _ => True) (fun _ => .bl true)
theorem ok_is_integer (T : Tx K mg) : ∃ fd, Z.Gd P w K mg base CX0 1 d_is_integer ["value"] (Z.spD K (pm_is_integer K)) fd := by
  obtain ⟨fd, F⟩ := T.d_is_integer
  refine ⟨fd, F.ok sc_is_integer (Z.spD_len fun _ => rfl) (fun cdv A outer s H vs Q EX hr h => ⟨_, PSs.nox (pss_one (ps_ret (pe_and (pe_callB Z.call_isiU (by rfl) T.f_isinstance (by decide +kernel) (pa_cons (pv 0) (pa_cons (pe_bltn (v := .ty "int") (by rfl) T.f_int (by decide +kernel) rfl) pa_nil))) (pe_one (pe_not (pe_callB Z.call_isiU (by rfl) T.f_isinstance (by decide +kernel) (pa_cons (pv 0) (pa_cons (pe_bltn (v := .ty "bool") (by rfl) T.f_bool (by decide +kernel) rfl) pa_nil)))))))), Z.body h ?_⟩), F⟩
  intro i F n cells hc hp
  dsimp only [cxOf, pm_is_integer, Z.pmX]
  kt_ors
end
end Lw
end
section
local macro_rules | `(tactic| kfm_turns) => `(tactic| first | omega | (dsimp only [Z.env0, Z.Env.set, Z.Env.at, Z.Env.up]; omega) | (simp only [List.length_map, List.length_range, List.length_append, List.length_cons, List.length_nil, List.length_replicate, List.length_set, List.length_take, List.length_drop, List.length_reverse, List.length_zipWith, Z.zs_length, Z.rangeD_length, Int.natCast_add, Int.natCast_one, Int.natCast_zero, and_true, true_and, Int.toNat_natCast, Lw.hts_length, Lw.sumsL_length, Lw.wordsL_length]; omega) | (simp only [List.length_map, List.length_range, List.length_append, List.length_cons, List.length_nil, List.length_replicate, List.length_set, List.length_take, List.length_drop, List.length_reverse, List.length_zipWith, Z.zs_length, Z.rangeD_length, Int.natCast_add, Int.natCast_one, Int.natCast_zero, and_true, true_and, Int.toNat_natCast, Lw.hts_length, Lw.sumsL_length, Lw.wordsL_length] at *; omega))
local macro_rules | `(tactic| mem_news) => `(tactic| first
  | ((with_reducible show Z.Called _ _ _ _ _ _ _); first
    | (((with_reducible show Z.Called (Lw.pm_is_integer _) _ _ _ _ _ _); refine Z.called_X _ (by with_unfolding_all rfl) ?_ ?hp_is_integer; rotate_left 1; (try trivial); rotate_right 1))
    | fail)
  | ((with_reducible show Z.We _ _ _ _ _); first
    | (with_reducible refine Z.we_fldS (by with_unfolding_all rfl) (Lw.Tx.cl_Row (by assumption)) (Lw.Tx.na_Row_heights (by assumption)) (by with_unfolding_all rfl) ?_)
    | (with_reducible refine Z.we_var (by with_unfolding_all rfl) ?_)
    | (with_reducible refine Z.we_varF (by with_unfolding_all rfl) ?_)
    | (with_reducible refine Z.we_bl ?_)
    | (with_reducible refine Z.we_non ?_)
    | (with_reducible refine Z.we_cb ?_)
    | (with_reducible refine Z.we_andV ?_)
    | (with_reducible refine Z.we_orV ?_)
    | (with_reducible refine Z.we_notV ?_)
    | (with_reducible refine Z.we_call (dds := []) (fun _ => .nil) ?_)
    | (with_reducible refine Z.we_call (dds := [.non, .non]) (fun _ => .cons .non (.cons .non .nil)) ?_)
    | (with_reducible refine Z.we_call (dds := [.non]) (fun _ => .cons .non .nil) ?_)
    | (with_reducible refine Z.we_op ?_)
    | fail)
  | ((with_reducible show Z.Rop _ _ _ _ _ _ _); first
    | (with_reducible refine Z.rop_le ?_)
    | (with_reducible refine Z.rop_ge ?_)
    | (with_reducible refine Z.rop_isB ?_)
    | (with_reducible refine Z.rop_isN_non ?_)
    | (with_reducible refine Z.rop_isN_int ?_)
    | (with_reducible refine Z.rop_isN ?_)
    | fail)
  | ((with_reducible show Z.Wa _ _ _ _ _); first
    | (with_reducible refine Z.wa_cons ?_)
    | (with_reducible refine Z.wa_nil ?_)
    | fail)
  | ((with_reducible show Z.Ws _ _ _ _ _); first
    | (with_reducible refine Z.ws_fld (by with_unfolding_all rfl) (Lw.Tx.cl_Row (by assumption)) (Lw.Tx.na_Row_gains (by assumption)) (by with_unfolding_all exact Nat.le_of_ble_eq_true rfl) ?_)
    | (with_reducible refine Z.ws_fld (by with_unfolding_all rfl) (Lw.Tx.cl_Row (by assumption)) (Lw.Tx.na_Row_heights (by assumption)) (by with_unfolding_all exact Nat.le_of_ble_eq_true rfl) ?_)
    | (with_reducible refine Z.ws_fld (by with_unfolding_all rfl) (Lw.Tx.cl_Row (by assumption)) (Lw.Tx.na_Row_days (by assumption)) (by with_unfolding_all exact Nat.le_of_ble_eq_true rfl) ?_)
    | (with_reducible refine Z.ws_fld (by with_unfolding_all rfl) (Lw.Tx.cl_Row (by assumption)) (Lw.Tx.na_Row_total (by assumption)) (by with_unfolding_all exact Nat.le_of_ble_eq_true rfl) ?_)
    | (with_reducible refine Z.ws_seqN (by first | (dsimp only [Z.env0, Lw.N_is_within, Z.heardX, Z.Env.set, Z.Env.at, Z.Env.up, List.set, List.length_cons, List.length_nil, List.length, Nat.reduceAdd, Nat.reduceSub, Nat.zero_add, List.replicate_succ, List.replicate_zero, List.map, List.cons_append, List.nil_append, List.append_eq, List.append] <;> exact rfl) | exact rfl) ?_)
    | (with_reducible refine Z.ws_if ?_)
    | (with_reducible refine Z.ws_ret ?_)
    | (with_reducible refine Z.ws_next ?_)
    | fail)
  | ((with_reducible show Z.Wt _ _ _ _ _); first
    | (with_reducible refine Z.wt_test ?_)
    | (with_reducible refine Z.wt_B ?_)
    | (with_reducible refine Z.wt_and ?_)
    | (with_reducible refine Z.wt_or ?_)
    | (with_reducible refine Z.wt_not ?_)
    | fail)
  | ((with_reducible show Z.Wg _ _ _ _ _ _ _); first
    | (with_reducible refine Z.wg_name ?_)
    | fail)
  | ((with_reducible show Exists _); first
    | (with_reducible refine Lw.row_fld (Lw.Tx.cl_Row (by assumption)) (Lw.Tx.na_Row_heights (by assumption)) (Lw.row_heights _) ?_)
    | (with_reducible refine Lw.row_fld (Lw.Tx.cl_Row (by assumption)) (Lw.Tx.na_Row_days (by assumption)) (Lw.row_days _) ?_)
    | (with_reducible refine Lw.row_fld (Lw.Tx.cl_Row (by assumption)) (Lw.Tx.na_Row_gains (by assumption)) (Lw.row_gains _) ?_)
    | (with_reducible refine Lw.row_fld (Lw.Tx.cl_Row (by assumption)) (Lw.Tx.na_Row_total (by assumption)) (Lw.row_total _) ?_)
    | (with_reducible refine Lw.row_meth ?_)
    | fail)
  | (with_reducible first
    | refine Z.bF (Z.nd_self _) ?_
    | refine Z.bT (Z.d_self _) ?_
    | refine Z.b1 ?_
    | refine Z.b0 ?_
    | refine Z.bN0 ?_
    | refine Z.bN1 ?_
    | refine Z.bF (Z.nd_of (by kpc_turns)) ?_
    | refine Z.bT (Z.d_of (by kpc_turns)) ?_
    | fail)
  | ((fail_if_success (with_reducible refine Z.spl ?_ ?_)); first
    | (refine ⟨Nat.le_of_ble_eq_true rfl, ?_⟩)
    | (refine ⟨_, rfl, ?_⟩)
    | (refine ⟨_, _, rfl, ?_⟩)
    | (refine ⟨_, _, _, rfl, ?_⟩)
    | (refine ⟨_, _, _, _, rfl, ?_⟩)
    | (refine ⟨(show (_ = _) by with_unfolding_all rfl), ?_⟩)
    | (refine ⟨⟨(show (_ = _) by with_unfolding_all rfl), (show (_ = _) by with_unfolding_all rfl)⟩, ?_⟩))
  | fail)
local macro_rules | `(tactic| kt_ors) => `(tactic| ((repeat mem_news); (try dsimp only); (try rfl)))
local macro_rules | `(tactic| leaf_len) => `(tactic| ((repeat' (first | (with_reducible first | refine Z.bF (Z.nd_self _) ?_ | refine Z.bT (Z.d_self _) ?_ | refine Z.b1 ?_ | refine Z.b0 ?_ | refine Z.bN0 ?_ | refine Z.bN1 ?_) | ((with_reducible refine Z.spl (fun hb => ?_) (fun hb => ?_)) <;> (try simp only [decide_eq_true_eq, decide_eq_false_iff_not, Bool.not_eq_true', Bool.not_eq_false', Bool.not_eq_true, Bool.not_eq_false] at hb)) | mem_news | fail)); (all_goals (try dsimp only)); (all_goals (try rfl))))

namespace Lw
open PySem L2
section
variable {P : Program} {w : World} {K : PySem.W.Frag} {mg : Str → Option Value} {base : Heap}
abbrev pm_is_within (K : PySem.W.Frag) : Z.Pm (Int × Option Int × Option Int) := Z.pmX (fun (i, lo, hi) => [.int i, oD lo, oD hi]) (fun _ => True) (fun (i, lo, hi) => .bl (inb i lo hi))
theorem ok_is_within (T : Tx K mg) : ∃ fd, Z.Gd P w K mg base CX0 2 d_is_within ["value", "least", "most"] (Z.spD K (pm_is_within K)) fd := by
  obtain ⟨fd_is_integer, g_is_integer⟩ := ok_is_integer (P := P) (w := w) (base := base) T
  have b_is_integer_0 : Binds K fd_is_integer ["value"] [] := g_is_integer.fn.bindsN fun _ _ _ _ _ _ us hl => match us, hl with | [_], _ => rfl
  obtain ⟨fd, F⟩ := T.d_is_within
  refine ⟨fd, F.ok sc_is_within (Z.spD_len fun _ => rfl) (fun cdv A outer s H vs Q EX hr h => ⟨_, PSs.nox (pss_cons (ps_if (pt_not (pt_val (pe_call g_is_integer.ok (hr.mono (by decide)) rfl T.g_is_integer g_is_integer.fn.kp b_is_integer_0 .nil pass0 (pa_cons (pv 0) pa_nil)))) (pss_one (ps_ret pe_bl)) pss_nil) (pss_one (ps_ret (pe_and (pe_or (pe_cmpR op_isN (pv 1) pe_non (nomark _)) (pe_one (pe_cmpR op_ge (pv 0) (pv 1) (nomark _)))) (pe_one (pe_or (pe_cmpR op_isN (pv 2) pe_non (nomark _)) (pe_one (pe_cmpR op_le (pv 0) (pv 2) (nomark _))))))))), Z.body h ?_⟩), F⟩
  rintro ⟨i, lo, hi⟩ F n cells hc hp
  dsimp only [cxOf, pm_is_within, Z.pmX]
  rcases lo with _ | lo <;> rcases hi with _ | hi <;> dsimp only [oD]
  all_goals leaf_len
  all_goals simp [inb, *]
end
end Lw
end
section
local macro_rules | `(tactic| kfm_turns) => `(tactic| first | omega | (dsimp only [Z.env0, Z.Env.set, Z.Env.at, Z.Env.up]; omega) | (simp only [List.length_map, List.length_range, List.length_append, List.length_cons, List.length_nil, List.length_replicate, List.length_set, List.length_take, List.length_drop, List.length_reverse, List.length_zipWith, Z.zs_length, Z.rangeD_length, Int.natCast_add, Int.natCast_one, Int.natCast_zero, and_true, true_and, Int.toNat_natCast, Lw.hts_length, Lw.sumsL_length, Lw.wordsL_length]; omega) | (simp only [List.length_map, List.length_range, List.length_append, List.length_cons, List.length_nil, List.length_replicate, List.length_set, List.length_take, List.length_drop, List.length_reverse, List.length_zipWith, Z.zs_length, Z.rangeD_length, Int.natCast_add, Int.natCast_one, Int.natCast_zero, and_true, true_and, Int.toNat_natCast, Lw.hts_length, Lw.sumsL_length, Lw.wordsL_length] at *; omega))
local macro_rules | `(tactic| mem_news) => `(tactic| first
  | ((with_reducible show Z.We _ _ _ _ _); first
    | (with_reducible refine Z.we_fldS (by with_unfolding_all rfl) (Lw.Tx.cl_Row (by assumption)) (Lw.Tx.na_Row_heights (by assumption)) (by with_unfolding_all rfl) ?_)
    | (with_reducible refine Z.we_var (by with_unfolding_all rfl) ?_)
    | (with_reducible refine Z.we_varF (by with_unfolding_all rfl) ?_)
    | (with_reducible refine Z.we_non ?_)
    | (with_reducible refine Z.we_adr ?_)
    | (with_reducible refine Z.we_cb ?_)
    | (with_reducible refine Z.we_notV ?_)
    | (with_reducible refine Z.we_call (dds := []) (fun _ => .nil) ?_)
    | (with_reducible refine Z.we_call (dds := [.non, .non]) (fun _ => .cons .non (.cons .non .nil)) ?_)
    | (with_reducible refine Z.we_call (dds := [.non]) (fun _ => .cons .non .nil) ?_)
    | (with_reducible refine Z.we_make (dds := []) (fun _ => .nil) ?_)
    | (with_reducible refine Z.we_make (dds := [.non]) (fun _ => .cons .non .nil) ?_)
    | (with_reducible refine Z.we_make (dds := [.non, .non]) (fun _ => .cons .non (.cons .non .nil)) ?_)
    | fail)
  | ((with_reducible show Z.Wa _ _ _ _ _); first
    | (with_reducible refine Z.wa_cons ?_)
    | (with_reducible refine Z.wa_nil ?_)
    | fail)
  | ((with_reducible show Z.Ws _ _ _ _ _); first
    | (with_reducible refine Z.ws_fld (by with_unfolding_all rfl) (Lw.Tx.cl_Row (by assumption)) (Lw.Tx.na_Row_gains (by assumption)) (by with_unfolding_all exact Nat.le_of_ble_eq_true rfl) ?_)
    | (with_reducible refine Z.ws_fld (by with_unfolding_all rfl) (Lw.Tx.cl_Row (by assumption)) (Lw.Tx.na_Row_heights (by assumption)) (by with_unfolding_all exact Nat.le_of_ble_eq_true rfl) ?_)
    | (with_reducible refine Z.ws_fld (by with_unfolding_all rfl) (Lw.Tx.cl_Row (by assumption)) (Lw.Tx.na_Row_days (by assumption)) (by with_unfolding_all exact Nat.le_of_ble_eq_true rfl) ?_)
    | (with_reducible refine Z.ws_fld (by with_unfolding_all rfl) (Lw.Tx.cl_Row (by assumption)) (Lw.Tx.na_Row_total (by assumption)) (by with_unfolding_all exact Nat.le_of_ble_eq_true rfl) ?_)
    | (with_reducible refine Z.ws_seqN (by first | (dsimp only [Z.env0, Lw.N_need_number, Z.heardX, Z.Env.set, Z.Env.at, Z.Env.up, List.set, List.length_cons, List.length_nil, List.length, Nat.reduceAdd, Nat.reduceSub, Nat.zero_add, List.replicate_succ, List.replicate_zero, List.map, List.cons_append, List.nil_append, List.append_eq, List.append] <;> exact rfl) | exact rfl) ?_)
    | (with_reducible refine Z.ws_if ?_)
    | (with_reducible refine Z.ws_next ?_)
    | fail)
  | ((with_reducible show Z.Wt _ _ _ _ _); first
    | (with_reducible refine Z.wt_test ?_)
    | (with_reducible refine Z.wt_B ?_)
    | (with_reducible refine Z.wt_not ?_)
    | fail)
  | ((with_reducible show Z.Wg _ _ _ _ _ _ _); first
    | (with_reducible refine Z.wg_name ?_)
    | fail)
  | ((with_reducible show Exists _); first
    | (with_reducible refine Lw.row_fld (Lw.Tx.cl_Row (by assumption)) (Lw.Tx.na_Row_heights (by assumption)) (Lw.row_heights _) ?_)
    | (with_reducible refine Lw.row_fld (Lw.Tx.cl_Row (by assumption)) (Lw.Tx.na_Row_days (by assumption)) (Lw.row_days _) ?_)
    | (with_reducible refine Lw.row_fld (Lw.Tx.cl_Row (by assumption)) (Lw.Tx.na_Row_gains (by assumption)) (Lw.row_gains _) ?_)
    | (with_reducible refine Lw.row_fld (Lw.Tx.cl_Row (by assumption)) (Lw.Tx.na_Row_total (by assumption)) (Lw.row_total _) ?_)
    | (with_reducible refine Lw.row_meth ?_)
    | fail)
  | (with_reducible first
    | refine Z.bF (Z.nd_self _) ?_
    | refine Z.bT (Z.d_self _) ?_
    | refine Z.b1 ?_
    | refine Z.b0 ?_
    | refine Z.bN0 ?_
    | refine Z.bN1 ?_
    | refine Z.bF (Z.nd_of (by kpc_turns)) ?_
    | refine Z.bT (Z.d_of (by kpc_turns)) ?_
    | fail)
  | ((fail_if_success (with_reducible refine Z.spl ?_ ?_)); first
    | (refine ⟨Nat.le_of_ble_eq_true rfl, ?_⟩)
    | (refine ⟨_, rfl, ?_⟩)
    | (refine ⟨_, _, rfl, ?_⟩)
    | (refine ⟨_, _, _, rfl, ?_⟩)
    | (refine ⟨_, _, _, _, rfl, ?_⟩)
    | (refine ⟨(show (_ = _) by with_unfolding_all rfl), ?_⟩)
    | (refine ⟨⟨(show (_ = _) by with_unfolding_all rfl), (show (_ = _) by with_unfolding_all rfl)⟩, ?_⟩))
  | fail)
local macro_rules | `(tactic| kt_ors) => `(tactic| ((repeat mem_news); (try dsimp only); (try rfl)))
local macro_rules | `(tactic| leaf_len) => `(tactic| ((repeat' (first | (with_reducible first | refine Z.bF (Z.nd_self _) ?_ | refine Z.bT (Z.d_self _) ?_ | refine Z.b1 ?_ | refine Z.b0 ?_ | refine Z.bN0 ?_ | refine Z.bN1 ?_) | ((with_reducible refine Z.spl (fun hb => ?_) (fun hb => ?_)) <;> (try simp only [decide_eq_true_eq, decide_eq_false_iff_not, Bool.not_eq_true', Bool.not_eq_false', Bool.not_eq_true, Bool.not_eq_false] at hb)) | mem_news | fail)); (all_goals (try dsimp only)); (all_goals (try rfl))))

namespace Lw
open PySem L2
section
variable {P : Program} {w : World} {K : PySem.W.Frag} {mg : Str → Option Value} {base : Heap}
abbrev pm_need_number (K : PySem.W.Frag) : Z.Pm (Int × Str × Option Int × Option Int) := Z.pmX (fun (i, p, lo, hi) => [.int i, .str p, oD lo, oD hi]) (fun (i, _, lo, hi) => inb i lo hi = true) (fun _ => .non)
theorem ok_need_number (T : Tx K mg) : ∃ fd, Z.Gd P w K mg base CX0 3 d_need_number ["value", "part", "least", "most"] (Z.spD K (pm_need_number K)) fd := by
  obtain ⟨fd_is_within, g_is_within⟩ := ok_is_within (P := P) (w := w) (base := base) T
  have b_is_within_0 : Binds K fd_is_within ["value", "least", "most"] [] := g_is_within.fn.bindsN fun _ _ _ _ _ _ us hl => match us, hl with | [_, _, _], _ => rfl
  obtain ⟨fd, F⟩ := T.d_need_number
  refine ⟨fd, F.ok sc_need_number (Z.spD_len fun _ => rfl) (fun cdv A outer s H vs Q EX hr h => ⟨_, PSs.nox (pss_one (ps_if (pt_not (pt_val (pe_call g_is_within.ok (hr.mono (by decide)) rfl T.g_is_within g_is_within.fn.kp b_is_within_0 .nil pass0 (pa_cons (pv 0) (pa_cons (pv 2) (pa_cons (pv 3) pa_nil)))))) (pss_one ps_never) pss_nil)), Z.body h ?_⟩), F⟩
  rintro ⟨i, p, lo, hi⟩ F n cells hc hp
  dsimp only [cxOf, pm_need_number, Z.pmX] at hp ⊢
  obtain ⟨rfl, hp⟩ := hp
  kt_ors
  refine Z.called_X (i, lo, hi) rfl ?_ trivial
  dsimp only
  rw [hp]
  kt_ors
end
end Lw
end
section
local macro_rules | `(tactic| kfm_turns) => `(tactic| first | omega | (dsimp only [Z.env0, Z.Env.set, Z.Env.at, Z.Env.up]; omega) | (simp only [List.length_map, List.length_range, List.length_append, List.length_cons, List.length_nil, List.length_replicate, List.length_set, List.length_take, List.length_drop, List.length_reverse, List.length_zipWith, Z.zs_length, Z.rangeD_length, Int.natCast_add, Int.natCast_one, Int.natCast_zero, and_true, true_and, Int.toNat_natCast, Lw.hts_length, Lw.sumsL_length, Lw.wordsL_length]; omega) | (simp only [List.length_map, List.length_range, List.length_append, List.length_cons, List.length_nil, List.length_replicate, List.length_set, List.length_take, List.length_drop, List.length_reverse, List.length_zipWith, Z.zs_length, Z.rangeD_length, Int.natCast_add, Int.natCast_one, Int.natCast_zero, and_true, true_and, Int.toNat_natCast, Lw.hts_length, Lw.sumsL_length, Lw.wordsL_length] at *; omega))
local macro_rules | `(tactic| mem_news) => `(tactic| first
  | ((with_reducible show Z.We _ _ _ _ _); first
    | (with_reducible refine Z.we_fldS (by with_unfolding_all rfl) (Lw.Tx.cl_Row (by assumption)) (Lw.Tx.na_Row_heights (by assumption)) (by with_unfolding_all rfl) ?_)
    | (with_reducible refine Z.we_int ?_)
    | (with_reducible refine Z.we_var (by with_unfolding_all rfl) ?_)
    | (with_reducible refine Z.we_varF (by with_unfolding_all rfl) ?_)
    | (with_reducible refine Z.we_str ?_)
    | (with_reducible refine Z.we_cb ?_)
    | (with_reducible refine Z.we_call (dds := []) (fun _ => .nil) ?_)
    | (with_reducible refine Z.we_call (dds := [.non, .non]) (fun _ => .cons .non (.cons .non .nil)) ?_)
    | (with_reducible refine Z.we_call (dds := [.non]) (fun _ => .cons .non .nil) ?_)
    | (with_reducible refine Z.we_op ?_)
    | (with_reducible refine Z.we_fld ?_)
    | fail)
  | ((with_reducible show Z.Rop _ _ _ _ _ _ _); first
    | (with_reducible refine Z.rop_sub ?_)
    | fail)
  | ((with_reducible show Z.Wa _ _ _ _ _); first
    | (with_reducible refine Z.wa_cons ?_)
    | (with_reducible refine Z.wa_nil ?_)
    | fail)
  | ((with_reducible show Z.Ws _ _ _ _ _); first
    | (with_reducible refine Z.ws_fld (by with_unfolding_all rfl) (Lw.Tx.cl_Row (by assumption)) (Lw.Tx.na_Row_gains (by assumption)) (by with_unfolding_all exact Nat.le_of_ble_eq_true rfl) ?_)
    | (with_reducible refine Z.ws_fld (by with_unfolding_all rfl) (Lw.Tx.cl_Row (by assumption)) (Lw.Tx.na_Row_heights (by assumption)) (by with_unfolding_all exact Nat.le_of_ble_eq_true rfl) ?_)
    | (with_reducible refine Z.ws_fld (by with_unfolding_all rfl) (Lw.Tx.cl_Row (by assumption)) (Lw.Tx.na_Row_days (by assumption)) (by with_unfolding_all exact Nat.le_of_ble_eq_true rfl) ?_)
    | (with_reducible refine Z.ws_fld (by with_unfolding_all rfl) (Lw.Tx.cl_Row (by assumption)) (Lw.Tx.na_Row_total (by assumption)) (by with_unfolding_all exact Nat.le_of_ble_eq_true rfl) ?_)
    | (with_reducible refine Z.ws_seqN (by first | (dsimp only [Z.env0, Lw.N_Row_need_stretch, Z.heardX, Z.Env.set, Z.Env.at, Z.Env.up, List.set, List.length_cons, List.length_nil, List.length, Nat.reduceAdd, Nat.reduceSub, Nat.zero_add, List.replicate_succ, List.replicate_zero, List.map, List.cons_append, List.nil_append, List.append_eq, List.append] <;> exact rfl) | exact rfl) ?_)
    | (with_reducible refine Z.ws_next ?_)
    | (with_reducible refine Z.ws_drop ?_)
    | fail)
  | ((with_reducible show Z.Wt _ _ _ _ _); first
    | (with_reducible refine Z.wt_test ?_)
    | (with_reducible refine Z.wt_B ?_)
    | fail)
  | ((with_reducible show Z.Wg _ _ _ _ _ _ _); first
    | (with_reducible refine Z.wg_name ?_)
    | fail)
  | ((with_reducible show Exists _); first
    | (with_reducible refine Lw.row_fld (Lw.Tx.cl_Row (by assumption)) (Lw.Tx.na_Row_heights (by assumption)) (Lw.row_heights _) ?_)
    | (with_reducible refine Lw.row_fld (Lw.Tx.cl_Row (by assumption)) (Lw.Tx.na_Row_days (by assumption)) (Lw.row_days _) ?_)
    | (with_reducible refine Lw.row_fld (Lw.Tx.cl_Row (by assumption)) (Lw.Tx.na_Row_gains (by assumption)) (Lw.row_gains _) ?_)
    | (with_reducible refine Lw.row_fld (Lw.Tx.cl_Row (by assumption)) (Lw.Tx.na_Row_total (by assumption)) (Lw.row_total _) ?_)
    | (with_reducible refine Lw.row_meth ?_)
    | fail)
  | (with_reducible first
    | refine Z.bF (Z.nd_self _) ?_
    | refine Z.bT (Z.d_self _) ?_
    | refine Z.b1 ?_
    | refine Z.b0 ?_
    | refine Z.bN0 ?_
    | refine Z.bN1 ?_
    | refine Z.bF (Z.nd_of (by kpc_turns)) ?_
    | refine Z.bT (Z.d_of (by kpc_turns)) ?_
    | fail)
  | ((fail_if_success (with_reducible refine Z.spl ?_ ?_)); first
    | (refine ⟨Nat.le_of_ble_eq_true rfl, ?_⟩)
    | (refine ⟨_, rfl, ?_⟩)
    | (refine ⟨_, _, rfl, ?_⟩)
    | (refine ⟨_, _, _, rfl, ?_⟩)
    | (refine ⟨_, _, _, _, rfl, ?_⟩)
    | (refine ⟨(show (_ = _) by with_unfolding_all rfl), ?_⟩)
    | (refine ⟨⟨(show (_ = _) by with_unfolding_all rfl), (show (_ = _) by with_unfolding_all rfl)⟩, ?_⟩))
  | fail)
local macro_rules | `(tactic| kt_ors) => `(tactic| ((repeat mem_news); (try dsimp only); (try rfl)))
local macro_rules | `(tactic| leaf_len) => `(tactic| ((repeat' (first | (with_reducible first | refine Z.bF (Z.nd_self _) ?_ | refine Z.bT (Z.d_self _) ?_ | refine Z.b1 ?_ | refine Z.b0 ?_ | refine Z.bN0 ?_ | refine Z.bN1 ?_) | ((with_reducible refine Z.spl (fun hb => ?_) (fun hb => ?_)) <;> (try simp only [decide_eq_true_eq, decide_eq_false_iff_not, Bool.not_eq_true', Bool.not_eq_false', Bool.not_eq_true, Bool.not_eq_false] at hb)) | mem_news | fail)); (all_goals (try dsimp only)); (all_goals (try rfl))))

namespace Lw
open PySem L2
section
variable {P : Program} {w : World} {K : PySem.W.Frag} {mg : Str → Option Value} {base : Heap}
abbrev pm_Row_need_stretch (K : PySem.W.Frag) : Z.Pm (List Int × Int × Int) := Z.pmX (fun (ns, b, l) => [rowD K ns, .int b, .int l]) (fun (ns, b, l) => 0 ≤ b ∧ 1 ≤ l ∧ b + l ≤ ns.length) (fun _ => .non)
theorem ok_Row_need_stretch (T : Tx K mg) : ∃ fd, Z.Gd P w K mg base CX0 4 d_Row_need_stretch ["self", "begin", "length"] (Z.spD K (pm_Row_need_stretch K)) fd := by
  obtain ⟨fd_need_number, g_need_number⟩ := ok_need_number (P := P) (w := w) (base := base) T
  obtain ⟨ds_need_number_0, v_need_number_0, b_need_number_0⟩ := g_need_number.fn.binds1 (ps := ["value", "part", "least", "most"]) 4 2 (by exact fun h => nomatch h) rfl fun _ _ _ _ _ _ _ us its hl hi => match us, hl, its, hi with | [_, _, _, _], _, [_, _], _ => ⟨_, rfl, rfl⟩
  have v_need_number_0 : Vals [] ds_need_number_0 := by exact v_need_number_0
  obtain ⟨fd, F⟩ := T.d_Row_need_stretch
  refine ⟨fd, F.ok sc_Row_need_stretch (Z.spD_len fun _ => rfl) (fun cdv A outer s H vs Q EX hr h => ⟨_, PSs.nox (pss_cons (ps_expr (pe_call g_need_number.ok (hr.mono (by decide)) rfl T.g_need_number g_need_number.fn.kp b_need_number_0 v_need_number_0 pass0 (pa_cons (pv 1) (pa_cons pe_str (pa_cons pe_int (pa_cons (pe_op op_sub (Z.pe_fldU (pv 0) rfl) pe_int) pa_nil)))))) (pss_one (ps_expr (pe_call g_need_number.ok (hr.mono (by decide)) rfl T.g_need_number g_need_number.fn.kp b_need_number_0 v_need_number_0 pass0 (pa_cons (pv 2) (pa_cons pe_str (pa_cons pe_int (pa_cons (pe_op op_sub (Z.pe_fldU (pv 0) rfl) (pv 1)) pa_nil)))))))), Z.body h ?_⟩), F⟩
  rintro ⟨ns, b, l⟩ F n cells hc hp
  dsimp only [cxOf, pm_Row_need_stretch, Z.pmX] at hp ⊢
  obtain ⟨rfl, hp⟩ := hp
  kt_ors
  refine Z.called_X (b, _, some 0, some _) rfl ?_ ?_
  · kt_ors
    refine Z.called_X (l, _, some 1, some _) rfl ?_ ?_
    · kt_ors
    · simp [inb]; omega
  · simp [inb]; omega
end
end Lw
end
section
local macro_rules | `(tactic| kfm_turns) => `(tactic| first | omega | (dsimp only [Z.env0, Z.Env.set, Z.Env.at, Z.Env.up]; omega) | (simp only [List.length_map, List.length_range, List.length_append, List.length_cons, List.length_nil, List.length_replicate, List.length_set, List.length_take, List.length_drop, List.length_reverse, List.length_zipWith, Z.zs_length, Z.rangeD_length, Int.natCast_add, Int.natCast_one, Int.natCast_zero, and_true, true_and, Int.toNat_natCast, Lw.hts_length, Lw.sumsL_length, Lw.wordsL_length]; omega) | (simp only [List.length_map, List.length_range, List.length_append, List.length_cons, List.length_nil, List.length_replicate, List.length_set, List.length_take, List.length_drop, List.length_reverse, List.length_zipWith, Z.zs_length, Z.rangeD_length, Int.natCast_add, Int.natCast_one, Int.natCast_zero, and_true, true_and, Int.toNat_natCast, Lw.hts_length, Lw.sumsL_length, Lw.wordsL_length] at *; omega))
local macro_rules | `(tactic| mem_news) => `(tactic| first
  | ((with_reducible show Z.Called _ _ _ _ _ _ _); first
    | (((with_reducible show Z.Called (Lw.pm_Row_need_stretch _) _ _ _ _ _ _); refine Z.called_X (_, _, _) (by with_unfolding_all rfl) ?_ ?hp_Row_need_stretch; rotate_left 1; (try omega); rotate_right 1))
    | fail)
  | ((with_reducible show Z.We _ _ _ _ _); first
    | (with_reducible refine Z.we_fldS (by with_unfolding_all rfl) (Lw.Tx.cl_Row (by assumption)) (Lw.Tx.na_Row_heights (by assumption)) (by with_unfolding_all rfl) ?_)
    | (with_reducible refine Z.we_var (by with_unfolding_all rfl) ?_)
    | (with_reducible refine Z.we_varF (by with_unfolding_all rfl) ?_)
    | (with_reducible refine Z.we_cb ?_)
    | (with_reducible refine Z.we_meth (dds := []) (fun _ => .nil) ?_)
    | (with_reducible refine Z.we_ixO (by with_unfolding_all rfl) ?_)
    | (with_reducible refine Z.we_op ?_)
    | (with_reducible refine Z.we_fld ?_)
    | fail)
  | ((with_reducible show Z.Rop _ _ _ _ _ _ _); first
    | (with_reducible refine Z.rop_add ?_)
    | (with_reducible refine Z.rop_catZ (by kfm_turns) ?_)
    | (with_reducible refine Z.rop_catTZ (by kfm_turns) ?_)
    | (with_reducible refine Z.rop_sub ?_)
    | (with_reducible refine Z.rop_ixZ (by kfm_turns) (by kfm_turns) ?_)
    | (with_reducible refine Z.rop_ixZT (by kfm_turns) (by kfm_turns) ?_)
    | fail)
  | ((with_reducible show Z.Wa _ _ _ _ _); first
    | (with_reducible refine Z.wa_cons ?_)
    | (with_reducible refine Z.wa_nil ?_)
    | fail)
  | ((with_reducible show Z.Ws _ _ _ _ _); first
    | (with_reducible refine Z.ws_fld (by with_unfolding_all rfl) (Lw.Tx.cl_Row (by assumption)) (Lw.Tx.na_Row_gains (by assumption)) (by with_unfolding_all exact Nat.le_of_ble_eq_true rfl) ?_)
    | (with_reducible refine Z.ws_fld (by with_unfolding_all rfl) (Lw.Tx.cl_Row (by assumption)) (Lw.Tx.na_Row_heights (by assumption)) (by with_unfolding_all exact Nat.le_of_ble_eq_true rfl) ?_)
    | (with_reducible refine Z.ws_fld (by with_unfolding_all rfl) (Lw.Tx.cl_Row (by assumption)) (Lw.Tx.na_Row_days (by assumption)) (by with_unfolding_all exact Nat.le_of_ble_eq_true rfl) ?_)
    | (with_reducible refine Z.ws_fld (by with_unfolding_all rfl) (Lw.Tx.cl_Row (by assumption)) (Lw.Tx.na_Row_total (by assumption)) (by with_unfolding_all exact Nat.le_of_ble_eq_true rfl) ?_)
    | (with_reducible refine Z.ws_seqN (by first | (dsimp only [Z.env0, Lw.N_Row_sum_of, Z.heardX, Z.Env.set, Z.Env.at, Z.Env.up, List.set, List.length_cons, List.length_nil, List.length, Nat.reduceAdd, Nat.reduceSub, Nat.zero_add, List.replicate_succ, List.replicate_zero, List.map, List.cons_append, List.nil_append, List.append_eq, List.append] <;> exact rfl) | exact rfl) ?_)
    | (with_reducible refine Z.ws_ret ?_)
    | (with_reducible refine Z.ws_next ?_)
    | (with_reducible refine Z.ws_drop ?_)
    | fail)
  | ((with_reducible show Z.Wt _ _ _ _ _); first
    | (with_reducible refine Z.wt_test ?_)
    | (with_reducible refine Z.wt_B ?_)
    | fail)
  | ((with_reducible show Z.Wg _ _ _ _ _ _ _); first
    | (with_reducible refine Z.wg_name ?_)
    | fail)
  | ((with_reducible show Exists _); first
    | (with_reducible refine Lw.row_fld (Lw.Tx.cl_Row (by assumption)) (Lw.Tx.na_Row_heights (by assumption)) (Lw.row_heights _) ?_)
    | (with_reducible refine Lw.row_fld (Lw.Tx.cl_Row (by assumption)) (Lw.Tx.na_Row_days (by assumption)) (Lw.row_days _) ?_)
    | (with_reducible refine Lw.row_fld (Lw.Tx.cl_Row (by assumption)) (Lw.Tx.na_Row_gains (by assumption)) (Lw.row_gains _) ?_)
    | (with_reducible refine Lw.row_fld (Lw.Tx.cl_Row (by assumption)) (Lw.Tx.na_Row_total (by assumption)) (Lw.row_total _) ?_)
    | (with_reducible refine Lw.row_meth ?_)
    | fail)
  | (with_reducible first
    | refine Z.bF (Z.nd_self _) ?_
    | refine Z.bT (Z.d_self _) ?_
    | refine Z.b1 ?_
    | refine Z.b0 ?_
    | refine Z.bN0 ?_
    | refine Z.bN1 ?_
    | refine Z.bF (Z.nd_of (by kpc_turns)) ?_
    | refine Z.bT (Z.d_of (by kpc_turns)) ?_
    | fail)
  | ((fail_if_success (with_reducible refine Z.spl ?_ ?_)); first
    | (refine ⟨Nat.le_of_ble_eq_true rfl, ?_⟩)
    | (refine ⟨_, rfl, ?_⟩)
    | (refine ⟨_, _, rfl, ?_⟩)
    | (refine ⟨_, _, _, rfl, ?_⟩)
    | (refine ⟨_, _, _, _, rfl, ?_⟩)
    | (refine ⟨(show (_ = _) by with_unfolding_all rfl), ?_⟩)
    | (refine ⟨⟨(show (_ = _) by with_unfolding_all rfl), (show (_ = _) by with_unfolding_all rfl)⟩, ?_⟩))
  | fail)
local macro_rules | `(tactic| kt_ors) => `(tactic| ((repeat mem_news); (try dsimp only); (try rfl)))
local macro_rules | `(tactic| leaf_len) => `(tactic| ((repeat' (first | (with_reducible first | refine Z.bF (Z.nd_self _) ?_ | refine Z.bT (Z.d_self _) ?_ | refine Z.b1 ?_ | refine Z.b0 ?_ | refine Z.bN0 ?_ | refine Z.bN1 ?_) | ((with_reducible refine Z.spl (fun hb => ?_) (fun hb => ?_)) <;> (try simp only [decide_eq_true_eq, decide_eq_false_iff_not, Bool.not_eq_true', Bool.not_eq_false', Bool.not_eq_true, Bool.not_eq_false] at hb)) | mem_news | fail)); (all_goals (try dsimp only)); (all_goals (try rfl))))

namespace Lw
open PySem L2
section
variable {P : Program} {w : World} {K : PySem.W.Frag} {mg : Str → Option Value} {base : Heap}
abbrev pm_Row_sum_of (K : PySem.W.Frag) : Z.Pm (List Int × Nat × Nat) := Z.pmX (fun (ns, b, l) => [rowD K ns, .int b, .int l]) (fun (ns, b, l) => 1 ≤ l ∧ b + l ≤ ns.length) (fun (ns, b, l) => .int (ssum ns b l))
theorem ok_Row_sum_of (T : Tx K mg) : ∃ fd, Z.Gd P w K mg base CX0 5 d_Row_sum_of ["self", "begin", "length"] (Z.spD K (pm_Row_sum_of K)) fd := by
  obtain ⟨fd_Row_need_stretch, g_Row_need_stretch⟩ := ok_Row_need_stretch (P := P) (w := w) (base := base) T
  have b_Row_need_stretch_0 : Binds K fd_Row_need_stretch ["self", "begin", "length"] [] := g_Row_need_stretch.fn.bindsN fun _ _ _ _ _ _ us hl => match us, hl with | [_, _, _], _ => rfl
  obtain ⟨fd, F⟩ := T.d_Row_sum_of
  refine ⟨fd, F.ok sc_Row_sum_of (Z.spD_len fun _ => rfl) (fun cdv A outer s H vs Q EX hr h => ⟨_, PSs.nox (pss_cons (ps_expr (pe_meth (pv 0) T.cl_Row T.m_Row_need_stretch g_Row_need_stretch.ok (hr.mono (by decide)) b_Row_need_stretch_0 .nil pass0 (pa_cons (pv 1) (pa_cons (pv 2) pa_nil)))) (pss_one (ps_ret (pe_op op_sub (pe_ix ix_seq (Z.pe_fldU (pv 0) rfl) (pe_op Z.op_addU (pv 1) (pv 2)) (fun _ _ => rfl)) (pe_ix ix_seq (Z.pe_fldU (pv 0) rfl) (pv 1) (fun _ _ => rfl)))))), Z.body h ?_⟩), F⟩
  rintro ⟨ns, b, l⟩ F n cells hc hp
  dsimp only [cxOf, pm_Row_sum_of, Z.pmX] at hp ⊢
  obtain ⟨rfl, hp⟩ := hp
  kt_ors
  rw [Lw.gi_hts (k := b + l) (by omega) (by omega), Lw.gi_hts (k := b) (by omega) (by omega), take_sum]
end
end Lw
end
section
local macro_rules | `(tactic| kfm_turns) => `(tactic| first | omega | (dsimp only [Z.env0, Z.Env.set, Z.Env.at, Z.Env.up]; omega) | (simp only [List.length_map, List.length_range, List.length_append, List.length_cons, List.length_nil, List.length_replicate, List.length_set, List.length_take, List.length_drop, List.length_reverse, List.length_zipWith, Z.zs_length, Z.rangeD_length, Int.natCast_add, Int.natCast_one, Int.natCast_zero, and_true, true_and, Int.toNat_natCast, Lw.hts_length, Lw.sumsL_length, Lw.wordsL_length]; omega) | (simp only [List.length_map, List.length_range, List.length_append, List.length_cons, List.length_nil, List.length_replicate, List.length_set, List.length_take, List.length_drop, List.length_reverse, List.length_zipWith, Z.zs_length, Z.rangeD_length, Int.natCast_add, Int.natCast_one, Int.natCast_zero, and_true, true_and, Int.toNat_natCast, Lw.hts_length, Lw.sumsL_length, Lw.wordsL_length] at *; omega))
local macro_rules | `(tactic| mem_news) => `(tactic| first
  | ((with_reducible show Z.We _ _ _ _ _); first
    | (with_reducible refine Z.we_fldS (by with_unfolding_all rfl) (Lw.Tx.cl_Row (by assumption)) (Lw.Tx.na_Row_heights (by assumption)) (by with_unfolding_all rfl) ?_)
    | (with_reducible refine Z.we_var (by with_unfolding_all rfl) ?_)
    | (with_reducible refine Z.we_varF (by with_unfolding_all rfl) ?_)
    | (with_reducible refine Z.we_adr ?_)
    | (with_reducible refine Z.we_isiT ?_)
    | (with_reducible refine Z.we_cb ?_)
    | (with_reducible refine Z.we_notV ?_)
    | (with_reducible refine Z.we_make (dds := []) (fun _ => .nil) ?_)
    | (with_reducible refine Z.we_make (dds := [.non]) (fun _ => .cons .non .nil) ?_)
    | (with_reducible refine Z.we_make (dds := [.non, .non]) (fun _ => .cons .non (.cons .non .nil)) ?_)
    | fail)
  | ((with_reducible show Z.Wa _ _ _ _ _); first
    | (with_reducible refine Z.wa_cons ?_)
    | (with_reducible refine Z.wa_nil ?_)
    | fail)
  | ((with_reducible show Z.Ws _ _ _ _ _); first
    | (with_reducible refine Z.ws_fld (by with_unfolding_all rfl) (Lw.Tx.cl_Row (by assumption)) (Lw.Tx.na_Row_gains (by assumption)) (by with_unfolding_all exact Nat.le_of_ble_eq_true rfl) ?_)
    | (with_reducible refine Z.ws_fld (by with_unfolding_all rfl) (Lw.Tx.cl_Row (by assumption)) (Lw.Tx.na_Row_heights (by assumption)) (by with_unfolding_all exact Nat.le_of_ble_eq_true rfl) ?_)
    | (with_reducible refine Z.ws_fld (by with_unfolding_all rfl) (Lw.Tx.cl_Row (by assumption)) (Lw.Tx.na_Row_days (by assumption)) (by with_unfolding_all exact Nat.le_of_ble_eq_true rfl) ?_)
    | (with_reducible refine Z.ws_fld (by with_unfolding_all rfl) (Lw.Tx.cl_Row (by assumption)) (Lw.Tx.na_Row_total (by assumption)) (by with_unfolding_all exact Nat.le_of_ble_eq_true rfl) ?_)
    | (with_reducible refine Z.ws_seqN (by first | (dsimp only [Z.env0, Lw.N_need_row, Z.heardX, Z.Env.set, Z.Env.at, Z.Env.up, List.set, List.length_cons, List.length_nil, List.length, Nat.reduceAdd, Nat.reduceSub, Nat.zero_add, List.replicate_succ, List.replicate_zero, List.map, List.cons_append, List.nil_append, List.append_eq, List.append] <;> exact rfl) | exact rfl) ?_)
    | (with_reducible refine Z.ws_if ?_)
    | (with_reducible refine Z.ws_next ?_)
    | fail)
  | ((with_reducible show Z.Wt _ _ _ _ _); first
    | (with_reducible refine Z.wt_test ?_)
    | (with_reducible refine Z.wt_B ?_)
    | (with_reducible refine Z.wt_not ?_)
    | fail)
  | ((with_reducible show Z.Wg _ _ _ _ _ _ _); first
    | (with_reducible refine Z.wg_name ?_)
    | fail)
  | ((with_reducible show Exists _); first
    | (with_reducible refine Lw.row_fld (Lw.Tx.cl_Row (by assumption)) (Lw.Tx.na_Row_heights (by assumption)) (Lw.row_heights _) ?_)
    | (with_reducible refine Lw.row_fld (Lw.Tx.cl_Row (by assumption)) (Lw.Tx.na_Row_days (by assumption)) (Lw.row_days _) ?_)
    | (with_reducible refine Lw.row_fld (Lw.Tx.cl_Row (by assumption)) (Lw.Tx.na_Row_gains (by assumption)) (Lw.row_gains _) ?_)
    | (with_reducible refine Lw.row_fld (Lw.Tx.cl_Row (by assumption)) (Lw.Tx.na_Row_total (by assumption)) (Lw.row_total _) ?_)
    | (with_reducible refine Lw.row_meth ?_)
    | fail)
  | (with_reducible first
    | refine Z.bF (Z.nd_self _) ?_
    | refine Z.bT (Z.d_self _) ?_
    | refine Z.b1 ?_
    | refine Z.b0 ?_
    | refine Z.bN0 ?_
    | refine Z.bN1 ?_
    | refine Z.bF (Z.nd_of (by kpc_turns)) ?_
    | refine Z.bT (Z.d_of (by kpc_turns)) ?_
    | refine Z.isiT_lst ?_
    | refine Z.isiT_tup ?_
    | fail)
  | ((fail_if_success (with_reducible refine Z.spl ?_ ?_)); first
    | (refine ⟨Nat.le_of_ble_eq_true rfl, ?_⟩)
    | (refine ⟨_, rfl, ?_⟩)
    | (refine ⟨_, _, rfl, ?_⟩)
    | (refine ⟨_, _, _, rfl, ?_⟩)
    | (refine ⟨_, _, _, _, rfl, ?_⟩)
    | (refine ⟨(show (_ = _) by with_unfolding_all rfl), ?_⟩)
    | (refine ⟨⟨(show (_ = _) by with_unfolding_all rfl), (show (_ = _) by with_unfolding_all rfl)⟩, ?_⟩))
  | fail)
local macro_rules | `(tactic| kt_ors) => `(tactic| ((repeat mem_news); (try dsimp only); (try rfl)))
local macro_rules | `(tactic| leaf_len) => `(tactic| ((repeat' (first | (with_reducible first | refine Z.bF (Z.nd_self _) ?_ | refine Z.bT (Z.d_self _) ?_ | refine Z.b1 ?_ | refine Z.b0 ?_ | refine Z.bN0 ?_ | refine Z.bN1 ?_) | ((with_reducible refine Z.spl (fun hb => ?_) (fun hb => ?_)) <;> (try simp only [decide_eq_true_eq, decide_eq_false_iff_not, Bool.not_eq_true', Bool.not_eq_false', Bool.not_eq_true, Bool.not_eq_false] at hb)) | mem_news | fail)); (all_goals (try dsimp only)); (all_goals (try rfl))))

namespace Lw
open PySem L2
section
variable {P : Program} {w : World} {K : PySem.W.Frag} {mg : Str → Option Value} {base : Heap}
abbrev pm_need_row (K : PySem.W.Frag) : Z.Pm (List Int × Str) := Z.pmX (fun (ns, p) => [rowD K ns, .str p]) (fun _ => True) (fun _ => .non)
theorem ok_need_row (T : Tx K mg) : ∃ fd, Z.Gd P w K mg base CX0 1 d_need_row ["value", "part"] (Z.spD K (pm_need_row K)) fd := by
  obtain ⟨fd, F⟩ := T.d_need_row
  refine ⟨fd, F.ok sc_need_row (Z.spD_len fun _ => rfl) (fun cdv A outer s H vs Q EX hr h => ⟨_, PSs.nox (pss_one (ps_if (pt_not (pt_val (pe_callB Z.call_isiU (by rfl) T.f_isinstance (by decide +kernel) (pa_cons (pv 0) (pa_cons (pe_glob (v := .ref (He.ga K "Row")) rfl T.g_Row rfl) pa_nil))))) (pss_one ps_never) pss_nil)), Z.body h ?_⟩), F⟩
  rintro ⟨ns, p⟩ F n cells hc hp
  dsimp only [cxOf, pm_need_row, Z.pmX] at hp ⊢
  obtain ⟨rfl, hp⟩ := hp
  kt_ors
  refine Z.rcb_isi (ty_row T.ob_Row) (.ad _) Z.kit_self ?_
  kt_ors
end
end Lw
end
section
local macro_rules | `(tactic| kfm_turns) => `(tactic| first | omega | (dsimp only [Z.env0, Z.Env.set, Z.Env.at, Z.Env.up]; omega) | (simp only [List.length_map, List.length_range, List.length_append, List.length_cons, List.length_nil, List.length_replicate, List.length_set, List.length_take, List.length_drop, List.length_reverse, List.length_zipWith, Z.zs_length, Z.rangeD_length, Int.natCast_add, Int.natCast_one, Int.natCast_zero, and_true, true_and, Int.toNat_natCast, Lw.hts_length, Lw.sumsL_length, Lw.wordsL_length]; omega) | (simp only [List.length_map, List.length_range, List.length_append, List.length_cons, List.length_nil, List.length_replicate, List.length_set, List.length_take, List.length_drop, List.length_reverse, List.length_zipWith, Z.zs_length, Z.rangeD_length, Int.natCast_add, Int.natCast_one, Int.natCast_zero, and_true, true_and, Int.toNat_natCast, Lw.hts_length, Lw.sumsL_length, Lw.wordsL_length] at *; omega))
local macro_rules | `(tactic| mem_news) => `(tactic| first
  | ((with_reducible show Z.Called _ _ _ _ _ _ _); first
    | (((with_reducible show Z.Called (Lw.pm_need_row _) _ _ _ _ _ _); refine Z.called_X (_, _) (by with_unfolding_all rfl) ?_ ?hp_need_row; rotate_left 1; (try trivial); rotate_right 1))
    | fail)
  | ((with_reducible show Z.We _ _ _ _ _); first
    | (with_reducible refine Z.we_fldS (by with_unfolding_all rfl) (Lw.Tx.cl_Row (by assumption)) (Lw.Tx.na_Row_heights (by assumption)) (by with_unfolding_all rfl) ?_)
    | (with_reducible refine Z.we_int ?_)
    | (with_reducible refine Z.we_var (by with_unfolding_all rfl) ?_)
    | (with_reducible refine Z.we_varF (by with_unfolding_all rfl) ?_)
    | (with_reducible refine Z.we_str ?_)
    | (with_reducible refine Z.we_ty ?_)
    | (with_reducible refine Z.we_tupO (by with_unfolding_all rfl) ?_)
    | (with_reducible refine Z.we_cb ?_)
    | (with_reducible refine Z.we_of (Z.wo_lc ?_))
    | (with_reducible refine Z.we_call (dds := []) (fun _ => .nil) ?_)
    | (with_reducible refine Z.we_call (dds := [.non, .non]) (fun _ => .cons .non (.cons .non .nil)) ?_)
    | (with_reducible refine Z.we_call (dds := [.non]) (fun _ => .cons .non .nil) ?_)
    | (with_reducible refine Z.we_meth (dds := []) (fun _ => .nil) ?_)
    | (with_reducible refine Z.we_op ?_)
    | (with_reducible refine Z.we_fld ?_)
    | fail)
  | ((with_reducible show Z.Rop _ _ _ _ _ _ _); first
    | (with_reducible refine Z.rop_add ?_)
    | (with_reducible refine Z.rop_catZ (by kfm_turns) ?_)
    | (with_reducible refine Z.rop_catTZ (by kfm_turns) ?_)
    | (with_reducible refine Z.rop_sub ?_)
    | fail)
  | ((with_reducible show Z.Wa _ _ _ _ _); first
    | (with_reducible refine Z.wa_cons ?_)
    | (with_reducible refine Z.wa_nil ?_)
    | fail)
  | ((with_reducible show Z.Ws _ _ _ _ _); first
    | (with_reducible refine Z.ws_fld (by with_unfolding_all rfl) (Lw.Tx.cl_Row (by assumption)) (Lw.Tx.na_Row_gains (by assumption)) (by with_unfolding_all exact Nat.le_of_ble_eq_true rfl) ?_)
    | (with_reducible refine Z.ws_fld (by with_unfolding_all rfl) (Lw.Tx.cl_Row (by assumption)) (Lw.Tx.na_Row_heights (by assumption)) (by with_unfolding_all exact Nat.le_of_ble_eq_true rfl) ?_)
    | (with_reducible refine Z.ws_fld (by with_unfolding_all rfl) (Lw.Tx.cl_Row (by assumption)) (Lw.Tx.na_Row_days (by assumption)) (by with_unfolding_all exact Nat.le_of_ble_eq_true rfl) ?_)
    | (with_reducible refine Z.ws_fld (by with_unfolding_all rfl) (Lw.Tx.cl_Row (by assumption)) (Lw.Tx.na_Row_total (by assumption)) (by with_unfolding_all exact Nat.le_of_ble_eq_true rfl) ?_)
    | (with_reducible refine Z.ws_seqN (by first | (dsimp only [Z.env0, Lw.N_sums, Z.heardX, Z.Env.set, Z.Env.at, Z.Env.up, List.set, List.length_cons, List.length_nil, List.length, Nat.reduceAdd, Nat.reduceSub, Nat.zero_add, List.replicate_succ, List.replicate_zero, List.map, List.cons_append, List.nil_append, List.append_eq, List.append] <;> exact rfl) | exact rfl) ?_)
    | (with_reducible refine Z.ws_ret ?_)
    | (with_reducible refine Z.ws_own (Z.wo_lc ?_))
    | (with_reducible refine Z.ws_own (Z.wo_listRg ?_))
    | (with_reducible refine Z.ws_next ?_)
    | (with_reducible refine Z.ws_drop ?_)
    | fail)
  | ((with_reducible show Z.Rcb _ _ _ _ _ _); first
    | ((with_reducible refine Z.rcb_tupX ?_))
    | (with_reducible refine Z.rcb_tupL ?_)
    | (with_reducible refine Z.rcb_tupT ?_)
    | (with_reducible refine Z.isi_bl_tuple ?_)
    | (with_reducible refine Z.isi_int_tuple ?_)
    | (with_reducible refine Z.isi_str_tuple ?_)
    | (with_reducible refine Z.isi_lst_tuple ?_)
    | (with_reducible refine Z.isi_tup_tuple ?_)
    | (with_reducible refine Z.isi_non_tuple ?_)
    | fail)
  | ((with_reducible show Z.Wt _ _ _ _ _); first
    | (with_reducible refine Z.wt_test ?_)
    | (with_reducible refine Z.wt_B ?_)
    | fail)
  | ((with_reducible show Z.Wg _ _ _ _ _ _ _); first
    | (with_reducible refine Z.wg_name ?_)
    | fail)
  | ((with_reducible show Exists _); first
    | (with_reducible refine Lw.row_fld (Lw.Tx.cl_Row (by assumption)) (Lw.Tx.na_Row_heights (by assumption)) (Lw.row_heights _) ?_)
    | (with_reducible refine Lw.row_fld (Lw.Tx.cl_Row (by assumption)) (Lw.Tx.na_Row_days (by assumption)) (Lw.row_days _) ?_)
    | (with_reducible refine Lw.row_fld (Lw.Tx.cl_Row (by assumption)) (Lw.Tx.na_Row_gains (by assumption)) (Lw.row_gains _) ?_)
    | (with_reducible refine Lw.row_fld (Lw.Tx.cl_Row (by assumption)) (Lw.Tx.na_Row_total (by assumption)) (Lw.row_total _) ?_)
    | (with_reducible refine Lw.row_meth ?_)
    | fail)
  | (with_reducible first
    | refine Z.bF (Z.nd_self _) ?_
    | refine Z.bT (Z.d_self _) ?_
    | refine Z.b1 ?_
    | refine Z.b0 ?_
    | refine Z.bN0 ?_
    | refine Z.bN1 ?_
    | refine Z.bF (Z.nd_of (by kpc_turns)) ?_
    | refine Z.bT (Z.d_of (by kpc_turns)) ?_
    | fail)
  | ((fail_if_success (with_reducible refine Z.spl ?_ ?_)); first
    | (refine ⟨Nat.le_of_ble_eq_true rfl, ?_⟩)
    | (refine ⟨_, rfl, ?_⟩)
    | (refine ⟨_, _, rfl, ?_⟩)
    | (refine ⟨_, _, _, rfl, ?_⟩)
    | (refine ⟨_, _, _, _, rfl, ?_⟩)
    | (refine ⟨(show (_ = _) by with_unfolding_all rfl), ?_⟩)
    | (refine ⟨⟨(show (_ = _) by with_unfolding_all rfl), (show (_ = _) by with_unfolding_all rfl)⟩, ?_⟩))
  | fail)
local macro_rules | `(tactic| kt_ors) => `(tactic| ((repeat mem_news); (try dsimp only); (try rfl)))
local macro_rules | `(tactic| leaf_len) => `(tactic| ((repeat' (first | (with_reducible first | refine Z.bF (Z.nd_self _) ?_ | refine Z.bT (Z.d_self _) ?_ | refine Z.b1 ?_ | refine Z.b0 ?_ | refine Z.bN0 ?_ | refine Z.bN1 ?_) | ((with_reducible refine Z.spl (fun hb => ?_) (fun hb => ?_)) <;> (try simp only [decide_eq_true_eq, decide_eq_false_iff_not, Bool.not_eq_true', Bool.not_eq_false', Bool.not_eq_true, Bool.not_eq_false] at hb)) | mem_news | fail)); (all_goals (try dsimp only)); (all_goals (try rfl))))

namespace Lw
open PySem L2
section
variable {P : Program} {w : World} {K : PySem.W.Frag} {mg : Str → Option Value} {base : Heap}
abbrev pm_sums (K : PySem.W.Frag) : Z.Pm (List Int × Nat) := Z.pmX (fun (ns, l) => [rowD K ns, .int l]) (fun (ns, l) => 1 ≤ l ∧ l ≤ ns.length ∧ ns.length ≤ 48) (fun (ns, l) => .tpx (sumsL ns l))
theorem ok_sums (T : Tx K mg) : ∃ fd, Z.Gd P w K mg base CX0 6 d_sums ["row", "length"] (Z.spD K (pm_sums K)) fd := by
  obtain ⟨fd_Row_sum_of, g_Row_sum_of⟩ := ok_Row_sum_of (P := P) (w := w) (base := base) T
  obtain ⟨fd_need_number, g_need_number⟩ := ok_need_number (P := P) (w := w) (base := base) T
  obtain ⟨fd_need_row, g_need_row⟩ := ok_need_row (P := P) (w := w) (base := base) T
  have b_Row_sum_of_0 : Binds K fd_Row_sum_of ["self", "begin", "length"] [] := g_Row_sum_of.fn.bindsN fun _ _ _ _ _ _ us hl => match us, hl with | [_, _, _], _ => rfl
  obtain ⟨ds_need_number_0, v_need_number_0, b_need_number_0⟩ := g_need_number.fn.binds1 (ps := ["value", "part", "least", "most"]) 4 2 (by exact fun h => nomatch h) rfl fun _ _ _ _ _ _ _ us its hl hi => match us, hl, its, hi with | [_, _, _, _], _, [_, _], _ => ⟨_, rfl, rfl⟩
  have v_need_number_0 : Vals [] ds_need_number_0 := by exact v_need_number_0
  have b_need_row_0 : Binds K fd_need_row ["value", "part"] [] := g_need_row.fn.bindsN fun _ _ _ _ _ _ us hl => match us, hl with | [_, _], _ => rfl
  obtain ⟨fd, F⟩ := T.d_sums
  refine ⟨fd, F.ok sc_sums (Z.spD_len fun _ => rfl) (fun cdv A outer s H vs Q EX hr h => ⟨_, PSs.nox (pss_cons (ps_expr (pe_call g_need_row.ok (hr.mono (by decide)) rfl T.g_need_row g_need_row.fn.kp b_need_row_0 .nil pass0 (pa_cons (pv 0) (pa_cons pe_str pa_nil)))) (pss_cons (ps_expr (pe_call g_need_number.ok (hr.mono (by decide)) rfl T.g_need_number g_need_number.fn.kp b_need_number_0 v_need_number_0 pass0 (pa_cons (pv 1) (pa_cons pe_str (pa_cons pe_int (pa_cons (Z.pe_fldU (pv 0) rfl) pa_nil)))))) (pss_one (ps_ret (pe_callTy Z.call_tupX (by rfl) T.f_tuple (by decide +kernel) (pa_cons (pe_lc (own := [("begin", 2)]) rfl sc_sums.nd (pi_range1 rfl T.f_range (pa_cons (pe_op Z.op_addU (pe_op op_sub (Z.pe_fldU (pv 0) rfl) (pv 1)) pe_int) pa_nil)) (blkOk_by (N := N_sums) (sc := defScope s_sums) (by decide +kernel)) (fun _ _ _ _ _ => (pg_name (i := 2) sc_sums.nd rfl (Or.inl rfl))) (fun _ _ _ _ _ => pts_nil) (fun _ _ _ _ _ => (pe_meth (pv 0) T.cl_Row T.m_Row_sum_of g_Row_sum_of.ok (hr.mono (by decide)) b_Row_sum_of_0 .nil pass0 (pa_cons (pv 2) (pa_cons (pv 1) pa_nil))))) pa_nil)))))), Z.body h ?_⟩), F⟩
  rintro ⟨ns, l⟩ F n cells hc hp
  dsimp only [cxOf, pm_sums, Z.pmX, List.map] at hp ⊢
  obtain ⟨rfl, hp⟩ := hp
  kt_ors
  refine Z.called_X (l, _, some 1, some _) rfl ?_ ?_
  · kt_ors
    refine Z.we_of (Z.wo_map (Z.wi_r1 ?_))
    kt_ors
    refine ⟨by omega, ?_, fun s hs => by cases hs; exact id, ?_⟩
    · rw [Z.rangeD_length]; omega
    refine ⟨Z.zs (sumsL ns l), by rw [Z.zs_length, sumsL_length, Z.rangeD_length]; omega, fun i d hd => ?_, ?_⟩
    · obtain ⟨hi, rfl⟩ := Z.rg_get hd
      kt_ors
      refine Z.called_X (ns, i, l) (by simp) ?_ ?_
      · exact ⟨Z.zs_at (sumsL_get (by omega)), rfl, rfl⟩
      · dsimp only; omega
    · kt_ors
  · simp [inb]; omega
end
end Lw
end
section
local macro_rules | `(tactic| kfm_turns) => `(tactic| first | omega | (dsimp only [Z.env0, Z.Env.set, Z.Env.at, Z.Env.up]; omega) | (simp only [List.length_map, List.length_range, List.length_append, List.length_cons, List.length_nil, List.length_replicate, List.length_set, List.length_take, List.length_drop, List.length_reverse, List.length_zipWith, Z.zs_length, Z.rangeD_length, Int.natCast_add, Int.natCast_one, Int.natCast_zero, and_true, true_and, Int.toNat_natCast, Lw.hts_length, Lw.sumsL_length, Lw.wordsL_length]; omega) | (simp only [List.length_map, List.length_range, List.length_append, List.length_cons, List.length_nil, List.length_replicate, List.length_set, List.length_take, List.length_drop, List.length_reverse, List.length_zipWith, Z.zs_length, Z.rangeD_length, Int.natCast_add, Int.natCast_one, Int.natCast_zero, and_true, true_and, Int.toNat_natCast, Lw.hts_length, Lw.sumsL_length, Lw.wordsL_length] at *; omega))
local macro_rules | `(tactic| mem_news) => `(tactic| first
  | ((with_reducible show Z.Called _ _ _ _ _ _ _); first
    | (((with_reducible show Z.Called (Lw.pm_sums _) _ _ _ _ _ _); refine Z.called_X (_, _) (by with_unfolding_all rfl) ?_ ?hp_sums; rotate_left 1; (try ((try dsimp only); kfm_turns)); rotate_right 1))
    | fail)
  | ((with_reducible show Z.We _ _ _ _ _); first
    | (with_reducible refine Z.we_fldS (by with_unfolding_all rfl) (Lw.Tx.cl_Row (by assumption)) (Lw.Tx.na_Row_heights (by assumption)) (by with_unfolding_all rfl) ?_)
    | (with_reducible refine Z.we_var (by with_unfolding_all rfl) ?_)
    | (with_reducible refine Z.we_varF (by with_unfolding_all rfl) ?_)
    | (with_reducible refine Z.we_cb ?_)
    | (with_reducible refine Z.we_tup ?_)
    | (with_reducible refine Z.we_call (dds := []) (fun _ => .nil) ?_)
    | (with_reducible refine Z.we_call (dds := [.non, .non]) (fun _ => .cons .non (.cons .non .nil)) ?_)
    | (with_reducible refine Z.we_call (dds := [.non]) (fun _ => .cons .non .nil) ?_)
    | (with_reducible refine Z.we_meth (dds := []) (fun _ => .nil) ?_)
    | (with_reducible refine Z.we_fld ?_)
    | fail)
  | ((with_reducible show Z.Wa _ _ _ _ _); first
    | (with_reducible refine Z.wa_cons ?_)
    | (with_reducible refine Z.wa_nil ?_)
    | fail)
  | ((with_reducible show Z.Ws _ _ _ _ _); first
    | (with_reducible refine Z.ws_fld (by with_unfolding_all rfl) (Lw.Tx.cl_Row (by assumption)) (Lw.Tx.na_Row_gains (by assumption)) (by with_unfolding_all exact Nat.le_of_ble_eq_true rfl) ?_)
    | (with_reducible refine Z.ws_fld (by with_unfolding_all rfl) (Lw.Tx.cl_Row (by assumption)) (Lw.Tx.na_Row_heights (by assumption)) (by with_unfolding_all exact Nat.le_of_ble_eq_true rfl) ?_)
    | (with_reducible refine Z.ws_fld (by with_unfolding_all rfl) (Lw.Tx.cl_Row (by assumption)) (Lw.Tx.na_Row_days (by assumption)) (by with_unfolding_all exact Nat.le_of_ble_eq_true rfl) ?_)
    | (with_reducible refine Z.ws_fld (by with_unfolding_all rfl) (Lw.Tx.cl_Row (by assumption)) (Lw.Tx.na_Row_total (by assumption)) (by with_unfolding_all exact Nat.le_of_ble_eq_true rfl) ?_)
    | (with_reducible refine Z.ws_seqN (by first | (dsimp only [Z.env0, Lw.N_greatest_sum, Z.heardX, Z.Env.set, Z.Env.at, Z.Env.up, List.set, List.length_cons, List.length_nil, List.length, Nat.reduceAdd, Nat.reduceSub, Nat.zero_add, List.replicate_succ, List.replicate_zero, List.map, List.cons_append, List.nil_append, List.append_eq, List.append] <;> exact rfl) | exact rfl) ?_)
    | (with_reducible refine Z.ws_ret ?_)
    | (with_reducible refine Z.ws_asgN ?_)
    | (with_reducible refine Z.ws_asg ?_)
    | (with_reducible refine Z.ws_next ?_)
    | fail)
  | ((with_reducible show Z.Rcb _ _ _ _ _ _); first
    | (with_reducible refine Z.rcb_max2 ?_)
    | fail)
  | ((with_reducible show Z.Wt _ _ _ _ _); first
    | (with_reducible refine Z.wt_test ?_)
    | (with_reducible refine Z.wt_B ?_)
    | fail)
  | ((with_reducible show Z.Wg _ _ _ _ _ _ _); first
    | (with_reducible refine Z.wg_name ?_)
    | fail)
  | ((with_reducible show Exists _); first
    | (with_reducible refine Lw.row_fld (Lw.Tx.cl_Row (by assumption)) (Lw.Tx.na_Row_heights (by assumption)) (Lw.row_heights _) ?_)
    | (with_reducible refine Lw.row_fld (Lw.Tx.cl_Row (by assumption)) (Lw.Tx.na_Row_days (by assumption)) (Lw.row_days _) ?_)
    | (with_reducible refine Lw.row_fld (Lw.Tx.cl_Row (by assumption)) (Lw.Tx.na_Row_gains (by assumption)) (Lw.row_gains _) ?_)
    | (with_reducible refine Lw.row_fld (Lw.Tx.cl_Row (by assumption)) (Lw.Tx.na_Row_total (by assumption)) (Lw.row_total _) ?_)
    | (with_reducible refine Lw.row_meth ?_)
    | fail)
  | (with_reducible first
    | refine Z.bF (Z.nd_self _) ?_
    | refine Z.bT (Z.d_self _) ?_
    | refine Z.b1 ?_
    | refine Z.b0 ?_
    | refine Z.bN0 ?_
    | refine Z.bN1 ?_
    | refine Z.bF (Z.nd_of (by kpc_turns)) ?_
    | refine Z.bT (Z.d_of (by kpc_turns)) ?_
    | fail)
  | ((fail_if_success (with_reducible refine Z.spl ?_ ?_)); first
    | (refine ⟨Nat.le_of_ble_eq_true rfl, ?_⟩)
    | (refine ⟨_, rfl, ?_⟩)
    | (refine ⟨_, _, rfl, ?_⟩)
    | (refine ⟨_, _, _, rfl, ?_⟩)
    | (refine ⟨_, _, _, _, rfl, ?_⟩)
    | (refine ⟨(show (_ = _) by with_unfolding_all rfl), ?_⟩)
    | (refine ⟨⟨(show (_ = _) by with_unfolding_all rfl), (show (_ = _) by with_unfolding_all rfl)⟩, ?_⟩))
  | fail)
local macro_rules | `(tactic| kt_ors) => `(tactic| ((repeat mem_news); (try dsimp only); (try rfl)))
local macro_rules | `(tactic| leaf_len) => `(tactic| ((repeat' (first | (with_reducible first | refine Z.bF (Z.nd_self _) ?_ | refine Z.bT (Z.d_self _) ?_ | refine Z.b1 ?_ | refine Z.b0 ?_ | refine Z.bN0 ?_ | refine Z.bN1 ?_) | ((with_reducible refine Z.spl (fun hb => ?_) (fun hb => ?_)) <;> (try simp only [decide_eq_true_eq, decide_eq_false_iff_not, Bool.not_eq_true', Bool.not_eq_false', Bool.not_eq_true, Bool.not_eq_false] at hb)) | mem_news | fail)); (all_goals (try dsimp only)); (all_goals (try rfl))))

namespace Lw
open PySem L2
section
variable {P : Program} {w : World} {K : PySem.W.Frag} {mg : Str → Option Value} {base : Heap}
abbrev pm_greatest_sum (K : PySem.W.Frag) : Z.Pm (List Int × Nat) := Z.pmX (fun (ns, l) => [rowD K ns, .int l]) (fun (ns, l) => 1 ≤ l ∧ l ≤ ns.length ∧ ns.length ≤ 48) (fun (ns, l) => .tup [.int (gsF (sumsL ns l)).1, .int (gsF (sumsL ns l)).2])
theorem ok_greatest_sum (T : Tx K mg) : ∃ fd, Z.Gd P w K mg base CX0 7 d_greatest_sum ["row", "length"] (Z.spD K (pm_greatest_sum K)) fd := by
  obtain ⟨fd_sums, g_sums⟩ := ok_sums (P := P) (w := w) (base := base) T
  have b_sums_0 : Binds K fd_sums ["row", "length"] [] := g_sums.fn.bindsN fun _ _ _ _ _ _ us hl => match us, hl with | [_, _], _ => rfl
  obtain ⟨fd, F⟩ := T.d_greatest_sum
  refine ⟨fd, F.ok sc_greatest_sum (Z.spD_len fun _ => rfl) (fun cdv A outer s H vs Q EX hr h => ⟨_, PSs.nox (pss_cons (ps_set (i := 2) sc_greatest_sum.nd rfl (Or.inl rfl) (pe_call g_sums.ok (hr.mono (by decide)) rfl T.g_sums g_sums.fn.kp b_sums_0 .nil pass0 (pa_cons (pv 0) (pa_cons (pv 1) pa_nil)))) (pss_cons (ps_set (i := 3) sc_greatest_sum.nd rfl (Or.inl rfl) (pe_callB (Z.cr_maxX (by rfl)) (by rfl) T.f_max (by decide +kernel) (pa_cons (pv 2) pa_nil))) (pss_one (ps_ret (pe_tup (pa_cons (pv 3) (pa_cons (Z.pe_idxX (pv 2) (pa_cons (pv 3) pa_nil)) pa_nil))))))), Z.body h ?_⟩), F⟩
  rintro ⟨ns, l⟩ F n cells hc hp
  dsimp only [cxOf, pm_greatest_sum, Z.pmX, List.map] at hp ⊢
  obtain ⟨rfl, hp⟩ := hp
  have hne : 0 < (sumsL ns l).length := by rw [sumsL_length]; omega
  kt_ors
  refine Z.rcb_maxX hne fun a ha hla => ?_
  obtain rfl := maxF_eq ha hla
  kt_ors
  refine Z.we_idxX ?_
  kt_ors
  refine ⟨ha, ?_⟩
  kt_ors
end
end Lw
end
section
local macro_rules | `(tactic| kfm_turns) => `(tactic| first | omega | (dsimp only [Z.env0, Z.Env.set, Z.Env.at, Z.Env.up]; omega) | (simp only [List.length_map, List.length_range, List.length_append, List.length_cons, List.length_nil, List.length_replicate, List.length_set, List.length_take, List.length_drop, List.length_reverse, List.length_zipWith, Z.zs_length, Z.rangeD_length, Int.natCast_add, Int.natCast_one, Int.natCast_zero, and_true, true_and, Int.toNat_natCast, Lw.hts_length, Lw.sumsL_length, Lw.wordsL_length]; omega) | (simp only [List.length_map, List.length_range, List.length_append, List.length_cons, List.length_nil, List.length_replicate, List.length_set, List.length_take, List.length_drop, List.length_reverse, List.length_zipWith, Z.zs_length, Z.rangeD_length, Int.natCast_add, Int.natCast_one, Int.natCast_zero, and_true, true_and, Int.toNat_natCast, Lw.hts_length, Lw.sumsL_length, Lw.wordsL_length] at *; omega))
local macro_rules | `(tactic| mem_news) => `(tactic| first
  | ((with_reducible show Z.Called _ _ _ _ _ _ _); first
    | (((with_reducible show Z.Called (Lw.pm_sums _) _ _ _ _ _ _); refine Z.called_X (_, _) (by with_unfolding_all rfl) ?_ ?hp_sums; rotate_left 1; (try ((try dsimp only); kfm_turns)); rotate_right 1))
    | fail)
  | ((with_reducible show Z.We _ _ _ _ _); first
    | (with_reducible refine Z.we_fldS (by with_unfolding_all rfl) (Lw.Tx.cl_Row (by assumption)) (Lw.Tx.na_Row_heights (by assumption)) (by with_unfolding_all rfl) ?_)
    | (with_reducible refine Z.we_var (by with_unfolding_all rfl) ?_)
    | (with_reducible refine Z.we_varF (by with_unfolding_all rfl) ?_)
    | (with_reducible refine Z.we_cb ?_)
    | (with_reducible refine Z.we_tup ?_)
    | (with_reducible refine Z.we_call (dds := []) (fun _ => .nil) ?_)
    | (with_reducible refine Z.we_call (dds := [.non, .non]) (fun _ => .cons .non (.cons .non .nil)) ?_)
    | (with_reducible refine Z.we_call (dds := [.non]) (fun _ => .cons .non .nil) ?_)
    | (with_reducible refine Z.we_meth (dds := []) (fun _ => .nil) ?_)
    | (with_reducible refine Z.we_fld ?_)
    | fail)
  | ((with_reducible show Z.Wa _ _ _ _ _); first
    | (with_reducible refine Z.wa_cons ?_)
    | (with_reducible refine Z.wa_nil ?_)
    | fail)
  | ((with_reducible show Z.Ws _ _ _ _ _); first
    | (with_reducible refine Z.ws_fld (by with_unfolding_all rfl) (Lw.Tx.cl_Row (by assumption)) (Lw.Tx.na_Row_gains (by assumption)) (by with_unfolding_all exact Nat.le_of_ble_eq_true rfl) ?_)
    | (with_reducible refine Z.ws_fld (by with_unfolding_all rfl) (Lw.Tx.cl_Row (by assumption)) (Lw.Tx.na_Row_heights (by assumption)) (by with_unfolding_all exact Nat.le_of_ble_eq_true rfl) ?_)
    | (with_reducible refine Z.ws_fld (by with_unfolding_all rfl) (Lw.Tx.cl_Row (by assumption)) (Lw.Tx.na_Row_days (by assumption)) (by with_unfolding_all exact Nat.le_of_ble_eq_true rfl) ?_)
    | (with_reducible refine Z.ws_fld (by with_unfolding_all rfl) (Lw.Tx.cl_Row (by assumption)) (Lw.Tx.na_Row_total (by assumption)) (by with_unfolding_all exact Nat.le_of_ble_eq_true rfl) ?_)
    | (with_reducible refine Z.ws_seqN (by first | (dsimp only [Z.env0, Lw.N_least_sum, Z.heardX, Z.Env.set, Z.Env.at, Z.Env.up, List.set, List.length_cons, List.length_nil, List.length, Nat.reduceAdd, Nat.reduceSub, Nat.zero_add, List.replicate_succ, List.replicate_zero, List.map, List.cons_append, List.nil_append, List.append_eq, List.append] <;> exact rfl) | exact rfl) ?_)
    | (with_reducible refine Z.ws_ret ?_)
    | (with_reducible refine Z.ws_asgN ?_)
    | (with_reducible refine Z.ws_asg ?_)
    | (with_reducible refine Z.ws_next ?_)
    | fail)
  | ((with_reducible show Z.Rcb _ _ _ _ _ _); first
    | (with_reducible refine Z.rcb_min2 ?_)
    | fail)
  | ((with_reducible show Z.Wt _ _ _ _ _); first
    | (with_reducible refine Z.wt_test ?_)
    | (with_reducible refine Z.wt_B ?_)
    | fail)
  | ((with_reducible show Z.Wg _ _ _ _ _ _ _); first
    | (with_reducible refine Z.wg_name ?_)
    | fail)
  | ((with_reducible show Exists _); first
    | (with_reducible refine Lw.row_fld (Lw.Tx.cl_Row (by assumption)) (Lw.Tx.na_Row_heights (by assumption)) (Lw.row_heights _) ?_)
    | (with_reducible refine Lw.row_fld (Lw.Tx.cl_Row (by assumption)) (Lw.Tx.na_Row_days (by assumption)) (Lw.row_days _) ?_)
    | (with_reducible refine Lw.row_fld (Lw.Tx.cl_Row (by assumption)) (Lw.Tx.na_Row_gains (by assumption)) (Lw.row_gains _) ?_)
    | (with_reducible refine Lw.row_fld (Lw.Tx.cl_Row (by assumption)) (Lw.Tx.na_Row_total (by assumption)) (Lw.row_total _) ?_)
    | (with_reducible refine Lw.row_meth ?_)
    | fail)
  | (with_reducible first
    | refine Z.bF (Z.nd_self _) ?_
    | refine Z.bT (Z.d_self _) ?_
    | refine Z.b1 ?_
    | refine Z.b0 ?_
    | refine Z.bN0 ?_
    | refine Z.bN1 ?_
    | refine Z.bF (Z.nd_of (by kpc_turns)) ?_
    | refine Z.bT (Z.d_of (by kpc_turns)) ?_
    | fail)
  | ((fail_if_success (with_reducible refine Z.spl ?_ ?_)); first
    | (refine ⟨Nat.le_of_ble_eq_true rfl, ?_⟩)
    | (refine ⟨_, rfl, ?_⟩)
    | (refine ⟨_, _, rfl, ?_⟩)
    | (refine ⟨_, _, _, rfl, ?_⟩)
    | (refine ⟨_, _, _, _, rfl, ?_⟩)
    | (refine ⟨(show (_ = _) by with_unfolding_all rfl), ?_⟩)
    | (refine ⟨⟨(show (_ = _) by with_unfolding_all rfl), (show (_ = _) by with_unfolding_all rfl)⟩, ?_⟩))
  | fail)
local macro_rules | `(tactic| kt_ors) => `(tactic| ((repeat mem_news); (try dsimp only); (try rfl)))
local macro_rules | `(tactic| leaf_len) => `(tactic| ((repeat' (first | (with_reducible first | refine Z.bF (Z.nd_self _) ?_ | refine Z.bT (Z.d_self _) ?_ | refine Z.b1 ?_ | refine Z.b0 ?_ | refine Z.bN0 ?_ | refine Z.bN1 ?_) | ((with_reducible refine Z.spl (fun hb => ?_) (fun hb => ?_)) <;> (try simp only [decide_eq_true_eq, decide_eq_false_iff_not, Bool.not_eq_true', Bool.not_eq_false', Bool.not_eq_true, Bool.not_eq_false] at hb)) | mem_news | fail)); (all_goals (try dsimp only)); (all_goals (try rfl))))

namespace Lw
open PySem L2
section
variable {P : Program} {w : World} {K : PySem.W.Frag} {mg : Str → Option Value} {base : Heap}
abbrev pm_least_sum (K : PySem.W.Frag) : Z.Pm (List Int × Nat) := Z.pmX (fun (ns, l) => [rowD K ns, .int l]) (fun (ns, l) => 1 ≤ l ∧ l ≤ ns.length ∧ ns.length ≤ 48) (fun (ns, l) => .tup [.int (lsF (sumsL ns l)).1, .int (lsF (sumsL ns l)).2])
theorem ok_least_sum (T : Tx K mg) : ∃ fd, Z.Gd P w K mg base CX0 7 d_least_sum ["row", "length"] (Z.spD K (pm_least_sum K)) fd := by
  obtain ⟨fd_sums, g_sums⟩ := ok_sums (P := P) (w := w) (base := base) T
  have b_sums_0 : Binds K fd_sums ["row", "length"] [] := g_sums.fn.bindsN fun _ _ _ _ _ _ us hl => match us, hl with | [_, _], _ => rfl
  obtain ⟨fd, F⟩ := T.d_least_sum
  refine ⟨fd, F.ok sc_least_sum (Z.spD_len fun _ => rfl) (fun cdv A outer s H vs Q EX hr h => ⟨_, PSs.nox (pss_cons (ps_set (i := 2) sc_least_sum.nd rfl (Or.inl rfl) (pe_call g_sums.ok (hr.mono (by decide)) rfl T.g_sums g_sums.fn.kp b_sums_0 .nil pass0 (pa_cons (pv 0) (pa_cons (pv 1) pa_nil)))) (pss_cons (ps_set (i := 3) sc_least_sum.nd rfl (Or.inl rfl) (pe_callB (Z.cr_minX (by rfl)) (by rfl) T.f_min (by decide +kernel) (pa_cons (pv 2) pa_nil))) (pss_one (ps_ret (pe_tup (pa_cons (pv 3) (pa_cons (Z.pe_idxX (pv 2) (pa_cons (pv 3) pa_nil)) pa_nil))))))), Z.body h ?_⟩), F⟩
  rintro ⟨ns, l⟩ F n cells hc hp
  dsimp only [cxOf, pm_least_sum, Z.pmX, List.map] at hp ⊢
  obtain ⟨rfl, hp⟩ := hp
  have hne : 0 < (sumsL ns l).length := by rw [sumsL_length]; omega
  kt_ors
  refine Z.rcb_minX hne fun a ha hla => ?_
  obtain rfl := minF_eq ha hla
  kt_ors
  refine Z.we_idxX ?_
  kt_ors
  refine ⟨ha, ?_⟩
  kt_ors
end
end Lw
end
section
local macro_rules | `(tactic| kfm_turns) => `(tactic| first | omega | (dsimp only [Z.env0, Z.Env.set, Z.Env.at, Z.Env.up]; omega) | (simp only [List.length_map, List.length_range, List.length_append, List.length_cons, List.length_nil, List.length_replicate, List.length_set, List.length_take, List.length_drop, List.length_reverse, List.length_zipWith, Z.zs_length, Z.rangeD_length, Int.natCast_add, Int.natCast_one, Int.natCast_zero, and_true, true_and, Int.toNat_natCast, Lw.hts_length, Lw.sumsL_length, Lw.wordsL_length]; omega) | (simp only [List.length_map, List.length_range, List.length_append, List.length_cons, List.length_nil, List.length_replicate, List.length_set, List.length_take, List.length_drop, List.length_reverse, List.length_zipWith, Z.zs_length, Z.rangeD_length, Int.natCast_add, Int.natCast_one, Int.natCast_zero, and_true, true_and, Int.toNat_natCast, Lw.hts_length, Lw.sumsL_length, Lw.wordsL_length] at *; omega))
local macro_rules | `(tactic| mem_news) => `(tactic| first
  | ((with_reducible show Z.We _ _ _ _ _); first
    | (with_reducible refine Z.we_fldS (by with_unfolding_all rfl) (Lw.Tx.cl_Row (by assumption)) (Lw.Tx.na_Row_heights (by assumption)) (by with_unfolding_all rfl) ?_)
    | (with_reducible refine Z.we_int ?_)
    | (with_reducible refine Z.we_var (by with_unfolding_all rfl) ?_)
    | (with_reducible refine Z.we_varF (by with_unfolding_all rfl) ?_)
    | (with_reducible refine Z.we_ty ?_)
    | (with_reducible refine Z.we_tupO (by with_unfolding_all rfl) ?_)
    | (with_reducible refine Z.we_cb ?_)
    | (with_reducible refine Z.we_un ?_)
    | (with_reducible refine Z.we_of (Z.wo_lst ?_))
    | (with_reducible refine Z.we_meth (dds := []) (fun _ => .nil) ?_)
    | (with_reducible refine Z.we_ixO (by with_unfolding_all rfl) ?_)
    | (with_reducible refine Z.we_op ?_)
    | (with_reducible refine Z.we_fld ?_)
    | fail)
  | ((with_reducible show Z.Rop _ _ _ _ _ _ _); first
    | (with_reducible refine Z.rop_add ?_)
    | (with_reducible refine Z.rop_catZ (by kfm_turns) ?_)
    | (with_reducible refine Z.rop_catTZ (by kfm_turns) ?_)
    | (with_reducible refine Z.rop_ixZ (by kfm_turns) (by kfm_turns) ?_)
    | (with_reducible refine Z.rop_ixZT (by kfm_turns) (by kfm_turns) ?_)
    | fail)
  | ((with_reducible show Z.Wa _ _ _ _ _); first
    | (with_reducible refine Z.wa_cons ?_)
    | (with_reducible refine Z.wa_nil ?_)
    | fail)
  | ((with_reducible show Z.Ws _ _ _ _ _); first
    | (with_reducible refine Z.ws_fld (by with_unfolding_all rfl) (Lw.Tx.cl_Row (by assumption)) (Lw.Tx.na_Row_gains (by assumption)) (by with_unfolding_all exact Nat.le_of_ble_eq_true rfl) ?_)
    | (with_reducible refine Z.ws_fld (by with_unfolding_all rfl) (Lw.Tx.cl_Row (by assumption)) (Lw.Tx.na_Row_heights (by assumption)) (by with_unfolding_all exact Nat.le_of_ble_eq_true rfl) ?_)
    | (with_reducible refine Z.ws_fld (by with_unfolding_all rfl) (Lw.Tx.cl_Row (by assumption)) (Lw.Tx.na_Row_days (by assumption)) (by with_unfolding_all exact Nat.le_of_ble_eq_true rfl) ?_)
    | (with_reducible refine Z.ws_fld (by with_unfolding_all rfl) (Lw.Tx.cl_Row (by assumption)) (Lw.Tx.na_Row_total (by assumption)) (by with_unfolding_all exact Nat.le_of_ble_eq_true rfl) ?_)
    | (with_reducible refine Z.ws_seqN (by first | (dsimp only [Z.env0, Lw.N_heights_of, Z.heardX, Z.Env.set, Z.Env.at, Z.Env.up, List.set, List.length_cons, List.length_nil, List.length, Nat.reduceAdd, Nat.reduceSub, Nat.zero_add, List.replicate_succ, List.replicate_zero, List.map, List.cons_append, List.nil_append, List.append_eq, List.append] <;> exact rfl) | exact rfl) ?_)
    | (with_reducible refine Z.ws_ret ?_)
    | (with_reducible refine Z.ws_own (Z.wo_lst ?_))
    | (with_reducible refine Z.ws_asgN ?_)
    | (with_reducible refine Z.ws_asg ?_)
    | (with_reducible refine Z.ws_next ?_)
    | (with_reducible refine Z.ws_app (by with_unfolding_all rfl) ?_)
    | (with_reducible refine Z.ws_drop ?_)
    | fail)
  | ((with_reducible show Z.Rcb _ _ _ _ _ _); first
    | (with_reducible refine Z.rcb_neg ?_)
    | (with_reducible refine Z.rcb_tupL ?_)
    | (with_reducible refine Z.rcb_tupT ?_)
    | (with_reducible refine Z.isi_bl_tuple ?_)
    | (with_reducible refine Z.isi_int_tuple ?_)
    | (with_reducible refine Z.isi_str_tuple ?_)
    | (with_reducible refine Z.isi_lst_tuple ?_)
    | (with_reducible refine Z.isi_tup_tuple ?_)
    | (with_reducible refine Z.isi_non_tuple ?_)
    | fail)
  | ((with_reducible show Z.Wt _ _ _ _ _); first
    | (with_reducible refine Z.wt_test ?_)
    | (with_reducible refine Z.wt_B ?_)
    | fail)
  | ((with_reducible show Z.Wg _ _ _ _ _ _ _); first
    | (with_reducible refine Z.wg_name ?_)
    | fail)
  | ((with_reducible show Exists _); first
    | (with_reducible refine Lw.row_fld (Lw.Tx.cl_Row (by assumption)) (Lw.Tx.na_Row_heights (by assumption)) (Lw.row_heights _) ?_)
    | (with_reducible refine Lw.row_fld (Lw.Tx.cl_Row (by assumption)) (Lw.Tx.na_Row_days (by assumption)) (Lw.row_days _) ?_)
    | (with_reducible refine Lw.row_fld (Lw.Tx.cl_Row (by assumption)) (Lw.Tx.na_Row_gains (by assumption)) (Lw.row_gains _) ?_)
    | (with_reducible refine Lw.row_fld (Lw.Tx.cl_Row (by assumption)) (Lw.Tx.na_Row_total (by assumption)) (Lw.row_total _) ?_)
    | (with_reducible refine Lw.row_meth ?_)
    | fail)
  | (with_reducible first
    | refine Z.bF (Z.nd_self _) ?_
    | refine Z.bT (Z.d_self _) ?_
    | refine Z.b1 ?_
    | refine Z.b0 ?_
    | refine Z.bN0 ?_
    | refine Z.bN1 ?_
    | refine Z.bF (Z.nd_of (by kpc_turns)) ?_
    | refine Z.bT (Z.d_of (by kpc_turns)) ?_
    | fail)
  | ((fail_if_success (with_reducible refine Z.spl ?_ ?_)); first
    | (refine ⟨Nat.le_of_ble_eq_true rfl, ?_⟩)
    | (refine ⟨_, rfl, ?_⟩)
    | (refine ⟨_, _, rfl, ?_⟩)
    | (refine ⟨_, _, _, rfl, ?_⟩)
    | (refine ⟨_, _, _, _, rfl, ?_⟩)
    | (refine ⟨(show (_ = _) by with_unfolding_all rfl), ?_⟩)
    | (refine ⟨⟨(show (_ = _) by with_unfolding_all rfl), (show (_ = _) by with_unfolding_all rfl)⟩, ?_⟩))
  | fail)
local macro_rules | `(tactic| kt_ors) => `(tactic| ((repeat mem_news); (try dsimp only); (try rfl)))
local macro_rules | `(tactic| leaf_len) => `(tactic| ((repeat' (first | (with_reducible first | refine Z.bF (Z.nd_self _) ?_ | refine Z.bT (Z.d_self _) ?_ | refine Z.b1 ?_ | refine Z.b0 ?_ | refine Z.bN0 ?_ | refine Z.bN1 ?_) | ((with_reducible refine Z.spl (fun hb => ?_) (fun hb => ?_)) <;> (try simp only [decide_eq_true_eq, decide_eq_false_iff_not, Bool.not_eq_true', Bool.not_eq_false', Bool.not_eq_true, Bool.not_eq_false] at hb)) | mem_news | fail)); (all_goals (try dsimp only)); (all_goals (try rfl))))

namespace Lw
open PySem L2
section
variable {P : Program} {w : World} {K : PySem.W.Frag} {mg : Str → Option Value} {base : Heap}
abbrev pm_heights_of (K : PySem.W.Frag) : Z.Pm (Bool × List Int) := Z.pmX (fun (b, ns) => [Z.sq b ns]) (fun (_, ns) => ns.length ≤ 1000) (fun (_, ns) => .tup (Z.zs (hts ns)))
theorem ok_heights_of (T : Tx K mg) : ∃ fd, Z.Gd P w K mg base CX0 1 d_heights_of ["gains"] (Z.spD K (pm_heights_of K)) fd := by
  obtain ⟨fd, F⟩ := T.d_heights_of
  refine ⟨fd, F.ok sc_heights_of (Z.spD_len fun _ => rfl) (fun cdv A outer s H vs Q EX hr h => ⟨_, PSs.nox (pss_cons (ps_set (i := 1) sc_heights_of.nd rfl (Or.inl rfl) (pe_lst (pa_cons pe_int pa_nil))) (pss_cons (ps_for PassesOwn.never rfl (Z.pi_any (pv 0)) (pg_name (i := 2) sc_heights_of.nd rfl (Or.inl rfl)) (pss_one (ps_expr (pe_bm PySem.F.plainAttrs_list PySem.F.slot_list_append PySem.F.type_list_append mt_append (pv 1) (pa_cons (pe_op Z.op_addU (pe_ix ix_seq (pv 1) (pe_un un_neg pe_int) (fun _ _ => rfl)) (pv 2)) pa_nil))))) (pss_one (ps_ret (pe_callTy call_tuple_of (by rfl) T.f_tuple (by decide +kernel) (pa_cons (pv 1) pa_nil)))))), Z.body h ?_⟩), F⟩
  rintro ⟨b, ns⟩ F n cells hc hp
  dsimp only [cxOf, pm_heights_of, Z.pmX, List.map] at hp ⊢
  obtain ⟨rfl, hp⟩ := hp
  kt_ors
  refine Z.ws_for (js := [2]) (Z.wi_any ?_)
  kt_ors
  refine ⟨Z.zs ns, sq_seq b ns, fun i E' => ∃ v, E' = ⟨[.d (Z.sq b ns), .own (Z.zs (hts (ns.take i))), v], n⟩, ⟨_, rfl⟩, ?_, ?_⟩
  · rintro i d _ hd ⟨v, rfl⟩
    obtain ⟨x, hx, rfl⟩ := Z.zs_get hd
    kt_ors
    refine ⟨_, _, rfl, hts_last _, ?_⟩
    kt_ors
    refine ⟨by rw [Z.zs_length, hts_length, List.length_take]; omega, .d (.int x), ?_⟩
    rw [take_snoc hx, hts_snoc, ← Z.zs_app]
    rfl
  · rintro _ ⟨v, rfl⟩
    rw [Z.zs_length, List.take_length]
    kt_ors
end
end Lw
end
section
local macro_rules | `(tactic| kfm_turns) => `(tactic| first | omega | (dsimp only [Z.env0, Z.Env.set, Z.Env.at, Z.Env.up]; omega) | (simp only [List.length_map, List.length_range, List.length_append, List.length_cons, List.length_nil, List.length_replicate, List.length_set, List.length_take, List.length_drop, List.length_reverse, List.length_zipWith, Z.zs_length, Z.rangeD_length, Int.natCast_add, Int.natCast_one, Int.natCast_zero, and_true, true_and, Int.toNat_natCast, Lw.hts_length, Lw.sumsL_length, Lw.wordsL_length]; omega) | (simp only [List.length_map, List.length_range, List.length_append, List.length_cons, List.length_nil, List.length_replicate, List.length_set, List.length_take, List.length_drop, List.length_reverse, List.length_zipWith, Z.zs_length, Z.rangeD_length, Int.natCast_add, Int.natCast_one, Int.natCast_zero, and_true, true_and, Int.toNat_natCast, Lw.hts_length, Lw.sumsL_length, Lw.wordsL_length] at *; omega))
local macro_rules | `(tactic| mem_news) => `(tactic| first
  | ((with_reducible show Z.Called _ _ _ _ _ _ _); first
    | (((with_reducible show Z.Called (Lw.pm_is_integer _) _ _ _ _ _ _); refine Z.called_X _ (by with_unfolding_all rfl) ?_ ?hp_is_integer; rotate_left 1; (try trivial); rotate_right 1))
    | fail)
  | ((with_reducible show Z.We _ _ _ _ _); first
    | (with_reducible refine Z.we_fldS (by with_unfolding_all rfl) (Lw.Tx.cl_Row (by assumption)) (Lw.Tx.na_Row_heights (by assumption)) (by with_unfolding_all rfl) ?_)
    | (with_reducible refine Z.we_var (by with_unfolding_all rfl) ?_)
    | (with_reducible refine Z.we_varF (by with_unfolding_all rfl) ?_)
    | (with_reducible refine Z.we_ty ?_)
    | (with_reducible refine Z.we_isiT ?_)
    | (with_reducible refine Z.we_cb ?_)
    | (with_reducible refine Z.we_tup ?_)
    | (with_reducible refine Z.we_andV ?_)
    | (with_reducible refine Z.we_of (Z.wo_lc ?_))
    | (with_reducible refine Z.we_call (dds := []) (fun _ => .nil) ?_)
    | (with_reducible refine Z.we_call (dds := [.non, .non]) (fun _ => .cons .non (.cons .non .nil)) ?_)
    | (with_reducible refine Z.we_call (dds := [.non]) (fun _ => .cons .non .nil) ?_)
    | fail)
  | ((with_reducible show Z.Wa _ _ _ _ _); first
    | (with_reducible refine Z.wa_cons ?_)
    | (with_reducible refine Z.wa_nil ?_)
    | fail)
  | ((with_reducible show Z.Ws _ _ _ _ _); first
    | (with_reducible refine Z.ws_fld (by with_unfolding_all rfl) (Lw.Tx.cl_Row (by assumption)) (Lw.Tx.na_Row_gains (by assumption)) (by with_unfolding_all exact Nat.le_of_ble_eq_true rfl) ?_)
    | (with_reducible refine Z.ws_fld (by with_unfolding_all rfl) (Lw.Tx.cl_Row (by assumption)) (Lw.Tx.na_Row_heights (by assumption)) (by with_unfolding_all exact Nat.le_of_ble_eq_true rfl) ?_)
    | (with_reducible refine Z.ws_fld (by with_unfolding_all rfl) (Lw.Tx.cl_Row (by assumption)) (Lw.Tx.na_Row_days (by assumption)) (by with_unfolding_all exact Nat.le_of_ble_eq_true rfl) ?_)
    | (with_reducible refine Z.ws_fld (by with_unfolding_all rfl) (Lw.Tx.cl_Row (by assumption)) (Lw.Tx.na_Row_total (by assumption)) (by with_unfolding_all exact Nat.le_of_ble_eq_true rfl) ?_)
    | (with_reducible refine Z.ws_seqN (by first | (dsimp only [Z.env0, Lw.N_are_integers, Z.heardX, Z.Env.set, Z.Env.at, Z.Env.up, List.set, List.length_cons, List.length_nil, List.length, Nat.reduceAdd, Nat.reduceSub, Nat.zero_add, List.replicate_succ, List.replicate_zero, List.map, List.cons_append, List.nil_append, List.append_eq, List.append] <;> exact rfl) | exact rfl) ?_)
    | (with_reducible refine Z.ws_ret ?_)
    | (with_reducible refine Z.ws_own (Z.wo_lc ?_))
    | (with_reducible refine Z.ws_next ?_)
    | fail)
  | ((with_reducible show Z.Rcb _ _ _ _ _ _); first
    | (with_reducible refine Z.isi_bl_list ?_)
    | (with_reducible refine Z.isi_int_list ?_)
    | (with_reducible refine Z.isi_str_list ?_)
    | (with_reducible refine Z.isi_lst_list ?_)
    | (with_reducible refine Z.isi_tup_list ?_)
    | (with_reducible refine Z.isi_non_list ?_)
    | (with_reducible refine Z.isi_bl_tuple ?_)
    | (with_reducible refine Z.isi_int_tuple ?_)
    | (with_reducible refine Z.isi_str_tuple ?_)
    | (with_reducible refine Z.isi_lst_tuple ?_)
    | (with_reducible refine Z.isi_tup_tuple ?_)
    | (with_reducible refine Z.isi_non_tuple ?_)
    | fail)
  | ((with_reducible show Z.Wt _ _ _ _ _); first
    | (with_reducible refine Z.wt_test ?_)
    | (with_reducible refine Z.wt_B ?_)
    | (with_reducible refine Z.wt_and ?_)
    | fail)
  | ((with_reducible show Z.Wg _ _ _ _ _ _ _); first
    | (with_reducible refine Z.wg_name ?_)
    | fail)
  | ((with_reducible show Exists _); first
    | (with_reducible refine Lw.row_fld (Lw.Tx.cl_Row (by assumption)) (Lw.Tx.na_Row_heights (by assumption)) (Lw.row_heights _) ?_)
    | (with_reducible refine Lw.row_fld (Lw.Tx.cl_Row (by assumption)) (Lw.Tx.na_Row_days (by assumption)) (Lw.row_days _) ?_)
    | (with_reducible refine Lw.row_fld (Lw.Tx.cl_Row (by assumption)) (Lw.Tx.na_Row_gains (by assumption)) (Lw.row_gains _) ?_)
    | (with_reducible refine Lw.row_fld (Lw.Tx.cl_Row (by assumption)) (Lw.Tx.na_Row_total (by assumption)) (Lw.row_total _) ?_)
    | (with_reducible refine Lw.row_meth ?_)
    | fail)
  | (with_reducible first
    | refine Z.bF (Z.nd_self _) ?_
    | refine Z.bT (Z.d_self _) ?_
    | refine Z.b1 ?_
    | refine Z.b0 ?_
    | refine Z.bN0 ?_
    | refine Z.bN1 ?_
    | refine Z.bF (Z.nd_of (by kpc_turns)) ?_
    | refine Z.bT (Z.d_of (by kpc_turns)) ?_
    | refine Z.isiT_lst ?_
    | refine Z.isiT_tup ?_
    | fail)
  | ((fail_if_success (with_reducible refine Z.spl ?_ ?_)); first
    | (refine ⟨Nat.le_of_ble_eq_true rfl, ?_⟩)
    | (refine ⟨_, rfl, ?_⟩)
    | (refine ⟨_, _, rfl, ?_⟩)
    | (refine ⟨_, _, _, rfl, ?_⟩)
    | (refine ⟨_, _, _, _, rfl, ?_⟩)
    | (refine ⟨(show (_ = _) by with_unfolding_all rfl), ?_⟩)
    | (refine ⟨⟨(show (_ = _) by with_unfolding_all rfl), (show (_ = _) by with_unfolding_all rfl)⟩, ?_⟩))
  | fail)
local macro_rules | `(tactic| kt_ors) => `(tactic| ((repeat mem_news); (try dsimp only); (try rfl)))
local macro_rules | `(tactic| leaf_len) => `(tactic| ((repeat' (first | (with_reducible first | refine Z.bF (Z.nd_self _) ?_ | refine Z.bT (Z.d_self _) ?_ | refine Z.b1 ?_ | refine Z.b0 ?_ | refine Z.bN0 ?_ | refine Z.bN1 ?_) | ((with_reducible refine Z.spl (fun hb => ?_) (fun hb => ?_)) <;> (try simp only [decide_eq_true_eq, decide_eq_false_iff_not, Bool.not_eq_true', Bool.not_eq_false', Bool.not_eq_true, Bool.not_eq_false] at hb)) | mem_news | fail)); (all_goals (try dsimp only)); (all_goals (try rfl))))

namespace Lw
open PySem L2
section
variable {P : Program} {w : World} {K : PySem.W.Frag} {mg : Str → Option Value} {base : Heap}
abbrev pm_are_integers (K : PySem.W.Frag) : Z.Pm (Bool × List Int) := Z.pmX (fun (b, ns) => [Z.sq b ns]) (fun (_, ns) => ns.length ≤ 1000) (fun _ => .bl true)
theorem ok_are_integers (T : Tx K mg) : ∃ fd, Z.Gd P w K mg base CX0 2 d_are_integers ["value"] (Z.spD K (pm_are_integers K)) fd := by
  obtain ⟨fd_is_integer, g_is_integer⟩ := ok_is_integer (P := P) (w := w) (base := base) T
  have b_is_integer_0 : Binds K fd_is_integer ["value"] [] := g_is_integer.fn.bindsN fun _ _ _ _ _ _ us hl => match us, hl with | [_], _ => rfl
  obtain ⟨fd, F⟩ := T.d_are_integers
  refine ⟨fd, F.ok sc_are_integers (Z.spD_len fun _ => rfl) (fun cdv A outer s H vs Q EX hr h => ⟨_, PSs.nox (pss_one (ps_ret (pe_and (pe_callB Z.call_isiU (by rfl) T.f_isinstance (by decide +kernel) (pa_cons (pv 0) (pa_cons (pe_tup (pa_cons (pe_bltn (v := .ty "list") (by rfl) T.f_list (by decide +kernel) rfl) (pa_cons (pe_bltn (v := .ty "tuple") (by rfl) T.f_tuple (by decide +kernel) rfl) pa_nil))) pa_nil))) (pe_one (pe_callB (cr_all (by rfl)) (by rfl) T.f_all (by decide +kernel) (pa_cons (pe_lc (own := [("item", 1)]) rfl sc_are_integers.nd (Z.pi_any (pv 0)) (blkOk_by (N := N_are_integers) (sc := defScope s_are_integers) (by decide +kernel)) (fun _ _ _ _ _ => (pg_name (i := 1) sc_are_integers.nd rfl (Or.inl rfl))) (fun _ _ _ _ _ => pts_nil) (fun _ _ _ _ _ => (pe_call g_is_integer.ok (hr.mono (by decide)) rfl T.g_is_integer g_is_integer.fn.kp b_is_integer_0 .nil pass0 (pa_cons (pv 1) pa_nil)))) pa_nil)))))), Z.body h ?_⟩), F⟩
  rintro ⟨b, ns⟩ F n cells hc hp
  dsimp only [cxOf, pm_are_integers, Z.pmX, List.map] at hp ⊢
  obtain ⟨rfl, hp⟩ := hp
  cases b <;> simp only [Z.sq, if_true, Bool.false_eq_true, if_false]
  all_goals
    kt_ors
    refine Z.we_of (Z.wo_map (Z.wi_any ?_))
    kt_ors
    refine ⟨Z.zs ns, by first | exact .inl rfl | exact .inr rfl, by rw [Z.zs_length]; omega, fun s hs => by cases hs; exact id, ns.map fun _ => .bl true, by simp [Z.zs], fun i d hd => ?_, ?_⟩
    · obtain ⟨x, hx, rfl⟩ := Z.zs_get hd
      kt_ors
      exact ⟨by simp [hx], rfl, rfl⟩
    · have e : (ns.map fun _ => (Z.D.bl true)) = (ns.map fun _ => true).map Z.D.bl := by simp
      rw [e]
      kt_ors
      refine Z.rcb_all ?_
      rw [show (ns.map fun _ => true).all id = true by simp]
end
end Lw
end
section
local macro_rules | `(tactic| kfm_turns) => `(tactic| first | omega | (dsimp only [Z.env0, Z.Env.set, Z.Env.at, Z.Env.up]; omega) | (simp only [List.length_map, List.length_range, List.length_append, List.length_cons, List.length_nil, List.length_replicate, List.length_set, List.length_take, List.length_drop, List.length_reverse, List.length_zipWith, Z.zs_length, Z.rangeD_length, Int.natCast_add, Int.natCast_one, Int.natCast_zero, and_true, true_and, Int.toNat_natCast, Lw.hts_length, Lw.sumsL_length, Lw.wordsL_length]; omega) | (simp only [List.length_map, List.length_range, List.length_append, List.length_cons, List.length_nil, List.length_replicate, List.length_set, List.length_take, List.length_drop, List.length_reverse, List.length_zipWith, Z.zs_length, Z.rangeD_length, Int.natCast_add, Int.natCast_one, Int.natCast_zero, and_true, true_and, Int.toNat_natCast, Lw.hts_length, Lw.sumsL_length, Lw.wordsL_length] at *; omega))
local macro_rules | `(tactic| mem_news) => `(tactic| first
  | ((with_reducible show Z.We _ _ _ _ _); first
    | (with_reducible refine Z.we_fldS (by with_unfolding_all rfl) (Lw.Tx.cl_Row (by assumption)) (Lw.Tx.na_Row_heights (by assumption)) (by with_unfolding_all rfl) ?_)
    | (with_reducible refine Z.we_int ?_)
    | (with_reducible refine Z.we_var (by with_unfolding_all rfl) ?_)
    | (with_reducible refine Z.we_varF (by with_unfolding_all rfl) ?_)
    | (with_reducible refine Z.we_str ?_)
    | (with_reducible refine Z.we_ty ?_)
    | (with_reducible refine Z.we_adr ?_)
    | (with_reducible refine Z.we_lenO (by with_unfolding_all rfl) ?_)
    | (with_reducible refine Z.we_tupO (by with_unfolding_all rfl) ?_)
    | (with_reducible refine Z.we_cb ?_)
    | (with_reducible refine Z.we_un ?_)
    | (with_reducible refine Z.we_orV ?_)
    | (with_reducible refine Z.we_notV ?_)
    | (with_reducible refine Z.we_call (dds := []) (fun _ => .nil) ?_)
    | (with_reducible refine Z.we_call (dds := [.non, .non]) (fun _ => .cons .non (.cons .non .nil)) ?_)
    | (with_reducible refine Z.we_call (dds := [.non]) (fun _ => .cons .non .nil) ?_)
    | (with_reducible refine Z.we_make (dds := []) (fun _ => .nil) ?_)
    | (with_reducible refine Z.we_make (dds := [.non]) (fun _ => .cons .non .nil) ?_)
    | (with_reducible refine Z.we_make (dds := [.non, .non]) (fun _ => .cons .non (.cons .non .nil)) ?_)
    | (with_reducible refine Z.we_ixO (by with_unfolding_all rfl) ?_)
    | (with_reducible refine Z.we_op ?_)
    | (with_reducible refine Z.we_fld ?_)
    | fail)
  | ((with_reducible show Z.Rop _ _ _ _ _ _ _); first
    | (with_reducible refine Z.rop_gt ?_)
    | (with_reducible refine Z.rop_eqI ?_)
    | (with_reducible refine Z.rop_ixZ (by kfm_turns) (by kfm_turns) ?_)
    | (with_reducible refine Z.rop_ixZT (by kfm_turns) (by kfm_turns) ?_)
    | (with_reducible refine Z.rop_eqB ?_)
    | (with_reducible refine Z.rop_eqP ?_)
    | (with_reducible refine Z.rop_eqZT ?_)
    | (with_reducible refine Z.rop_eqZL ?_)
    | (with_reducible refine Z.rop_eqZL0 ?_)
    | fail)
  | ((with_reducible show Z.Wa _ _ _ _ _); first
    | (with_reducible refine Z.wa_cons ?_)
    | (with_reducible refine Z.wa_nil ?_)
    | fail)
  | ((with_reducible show Z.Ws _ _ _ _ _); first
    | (with_reducible refine Z.ws_fld (by with_unfolding_all rfl) (Lw.Tx.cl_Row (by assumption)) (Lw.Tx.na_Row_gains (by assumption)) (by with_unfolding_all exact Nat.le_of_ble_eq_true rfl) ?_)
    | (with_reducible refine Z.ws_fld (by with_unfolding_all rfl) (Lw.Tx.cl_Row (by assumption)) (Lw.Tx.na_Row_heights (by assumption)) (by with_unfolding_all exact Nat.le_of_ble_eq_true rfl) ?_)
    | (with_reducible refine Z.ws_fld (by with_unfolding_all rfl) (Lw.Tx.cl_Row (by assumption)) (Lw.Tx.na_Row_days (by assumption)) (by with_unfolding_all exact Nat.le_of_ble_eq_true rfl) ?_)
    | (with_reducible refine Z.ws_fld (by with_unfolding_all rfl) (Lw.Tx.cl_Row (by assumption)) (Lw.Tx.na_Row_total (by assumption)) (by with_unfolding_all exact Nat.le_of_ble_eq_true rfl) ?_)
    | (with_reducible refine Z.ws_seqN (by first | (dsimp only [Z.env0, Lw.N_Row_init, Z.heardX, Z.Env.set, Z.Env.at, Z.Env.up, List.set, List.length_cons, List.length_nil, List.length, Nat.reduceAdd, Nat.reduceSub, Nat.zero_add, List.replicate_succ, List.replicate_zero, List.map, List.cons_append, List.nil_append, List.append_eq, List.append] <;> exact rfl) | exact rfl) ?_)
    | (with_reducible refine Z.ws_if ?_)
    | (with_reducible refine Z.ws_asg ?_)
    | (with_reducible refine Z.ws_next ?_)
    | fail)
  | ((with_reducible show Z.Rcb _ _ _ _ _ _); first
    | (with_reducible refine Z.rcb_neg ?_)
    | (with_reducible refine Z.rcb_tupL ?_)
    | (with_reducible refine Z.rcb_tupT ?_)
    | (with_reducible refine Z.rcb_lenZ ?_)
    | (with_reducible refine Z.rcb_lenZT ?_)
    | (with_reducible refine Z.rcb_lenSL ?_)
    | (with_reducible refine Z.rcb_lenST ?_)
    | (with_reducible refine Z.rcb_lenL ?_)
    | (with_reducible refine Z.rcb_lenT ?_)
    | (with_reducible refine Z.isi_bl_tuple ?_)
    | (with_reducible refine Z.isi_int_tuple ?_)
    | (with_reducible refine Z.isi_str_tuple ?_)
    | (with_reducible refine Z.isi_lst_tuple ?_)
    | (with_reducible refine Z.isi_tup_tuple ?_)
    | (with_reducible refine Z.isi_non_tuple ?_)
    | fail)
  | ((with_reducible show Z.Wt _ _ _ _ _); first
    | (with_reducible refine Z.wt_test ?_)
    | (with_reducible refine Z.wt_B ?_)
    | (with_reducible refine Z.wt_or ?_)
    | (with_reducible refine Z.wt_not ?_)
    | fail)
  | ((with_reducible show Z.Wg _ _ _ _ _ _ _); first
    | (with_reducible refine Z.wg_name ?_)
    | fail)
  | ((with_reducible show Exists _); first
    | (with_reducible refine Lw.row_fld (Lw.Tx.cl_Row (by assumption)) (Lw.Tx.na_Row_heights (by assumption)) (Lw.row_heights _) ?_)
    | (with_reducible refine Lw.row_fld (Lw.Tx.cl_Row (by assumption)) (Lw.Tx.na_Row_days (by assumption)) (Lw.row_days _) ?_)
    | (with_reducible refine Lw.row_fld (Lw.Tx.cl_Row (by assumption)) (Lw.Tx.na_Row_gains (by assumption)) (Lw.row_gains _) ?_)
    | (with_reducible refine Lw.row_fld (Lw.Tx.cl_Row (by assumption)) (Lw.Tx.na_Row_total (by assumption)) (Lw.row_total _) ?_)
    | (with_reducible refine Lw.row_meth ?_)
    | fail)
  | (with_reducible first
    | refine Z.bF (Z.nd_self _) ?_
    | refine Z.bT (Z.d_self _) ?_
    | refine Z.b1 ?_
    | refine Z.b0 ?_
    | refine Z.bN0 ?_
    | refine Z.bN1 ?_
    | refine Z.bF (Z.nd_of (by kpc_turns)) ?_
    | refine Z.bT (Z.d_of (by kpc_turns)) ?_
    | fail)
  | ((fail_if_success (with_reducible refine Z.spl ?_ ?_)); first
    | (refine ⟨Nat.le_of_ble_eq_true rfl, ?_⟩)
    | (refine ⟨_, rfl, ?_⟩)
    | (refine ⟨_, _, rfl, ?_⟩)
    | (refine ⟨_, _, _, rfl, ?_⟩)
    | (refine ⟨_, _, _, _, rfl, ?_⟩)
    | (refine ⟨(show (_ = _) by with_unfolding_all rfl), ?_⟩)
    | (refine ⟨⟨(show (_ = _) by with_unfolding_all rfl), (show (_ = _) by with_unfolding_all rfl)⟩, ?_⟩))
  | fail)
local macro_rules | `(tactic| kt_ors) => `(tactic| ((repeat mem_news); (try dsimp only); (try rfl)))
local macro_rules | `(tactic| leaf_len) => `(tactic| ((repeat' (first | (with_reducible first | refine Z.bF (Z.nd_self _) ?_ | refine Z.bT (Z.d_self _) ?_ | refine Z.b1 ?_ | refine Z.b0 ?_ | refine Z.bN0 ?_ | refine Z.bN1 ?_) | ((with_reducible refine Z.spl (fun hb => ?_) (fun hb => ?_)) <;> (try simp only [decide_eq_true_eq, decide_eq_false_iff_not, Bool.not_eq_true', Bool.not_eq_false', Bool.not_eq_true, Bool.not_eq_false] at hb)) | mem_news | fail)); (all_goals (try dsimp only)); (all_goals (try rfl))))

namespace Lw
open PySem L2
section
variable {P : Program} {w : World} {K : PySem.W.Frag} {mg : Str → Option Value} {base : Heap}
abbrev al_Row_init := Bool × List Int
abbrev pm_Row_init (K : PySem.W.Frag) : Z.Pi (Bool × List Int) := Z.piX (He.ga K "Row") (fun (b, ns) => [Z.sq b ns]) (fun (_, ns) => 1 ≤ ns.length ∧ ns.length ≤ 48) (fun (_, ns) => rowF ns)
theorem ok_Row_init (T : Tx K mg) : ∃ fd, Z.Gd P w K mg base CX0 3 d_Row_init ["self", "gains"] (Z.spI K (pm_Row_init K)) fd := by
  obtain ⟨fd_heights_of, g_heights_of⟩ := ok_heights_of (P := P) (w := w) (base := base) T
  obtain ⟨fd_are_integers, g_are_integers⟩ := ok_are_integers (P := P) (w := w) (base := base) T
  have b_heights_of_0 : Binds K fd_heights_of ["gains"] [] := g_heights_of.fn.bindsN fun _ _ _ _ _ _ us hl => match us, hl with | [_], _ => rfl
  have b_are_integers_0 : Binds K fd_are_integers ["value"] [] := g_are_integers.fn.bindsN fun _ _ _ _ _ _ us hl => match us, hl with | [_], _ => rfl
  obtain ⟨fd, F⟩ := T.d_Row_init
  refine ⟨fd, F.ok sc_Row_init (Z.spI_len fun _ => rfl) (fun cdv A outer s H vs Q EX hr h => ⟨_, PSs.nox (pss_cons (ps_if (PW.pt (pw_or (pt_not (pt_val (pe_call g_are_integers.ok (hr.mono (by decide)) rfl T.g_are_integers g_are_integers.fn.kp b_are_integers_0 .nil pass0 (pa_cons (pv 1) pa_nil)))) (pw_or1 (pt_cmpR (op_eqD hr.units) (pe_callB call_len (by rfl) T.f_len (by decide +kernel) (pa_cons (pv 1) pa_nil)) pe_int (nomark _))))) (pss_one ps_never) pss_nil) (pss_cons (ps_if (pt_cmpR op_gt (pe_callB call_len (by rfl) T.f_len (by decide +kernel) (pa_cons (pv 1) pa_nil)) (pe_glob (v := .int 48) rfl T.c_MOST_DAYS.choose_spec ⟨_, rfl⟩) (nomark _)) (pss_one ps_never) pss_nil) (pss_cons (ps_fld (pv 0) (pe_callTy call_tuple_of (by rfl) T.f_tuple (by decide +kernel) (pa_cons (pv 1) pa_nil)) rfl) (pss_cons (ps_fld (pv 0) (pe_call g_heights_of.ok (hr.mono (by decide)) rfl T.g_heights_of g_heights_of.fn.kp b_heights_of_0 .nil pass0 (pa_cons (pv 1) pa_nil)) rfl) (pss_cons (ps_fld (pv 0) (pe_callB call_len (by rfl) T.f_len (by decide +kernel) (pa_cons (pv 1) pa_nil)) rfl) (pss_one (ps_fld (pv 0) (pe_ix ix_seq (Z.pe_fldU (pv 0) rfl) (pe_un un_neg pe_int) (fun _ _ => rfl)) rfl))))))), Z.bodyI h ?_⟩), F⟩
  rintro ⟨b, ns⟩ x C hp
  dsimp only [cxOf, pm_Row_init, Z.piX, List.map] at hp ⊢
  obtain ⟨rfl, hp⟩ := hp
  kt_ors
  refine Z.called_X (b, ns) rfl ?_ ?_
  · cases b <;> simp only [Z.sq, if_true, Bool.false_eq_true, if_false]
    all_goals
      have hz : (Z.zs ns).length = ns.length := Z.zs_length ns
      kt_ors
      refine Z.bF (decide_eq_false (by omega)) ?_
      kt_ors
      refine Z.bF (decide_eq_false (by omega)) ?_
      kt_ors
      first
        | refine Z.called_X (false, ns) rfl ?_ (by dsimp only; omega)
        | refine Z.called_X (true, ns) rfl ?_ (by dsimp only; omega)
      kt_ors
      refine Z.rop_ixT (hts_last ns) ?_
      kt_ors
      try rw [hz]
      try (with_unfolding_all rfl)
  · dsimp only; omega
end
end Lw
end
section
local macro_rules | `(tactic| kfm_turns) => `(tactic| first | omega | (dsimp only [Z.env0, Z.Env.set, Z.Env.at, Z.Env.up]; omega) | (simp only [List.length_map, List.length_range, List.length_append, List.length_cons, List.length_nil, List.length_replicate, List.length_set, List.length_take, List.length_drop, List.length_reverse, List.length_zipWith, Z.zs_length, Z.rangeD_length, Int.natCast_add, Int.natCast_one, Int.natCast_zero, and_true, true_and, Int.toNat_natCast, Lw.hts_length, Lw.sumsL_length, Lw.wordsL_length]; omega) | (simp only [List.length_map, List.length_range, List.length_append, List.length_cons, List.length_nil, List.length_replicate, List.length_set, List.length_take, List.length_drop, List.length_reverse, List.length_zipWith, Z.zs_length, Z.rangeD_length, Int.natCast_add, Int.natCast_one, Int.natCast_zero, and_true, true_and, Int.toNat_natCast, Lw.hts_length, Lw.sumsL_length, Lw.wordsL_length] at *; omega))
local macro_rules | `(tactic| mem_news) => `(tactic| first
  | ((with_reducible show Z.We _ _ _ _ _); first
    | (with_reducible refine Z.we_fldS (by with_unfolding_all rfl) (Lw.Tx.cl_Row (by assumption)) (Lw.Tx.na_Row_heights (by assumption)) (by with_unfolding_all rfl) ?_)
    | (with_reducible refine Z.we_var (by with_unfolding_all rfl) ?_)
    | (with_reducible refine Z.we_varF (by with_unfolding_all rfl) ?_)
    | (with_reducible refine Z.we_str ?_)
    | (with_reducible refine Z.we_adr ?_)
    | (with_reducible refine Z.we_cb ?_)
    | (with_reducible refine Z.we_of (Z.wo_lc ?_))
    | (with_reducible refine Z.we_call (dds := []) (fun _ => .nil) ?_)
    | (with_reducible refine Z.we_call (dds := [.non, .non]) (fun _ => .cons .non (.cons .non .nil)) ?_)
    | (with_reducible refine Z.we_call (dds := [.non]) (fun _ => .cons .non .nil) ?_)
    | (with_reducible refine Z.we_make (dds := []) (fun _ => .nil) ?_)
    | (with_reducible refine Z.we_make (dds := [.non]) (fun _ => .cons .non .nil) ?_)
    | (with_reducible refine Z.we_make (dds := [.non, .non]) (fun _ => .cons .non (.cons .non .nil)) ?_)
    | (with_reducible refine Z.we_op ?_)
    | (with_reducible refine Z.we_fld ?_)
    | fail)
  | ((with_reducible show Z.Rop _ _ _ _ _ _ _); first
    | (with_reducible refine Z.rop_add ?_)
    | (with_reducible refine Z.rop_catZ (by kfm_turns) ?_)
    | (with_reducible refine Z.rop_catTZ (by kfm_turns) ?_)
    | fail)
  | ((with_reducible show Z.Wa _ _ _ _ _); first
    | (with_reducible refine Z.wa_cons ?_)
    | (with_reducible refine Z.wa_nil ?_)
    | fail)
  | ((with_reducible show Z.Ws _ _ _ _ _); first
    | (with_reducible refine Z.ws_fld (by with_unfolding_all rfl) (Lw.Tx.cl_Row (by assumption)) (Lw.Tx.na_Row_gains (by assumption)) (by with_unfolding_all exact Nat.le_of_ble_eq_true rfl) ?_)
    | (with_reducible refine Z.ws_fld (by with_unfolding_all rfl) (Lw.Tx.cl_Row (by assumption)) (Lw.Tx.na_Row_heights (by assumption)) (by with_unfolding_all exact Nat.le_of_ble_eq_true rfl) ?_)
    | (with_reducible refine Z.ws_fld (by with_unfolding_all rfl) (Lw.Tx.cl_Row (by assumption)) (Lw.Tx.na_Row_days (by assumption)) (by with_unfolding_all exact Nat.le_of_ble_eq_true rfl) ?_)
    | (with_reducible refine Z.ws_fld (by with_unfolding_all rfl) (Lw.Tx.cl_Row (by assumption)) (Lw.Tx.na_Row_total (by assumption)) (by with_unfolding_all exact Nat.le_of_ble_eq_true rfl) ?_)
    | (with_reducible refine Z.ws_seqN (by first | (dsimp only [Z.env0, Lw.N_Row_plus, Z.heardX, Z.Env.set, Z.Env.at, Z.Env.up, List.set, List.length_cons, List.length_nil, List.length, Nat.reduceAdd, Nat.reduceSub, Nat.zero_add, List.replicate_succ, List.replicate_zero, List.map, List.cons_append, List.nil_append, List.append_eq, List.append] <;> exact rfl) | exact rfl) ?_)
    | (with_reducible refine Z.ws_ret ?_)
    | (with_reducible refine Z.ws_own (Z.wo_lc ?_))
    | (with_reducible refine Z.ws_next ?_)
    | (with_reducible refine Z.ws_drop ?_)
    | fail)
  | ((with_reducible show Z.Wt _ _ _ _ _); first
    | (with_reducible refine Z.wt_test ?_)
    | (with_reducible refine Z.wt_B ?_)
    | fail)
  | ((with_reducible show Z.Wg _ _ _ _ _ _ _); first
    | (with_reducible refine Z.wg_name ?_)
    | fail)
  | ((with_reducible show Exists _); first
    | (((with_reducible refine Z.making (α := Lw.al_Row_init) (false, _) (by with_unfolding_all rfl) ?_ ?hp_Row_init); rotate_left 1; (try ((try dsimp only); kfm_turns)); rotate_right 1))
    | (((with_reducible refine Z.making (α := Lw.al_Row_init) (true, _) (by with_unfolding_all rfl) ?_ ?hp_Row_init); rotate_left 1; (try ((try dsimp only); kfm_turns)); rotate_right 1))
    | (with_reducible refine Lw.row_fld (Lw.Tx.cl_Row (by assumption)) (Lw.Tx.na_Row_heights (by assumption)) (Lw.row_heights _) ?_)
    | (with_reducible refine Lw.row_fld (Lw.Tx.cl_Row (by assumption)) (Lw.Tx.na_Row_days (by assumption)) (Lw.row_days _) ?_)
    | (with_reducible refine Lw.row_fld (Lw.Tx.cl_Row (by assumption)) (Lw.Tx.na_Row_gains (by assumption)) (Lw.row_gains _) ?_)
    | (with_reducible refine Lw.row_fld (Lw.Tx.cl_Row (by assumption)) (Lw.Tx.na_Row_total (by assumption)) (Lw.row_total _) ?_)
    | (with_reducible refine Lw.row_meth ?_)
    | fail)
  | (with_reducible first
    | refine Z.bF (Z.nd_self _) ?_
    | refine Z.bT (Z.d_self _) ?_
    | refine Z.b1 ?_
    | refine Z.b0 ?_
    | refine Z.bN0 ?_
    | refine Z.bN1 ?_
    | refine Z.bF (Z.nd_of (by kpc_turns)) ?_
    | refine Z.bT (Z.d_of (by kpc_turns)) ?_
    | fail)
  | ((fail_if_success (with_reducible refine Z.spl ?_ ?_)); first
    | (refine ⟨Nat.le_of_ble_eq_true rfl, ?_⟩)
    | (refine ⟨_, rfl, ?_⟩)
    | (refine ⟨_, _, rfl, ?_⟩)
    | (refine ⟨_, _, _, rfl, ?_⟩)
    | (refine ⟨_, _, _, _, rfl, ?_⟩)
    | (refine ⟨(show (_ = _) by with_unfolding_all rfl), ?_⟩)
    | (refine ⟨⟨(show (_ = _) by with_unfolding_all rfl), (show (_ = _) by with_unfolding_all rfl)⟩, ?_⟩))
  | fail)
local macro_rules | `(tactic| kt_ors) => `(tactic| ((repeat mem_news); (try dsimp only); (try rfl)))
local macro_rules | `(tactic| leaf_len) => `(tactic| ((repeat' (first | (with_reducible first | refine Z.bF (Z.nd_self _) ?_ | refine Z.bT (Z.d_self _) ?_ | refine Z.b1 ?_ | refine Z.b0 ?_ | refine Z.bN0 ?_ | refine Z.bN1 ?_) | ((with_reducible refine Z.spl (fun hb => ?_) (fun hb => ?_)) <;> (try simp only [decide_eq_true_eq, decide_eq_false_iff_not, Bool.not_eq_true', Bool.not_eq_false', Bool.not_eq_true, Bool.not_eq_false] at hb)) | mem_news | fail)); (all_goals (try dsimp only)); (all_goals (try rfl))))

namespace Lw
open PySem L2
section
variable {P : Program} {w : World} {K : PySem.W.Frag} {mg : Str → Option Value} {base : Heap}
abbrev pm_Row_plus (K : PySem.W.Frag) : Z.Pm (List Int × Int) := Z.pmX (fun (ns, k) => [rowD K ns, .int k]) (fun (ns, k) => 1 ≤ ns.length ∧ ns.length ≤ 48) (fun (ns, k) => rowD K (ns.map fun a => a + k))
theorem ok_Row_plus (T : Tx K mg) : ∃ fd, Z.Gd P w K mg base CX0 5 d_Row_plus ["self", "number"] (Z.spD K (pm_Row_plus K)) fd := by
  obtain ⟨fd_Row_init, g_Row_init⟩ := ok_Row_init (P := P) (w := w) (base := base) T
  obtain ⟨fd_need_number, g_need_number⟩ := ok_need_number (P := P) (w := w) (base := base) T
  have b_Row_init_0 : Binds K fd_Row_init ["self", "gains"] [] := g_Row_init.fn.bindsN fun _ _ _ _ _ _ us hl => match us, hl with | [_, _], _ => rfl
  obtain ⟨ds_need_number_2, v_need_number_2, b_need_number_2⟩ := g_need_number.fn.binds1 (ps := ["value", "part", "least", "most"]) 2 0 (by exact fun h => nomatch h) rfl fun _ _ _ _ _ _ _ us its hl hi => match us, hl, its, hi with | [_, _], _, [_, _], _ => ⟨_, rfl, rfl⟩
  have v_need_number_2 : Vals [.non, .non] ds_need_number_2 := by exact v_need_number_2
  obtain ⟨fd, F⟩ := T.d_Row_plus
  refine ⟨fd, F.ok sc_Row_plus (Z.spD_len fun _ => rfl) (fun cdv A outer s H vs Q EX hr h => ⟨_, PSs.nox (pss_cons (ps_expr (pe_call g_need_number.ok (hr.mono (by decide)) rfl T.g_need_number g_need_number.fn.kp b_need_number_2 v_need_number_2 pass0 (pa_cons (pv 1) (pa_cons pe_str pa_nil)))) (pss_one (ps_ret (pe_make T.mk_Row g_Row_init.ok (hr.mono (by decide)) rfl T.g_Row b_Row_init_0 .nil pass0 (pa_cons (pe_lc (own := [("gain", 2)]) rfl sc_Row_plus.nd (Z.pi_any (Z.pe_fldU (pv 0) rfl)) (blkOk_by (N := N_Row_plus) (sc := defScope s_Row_plus) (by decide +kernel)) (fun _ _ _ _ _ => (pg_name (i := 2) sc_Row_plus.nd rfl (Or.inl rfl))) (fun _ _ _ _ _ => pts_nil) (fun _ _ _ _ _ => (pe_op (show OpR _ _ (Z.rAddU K) from Z.op_addU) (pv 2) (pv 1)))) pa_nil))))), Z.body h ?_⟩), F⟩
  rintro ⟨ns, k⟩ F n cells hc hp
  dsimp only [cxOf, pm_Row_plus, Z.pmX, List.map] at hp ⊢
  obtain ⟨rfl, hp⟩ := hp
  kt_ors
  refine Z.called_X (k, _, none, none) rfl ?_ rfl
  kt_ors
  refine' Z.we_of (Z.wo_mapZ (Z.wi_any _))
  kt_ors
  refine' ⟨_, .inr rfl, ns, rfl, by omega, fun s hs => by cases hs; exact id, _, fun a ha => _, _⟩
  rotate_left 1
  · kt_ors
  · rw [Z.zs_map]
    kt_ors
end
end Lw
end
section
local macro_rules | `(tactic| kfm_turns) => `(tactic| first | omega | (dsimp only [Z.env0, Z.Env.set, Z.Env.at, Z.Env.up]; omega) | (simp only [List.length_map, List.length_range, List.length_append, List.length_cons, List.length_nil, List.length_replicate, List.length_set, List.length_take, List.length_drop, List.length_reverse, List.length_zipWith, Z.zs_length, Z.rangeD_length, Int.natCast_add, Int.natCast_one, Int.natCast_zero, and_true, true_and, Int.toNat_natCast, Lw.hts_length, Lw.sumsL_length, Lw.wordsL_length]; omega) | (simp only [List.length_map, List.length_range, List.length_append, List.length_cons, List.length_nil, List.length_replicate, List.length_set, List.length_take, List.length_drop, List.length_reverse, List.length_zipWith, Z.zs_length, Z.rangeD_length, Int.natCast_add, Int.natCast_one, Int.natCast_zero, and_true, true_and, Int.toNat_natCast, Lw.hts_length, Lw.sumsL_length, Lw.wordsL_length] at *; omega))
local macro_rules | `(tactic| mem_news) => `(tactic| first
  | ((with_reducible show Z.We _ _ _ _ _); first
    | (with_reducible refine Z.we_fldS (by with_unfolding_all rfl) (Lw.Tx.cl_Row (by assumption)) (Lw.Tx.na_Row_heights (by assumption)) (by with_unfolding_all rfl) ?_)
    | (with_reducible refine Z.we_int ?_)
    | (with_reducible refine Z.we_var (by with_unfolding_all rfl) ?_)
    | (with_reducible refine Z.we_varF (by with_unfolding_all rfl) ?_)
    | (with_reducible refine Z.we_adr ?_)
    | (with_reducible refine Z.we_cb ?_)
    | (with_reducible refine Z.we_un ?_)
    | (with_reducible refine Z.we_make (dds := []) (fun _ => .nil) ?_)
    | (with_reducible refine Z.we_make (dds := [.non]) (fun _ => .cons .non .nil) ?_)
    | (with_reducible refine Z.we_make (dds := [.non, .non]) (fun _ => .cons .non (.cons .non .nil)) ?_)
    | (with_reducible refine Z.we_revZ ?_)
    | (with_reducible refine Z.we_fld ?_)
    | fail)
  | ((with_reducible show Z.Wa _ _ _ _ _); first
    | (with_reducible refine Z.wa_cons ?_)
    | (with_reducible refine Z.wa_nil ?_)
    | fail)
  | ((with_reducible show Z.Ws _ _ _ _ _); first
    | (with_reducible refine Z.ws_fld (by with_unfolding_all rfl) (Lw.Tx.cl_Row (by assumption)) (Lw.Tx.na_Row_gains (by assumption)) (by with_unfolding_all exact Nat.le_of_ble_eq_true rfl) ?_)
    | (with_reducible refine Z.ws_fld (by with_unfolding_all rfl) (Lw.Tx.cl_Row (by assumption)) (Lw.Tx.na_Row_heights (by assumption)) (by with_unfolding_all exact Nat.le_of_ble_eq_true rfl) ?_)
    | (with_reducible refine Z.ws_fld (by with_unfolding_all rfl) (Lw.Tx.cl_Row (by assumption)) (Lw.Tx.na_Row_days (by assumption)) (by with_unfolding_all exact Nat.le_of_ble_eq_true rfl) ?_)
    | (with_reducible refine Z.ws_fld (by with_unfolding_all rfl) (Lw.Tx.cl_Row (by assumption)) (Lw.Tx.na_Row_total (by assumption)) (by with_unfolding_all exact Nat.le_of_ble_eq_true rfl) ?_)
    | (with_reducible refine Z.ws_seqN (by first | (dsimp only [Z.env0, Lw.N_Row_backwards, Z.heardX, Z.Env.set, Z.Env.at, Z.Env.up, List.set, List.length_cons, List.length_nil, List.length, Nat.reduceAdd, Nat.reduceSub, Nat.zero_add, List.replicate_succ, List.replicate_zero, List.map, List.cons_append, List.nil_append, List.append_eq, List.append] <;> exact rfl) | exact rfl) ?_)
    | (with_reducible refine Z.ws_ret ?_)
    | (with_reducible refine Z.ws_next ?_)
    | fail)
  | ((with_reducible show Z.Rcb _ _ _ _ _ _); first
    | (with_reducible refine Z.rcb_neg ?_)
    | fail)
  | ((with_reducible show Z.Wt _ _ _ _ _); first
    | (with_reducible refine Z.wt_test ?_)
    | (with_reducible refine Z.wt_B ?_)
    | fail)
  | ((with_reducible show Z.Wg _ _ _ _ _ _ _); first
    | (with_reducible refine Z.wg_name ?_)
    | fail)
  | ((with_reducible show Exists _); first
    | (((with_reducible refine Z.making (α := Lw.al_Row_init) (false, _) (by with_unfolding_all rfl) ?_ ?hp_Row_init); rotate_left 1; (try ((try dsimp only); kfm_turns)); rotate_right 1))
    | (((with_reducible refine Z.making (α := Lw.al_Row_init) (true, _) (by with_unfolding_all rfl) ?_ ?hp_Row_init); rotate_left 1; (try ((try dsimp only); kfm_turns)); rotate_right 1))
    | (with_reducible refine Lw.row_fld (Lw.Tx.cl_Row (by assumption)) (Lw.Tx.na_Row_heights (by assumption)) (Lw.row_heights _) ?_)
    | (with_reducible refine Lw.row_fld (Lw.Tx.cl_Row (by assumption)) (Lw.Tx.na_Row_days (by assumption)) (Lw.row_days _) ?_)
    | (with_reducible refine Lw.row_fld (Lw.Tx.cl_Row (by assumption)) (Lw.Tx.na_Row_gains (by assumption)) (Lw.row_gains _) ?_)
    | (with_reducible refine Lw.row_fld (Lw.Tx.cl_Row (by assumption)) (Lw.Tx.na_Row_total (by assumption)) (Lw.row_total _) ?_)
    | (with_reducible refine Lw.row_meth ?_)
    | fail)
  | ((with_reducible show Z.Wp _ _ _ _ _); (with_reducible first
    | refine Z.wp_none ?_
    | refine Z.wp_some ?_ | fail))
  | (with_reducible first
    | refine Z.bF (Z.nd_self _) ?_
    | refine Z.bT (Z.d_self _) ?_
    | refine Z.b1 ?_
    | refine Z.b0 ?_
    | refine Z.bN0 ?_
    | refine Z.bN1 ?_
    | refine Z.bF (Z.nd_of (by kpc_turns)) ?_
    | refine Z.bT (Z.d_of (by kpc_turns)) ?_
    | refine Z.revP_T ?_
    | refine Z.revP_L ?_
    | fail)
  | ((fail_if_success (with_reducible refine Z.spl ?_ ?_)); first
    | (refine ⟨Nat.le_of_ble_eq_true rfl, ?_⟩)
    | (refine ⟨_, rfl, ?_⟩)
    | (refine ⟨_, _, rfl, ?_⟩)
    | (refine ⟨_, _, _, rfl, ?_⟩)
    | (refine ⟨_, _, _, _, rfl, ?_⟩)
    | (refine ⟨(show (_ = _) by with_unfolding_all rfl), ?_⟩)
    | (refine ⟨⟨(show (_ = _) by with_unfolding_all rfl), (show (_ = _) by with_unfolding_all rfl)⟩, ?_⟩))
  | fail)
local macro_rules | `(tactic| kt_ors) => `(tactic| ((repeat mem_news); (try dsimp only); (try rfl)))
local macro_rules | `(tactic| leaf_len) => `(tactic| ((repeat' (first | (with_reducible first | refine Z.bF (Z.nd_self _) ?_ | refine Z.bT (Z.d_self _) ?_ | refine Z.b1 ?_ | refine Z.b0 ?_ | refine Z.bN0 ?_ | refine Z.bN1 ?_) | ((with_reducible refine Z.spl (fun hb => ?_) (fun hb => ?_)) <;> (try simp only [decide_eq_true_eq, decide_eq_false_iff_not, Bool.not_eq_true', Bool.not_eq_false', Bool.not_eq_true, Bool.not_eq_false] at hb)) | mem_news | fail)); (all_goals (try dsimp only)); (all_goals (try rfl))))

namespace Lw
open PySem L2
section
variable {P : Program} {w : World} {K : PySem.W.Frag} {mg : Str → Option Value} {base : Heap}
abbrev pm_Row_backwards (K : PySem.W.Frag) : Z.Pm (List Int) := Z.pmX (fun ns => [rowD K ns]) (fun ns => 1 ≤ ns.length ∧ ns.length ≤ 48) (fun ns => rowD K ns.reverse)
theorem ok_Row_backwards (T : Tx K mg) : ∃ fd, Z.Gd P w K mg base CX0 5 d_Row_backwards ["self"] (Z.spD K (pm_Row_backwards K)) fd := by
  obtain ⟨fd_Row_init, g_Row_init⟩ := ok_Row_init (P := P) (w := w) (base := base) T
  have b_Row_init_0 : Binds K fd_Row_init ["self", "gains"] [] := g_Row_init.fn.bindsN fun _ _ _ _ _ _ us hl => match us, hl with | [_, _], _ => rfl
  obtain ⟨fd, F⟩ := T.d_Row_backwards
  refine ⟨fd, F.ok sc_Row_backwards (Z.spD_len fun _ => rfl) (fun cdv A outer s H vs Q EX hr h => ⟨_, PSs.nox (pss_one (ps_ret (pe_make T.mk_Row g_Row_init.ok (hr.mono (by decide)) rfl T.g_Row b_Row_init_0 .nil pass0 (pa_cons (Z.pe_rev (Z.pe_fldU (pv 0) rfl)) pa_nil)))), Z.body h ?_⟩), F⟩
  intro ns F n cells hc hp
  dsimp only [cxOf, pm_Row_backwards, Z.pmX, List.map] at hp ⊢
  obtain ⟨rfl, hp⟩ := hp
  kt_ors
end
end Lw
end
section
local macro_rules | `(tactic| kfm_turns) => `(tactic| first | omega | (dsimp only [Z.env0, Z.Env.set, Z.Env.at, Z.Env.up]; omega) | (simp only [List.length_map, List.length_range, List.length_append, List.length_cons, List.length_nil, List.length_replicate, List.length_set, List.length_take, List.length_drop, List.length_reverse, List.length_zipWith, Z.zs_length, Z.rangeD_length, Int.natCast_add, Int.natCast_one, Int.natCast_zero, and_true, true_and, Int.toNat_natCast, Lw.hts_length, Lw.sumsL_length, Lw.wordsL_length]; omega) | (simp only [List.length_map, List.length_range, List.length_append, List.length_cons, List.length_nil, List.length_replicate, List.length_set, List.length_take, List.length_drop, List.length_reverse, List.length_zipWith, Z.zs_length, Z.rangeD_length, Int.natCast_add, Int.natCast_one, Int.natCast_zero, and_true, true_and, Int.toNat_natCast, Lw.hts_length, Lw.sumsL_length, Lw.wordsL_length] at *; omega))
local macro_rules | `(tactic| mem_news) => `(tactic| first
  | ((with_reducible show Z.We _ _ _ _ _); first
    | (with_reducible refine Z.we_fldS (by with_unfolding_all rfl) (Lw.Tx.cl_Row (by assumption)) (Lw.Tx.na_Row_heights (by assumption)) (by with_unfolding_all rfl) ?_)
    | (with_reducible refine Z.we_var (by with_unfolding_all rfl) ?_)
    | (with_reducible refine Z.we_varF (by with_unfolding_all rfl) ?_)
    | (with_reducible refine Z.we_str ?_)
    | (with_reducible refine Z.we_adr ?_)
    | (with_reducible refine Z.we_cb ?_)
    | (with_reducible refine Z.we_of (Z.wo_lc ?_))
    | (with_reducible refine Z.we_call (dds := []) (fun _ => .nil) ?_)
    | (with_reducible refine Z.we_call (dds := [.non, .non]) (fun _ => .cons .non (.cons .non .nil)) ?_)
    | (with_reducible refine Z.we_call (dds := [.non]) (fun _ => .cons .non .nil) ?_)
    | (with_reducible refine Z.we_make (dds := []) (fun _ => .nil) ?_)
    | (with_reducible refine Z.we_make (dds := [.non]) (fun _ => .cons .non .nil) ?_)
    | (with_reducible refine Z.we_make (dds := [.non, .non]) (fun _ => .cons .non (.cons .non .nil)) ?_)
    | (with_reducible refine Z.we_op ?_)
    | (with_reducible refine Z.we_fld ?_)
    | fail)
  | ((with_reducible show Z.Rop _ _ _ _ _ _ _); first
    | ((with_reducible refine Z.rop_mulR (by omega) ?_))
    | (with_reducible refine Z.rop_mulL (by omega) ?_)
    | (with_reducible refine Z.rop_mulR (by omega) ?_)
    | (with_reducible refine Z.rop_repZ (by kfm_turns) ?_)
    | (with_reducible refine Z.rop_repTZ (by kfm_turns) ?_)
    | fail)
  | ((with_reducible show Z.Wa _ _ _ _ _); first
    | (with_reducible refine Z.wa_cons ?_)
    | (with_reducible refine Z.wa_nil ?_)
    | fail)
  | ((with_reducible show Z.Ws _ _ _ _ _); first
    | (with_reducible refine Z.ws_fld (by with_unfolding_all rfl) (Lw.Tx.cl_Row (by assumption)) (Lw.Tx.na_Row_gains (by assumption)) (by with_unfolding_all exact Nat.le_of_ble_eq_true rfl) ?_)
    | (with_reducible refine Z.ws_fld (by with_unfolding_all rfl) (Lw.Tx.cl_Row (by assumption)) (Lw.Tx.na_Row_heights (by assumption)) (by with_unfolding_all exact Nat.le_of_ble_eq_true rfl) ?_)
    | (with_reducible refine Z.ws_fld (by with_unfolding_all rfl) (Lw.Tx.cl_Row (by assumption)) (Lw.Tx.na_Row_days (by assumption)) (by with_unfolding_all exact Nat.le_of_ble_eq_true rfl) ?_)
    | (with_reducible refine Z.ws_fld (by with_unfolding_all rfl) (Lw.Tx.cl_Row (by assumption)) (Lw.Tx.na_Row_total (by assumption)) (by with_unfolding_all exact Nat.le_of_ble_eq_true rfl) ?_)
    | (with_reducible refine Z.ws_seqN (by first | (dsimp only [Z.env0, Lw.N_Row_times, Z.heardX, Z.Env.set, Z.Env.at, Z.Env.up, List.set, List.length_cons, List.length_nil, List.length, Nat.reduceAdd, Nat.reduceSub, Nat.zero_add, List.replicate_succ, List.replicate_zero, List.map, List.cons_append, List.nil_append, List.append_eq, List.append] <;> exact rfl) | exact rfl) ?_)
    | (with_reducible refine Z.ws_ret ?_)
    | (with_reducible refine Z.ws_own (Z.wo_lc ?_))
    | (with_reducible refine Z.ws_next ?_)
    | (with_reducible refine Z.ws_drop ?_)
    | fail)
  | ((with_reducible show Z.Wt _ _ _ _ _); first
    | (with_reducible refine Z.wt_test ?_)
    | (with_reducible refine Z.wt_B ?_)
    | fail)
  | ((with_reducible show Z.Wg _ _ _ _ _ _ _); first
    | (with_reducible refine Z.wg_name ?_)
    | fail)
  | ((with_reducible show Exists _); first
    | (((with_reducible refine Z.making (α := Lw.al_Row_init) (false, _) (by with_unfolding_all rfl) ?_ ?hp_Row_init); rotate_left 1; (try ((try dsimp only); kfm_turns)); rotate_right 1))
    | (((with_reducible refine Z.making (α := Lw.al_Row_init) (true, _) (by with_unfolding_all rfl) ?_ ?hp_Row_init); rotate_left 1; (try ((try dsimp only); kfm_turns)); rotate_right 1))
    | (with_reducible refine Lw.row_fld (Lw.Tx.cl_Row (by assumption)) (Lw.Tx.na_Row_heights (by assumption)) (Lw.row_heights _) ?_)
    | (with_reducible refine Lw.row_fld (Lw.Tx.cl_Row (by assumption)) (Lw.Tx.na_Row_days (by assumption)) (Lw.row_days _) ?_)
    | (with_reducible refine Lw.row_fld (Lw.Tx.cl_Row (by assumption)) (Lw.Tx.na_Row_gains (by assumption)) (Lw.row_gains _) ?_)
    | (with_reducible refine Lw.row_fld (Lw.Tx.cl_Row (by assumption)) (Lw.Tx.na_Row_total (by assumption)) (Lw.row_total _) ?_)
    | (with_reducible refine Lw.row_meth ?_)
    | fail)
  | (with_reducible first
    | refine Z.bF (Z.nd_self _) ?_
    | refine Z.bT (Z.d_self _) ?_
    | refine Z.b1 ?_
    | refine Z.b0 ?_
    | refine Z.bN0 ?_
    | refine Z.bN1 ?_
    | refine Z.bF (Z.nd_of (by kpc_turns)) ?_
    | refine Z.bT (Z.d_of (by kpc_turns)) ?_
    | fail)
  | ((fail_if_success (with_reducible refine Z.spl ?_ ?_)); first
    | (refine ⟨Nat.le_of_ble_eq_true rfl, ?_⟩)
    | (refine ⟨_, rfl, ?_⟩)
    | (refine ⟨_, _, rfl, ?_⟩)
    | (refine ⟨_, _, _, rfl, ?_⟩)
    | (refine ⟨_, _, _, _, rfl, ?_⟩)
    | (refine ⟨(show (_ = _) by with_unfolding_all rfl), ?_⟩)
    | (refine ⟨⟨(show (_ = _) by with_unfolding_all rfl), (show (_ = _) by with_unfolding_all rfl)⟩, ?_⟩))
  | fail)
local macro_rules | `(tactic| kt_ors) => `(tactic| ((repeat mem_news); (try dsimp only); (try rfl)))
local macro_rules | `(tactic| leaf_len) => `(tactic| ((repeat' (first | (with_reducible first | refine Z.bF (Z.nd_self _) ?_ | refine Z.bT (Z.d_self _) ?_ | refine Z.b1 ?_ | refine Z.b0 ?_ | refine Z.bN0 ?_ | refine Z.bN1 ?_) | ((with_reducible refine Z.spl (fun hb => ?_) (fun hb => ?_)) <;> (try simp only [decide_eq_true_eq, decide_eq_false_iff_not, Bool.not_eq_true', Bool.not_eq_false', Bool.not_eq_true, Bool.not_eq_false] at hb)) | mem_news | fail)); (all_goals (try dsimp only)); (all_goals (try rfl))))

namespace Lw
open PySem L2
section
variable {P : Program} {w : World} {K : PySem.W.Frag} {mg : Str → Option Value} {base : Heap}
abbrev pm_Row_times (K : PySem.W.Frag) : Z.Pm (List Int × Int) := Z.pmX (fun (ns, k) => [rowD K ns, .int k]) (fun (ns, k) => 1 ≤ ns.length ∧ ns.length ≤ 48 ∧ -2 ^ 64 < k ∧ k < 2 ^ 64) (fun (ns, k) => rowD K (ns.map fun a => a * k))
theorem ok_Row_times (T : Tx K mg) : ∃ fd, Z.Gd P w K mg base CX0 5 d_Row_times ["self", "number"] (Z.spD K (pm_Row_times K)) fd := by
  obtain ⟨fd_Row_init, g_Row_init⟩ := ok_Row_init (P := P) (w := w) (base := base) T
  obtain ⟨fd_need_number, g_need_number⟩ := ok_need_number (P := P) (w := w) (base := base) T
  have b_Row_init_0 : Binds K fd_Row_init ["self", "gains"] [] := g_Row_init.fn.bindsN fun _ _ _ _ _ _ us hl => match us, hl with | [_, _], _ => rfl
  obtain ⟨ds_need_number_2, v_need_number_2, b_need_number_2⟩ := g_need_number.fn.binds1 (ps := ["value", "part", "least", "most"]) 2 0 (by exact fun h => nomatch h) rfl fun _ _ _ _ _ _ _ us its hl hi => match us, hl, its, hi with | [_, _], _, [_, _], _ => ⟨_, rfl, rfl⟩
  have v_need_number_2 : Vals [.non, .non] ds_need_number_2 := by exact v_need_number_2
  obtain ⟨fd, F⟩ := T.d_Row_times
  refine ⟨fd, F.ok sc_Row_times (Z.spD_len fun _ => rfl) (fun cdv A outer s H vs Q EX hr h => ⟨_, PSs.nox (pss_cons (ps_expr (pe_call g_need_number.ok (hr.mono (by decide)) rfl T.g_need_number g_need_number.fn.kp b_need_number_2 v_need_number_2 pass0 (pa_cons (pv 1) (pa_cons pe_str pa_nil)))) (pss_one (ps_ret (pe_make T.mk_Row g_Row_init.ok (hr.mono (by decide)) rfl T.g_Row b_Row_init_0 .nil pass0 (pa_cons (pe_lc (own := [("gain", 2)]) rfl sc_Row_times.nd (Z.pi_any (Z.pe_fldU (pv 0) rfl)) (blkOk_by (N := N_Row_times) (sc := defScope s_Row_times) (by decide +kernel)) (fun _ _ _ _ _ => (pg_name (i := 2) sc_Row_times.nd rfl (Or.inl rfl))) (fun _ _ _ _ _ => pts_nil) (fun _ _ _ _ _ => (pe_op (show OpR _ _ (Z.rMulU K) from Z.op_mulU) (pv 2) (pv 1)))) pa_nil))))), Z.body h ?_⟩), F⟩
  rintro ⟨ns, k⟩ F n cells hc hp
  dsimp only [cxOf, pm_Row_times, Z.pmX, List.map] at hp ⊢
  obtain ⟨rfl, hp⟩ := hp
  kt_ors
  refine Z.called_X (k, _, none, none) rfl ?_ rfl
  kt_ors
  refine' Z.we_of (Z.wo_mapZ (Z.wi_any _))
  kt_ors
  refine' ⟨_, .inr rfl, ns, rfl, by omega, fun s hs => by cases hs; exact id, _, fun a ha => _, _⟩
  rotate_left 1
  · kt_ors
  · rw [Z.zs_map]
    kt_ors
end
end Lw
end
section
local macro_rules | `(tactic| kfm_turns) => `(tactic| first | omega | (dsimp only [Z.env0, Z.Env.set, Z.Env.at, Z.Env.up]; omega) | (simp only [List.length_map, List.length_range, List.length_append, List.length_cons, List.length_nil, List.length_replicate, List.length_set, List.length_take, List.length_drop, List.length_reverse, List.length_zipWith, Z.zs_length, Z.rangeD_length, Int.natCast_add, Int.natCast_one, Int.natCast_zero, and_true, true_and, Int.toNat_natCast, Lw.hts_length, Lw.sumsL_length, Lw.wordsL_length]; omega) | (simp only [List.length_map, List.length_range, List.length_append, List.length_cons, List.length_nil, List.length_replicate, List.length_set, List.length_take, List.length_drop, List.length_reverse, List.length_zipWith, Z.zs_length, Z.rangeD_length, Int.natCast_add, Int.natCast_one, Int.natCast_zero, and_true, true_and, Int.toNat_natCast, Lw.hts_length, Lw.sumsL_length, Lw.wordsL_length] at *; omega))
local macro_rules | `(tactic| mem_news) => `(tactic| first
  | ((with_reducible show Z.We _ _ _ _ _); first
    | (with_reducible refine Z.we_fldS (by with_unfolding_all rfl) (Lw.Tx.cl_Row (by assumption)) (Lw.Tx.na_Row_heights (by assumption)) (by with_unfolding_all rfl) ?_)
    | (with_reducible refine Z.we_int ?_)
    | (with_reducible refine Z.we_var (by with_unfolding_all rfl) ?_)
    | (with_reducible refine Z.we_varF (by with_unfolding_all rfl) ?_)
    | (with_reducible refine Z.we_str ?_)
    | (with_reducible refine Z.we_cb ?_)
    | (with_reducible refine Z.we_andV ?_)
    | (with_reducible refine Z.we_if ?_)
    | (with_reducible refine Z.we_op ?_)
    | fail)
  | ((with_reducible show Z.Rop _ _ _ _ _ _ _); first
    | (with_reducible refine Z.rop_lt ?_)
    | (with_reducible refine Z.rop_gt ?_)
    | (with_reducible refine Z.rop_eqI ?_)
    | (with_reducible refine Z.rop_eqB ?_)
    | (with_reducible refine Z.rop_eqP ?_)
    | (with_reducible refine Z.rop_eqZT ?_)
    | (with_reducible refine Z.rop_eqZL ?_)
    | (with_reducible refine Z.rop_eqZL0 ?_)
    | fail)
  | ((with_reducible show Z.Wa _ _ _ _ _); first
    | (with_reducible refine Z.wa_cons ?_)
    | (with_reducible refine Z.wa_nil ?_)
    | fail)
  | ((with_reducible show Z.Ws _ _ _ _ _); first
    | (with_reducible refine Z.ws_fld (by with_unfolding_all rfl) (Lw.Tx.cl_Row (by assumption)) (Lw.Tx.na_Row_gains (by assumption)) (by with_unfolding_all exact Nat.le_of_ble_eq_true rfl) ?_)
    | (with_reducible refine Z.ws_fld (by with_unfolding_all rfl) (Lw.Tx.cl_Row (by assumption)) (Lw.Tx.na_Row_heights (by assumption)) (by with_unfolding_all exact Nat.le_of_ble_eq_true rfl) ?_)
    | (with_reducible refine Z.ws_fld (by with_unfolding_all rfl) (Lw.Tx.cl_Row (by assumption)) (Lw.Tx.na_Row_days (by assumption)) (by with_unfolding_all exact Nat.le_of_ble_eq_true rfl) ?_)
    | (with_reducible refine Z.ws_fld (by with_unfolding_all rfl) (Lw.Tx.cl_Row (by assumption)) (Lw.Tx.na_Row_total (by assumption)) (by with_unfolding_all exact Nat.le_of_ble_eq_true rfl) ?_)
    | (with_reducible refine Z.ws_seqN (by first | (dsimp only [Z.env0, Lw.N_word_of, Z.heardX, Z.Env.set, Z.Env.at, Z.Env.up, List.set, List.length_cons, List.length_nil, List.length, Nat.reduceAdd, Nat.reduceSub, Nat.zero_add, List.replicate_succ, List.replicate_zero, List.map, List.cons_append, List.nil_append, List.append_eq, List.append] <;> exact rfl) | exact rfl) ?_)
    | (with_reducible refine Z.ws_if ?_)
    | (with_reducible refine Z.ws_ret ?_)
    | (with_reducible refine Z.ws_asgN ?_)
    | (with_reducible refine Z.ws_asg ?_)
    | (with_reducible refine Z.ws_next ?_)
    | fail)
  | ((with_reducible show Z.Rcb _ _ _ _ _ _); first
    | (with_reducible refine Z.rcb_max2 ?_)
    | (with_reducible refine Z.rcb_min2 ?_)
    | fail)
  | ((with_reducible show Z.Wt _ _ _ _ _); first
    | (with_reducible refine Z.wt_test ?_)
    | (with_reducible refine Z.wt_B ?_)
    | (with_reducible refine Z.wt_and ?_)
    | fail)
  | ((with_reducible show Z.Wg _ _ _ _ _ _ _); first
    | (with_reducible refine Z.wg_name ?_)
    | fail)
  | ((with_reducible show Exists _); first
    | (with_reducible refine Lw.row_fld (Lw.Tx.cl_Row (by assumption)) (Lw.Tx.na_Row_heights (by assumption)) (Lw.row_heights _) ?_)
    | (with_reducible refine Lw.row_fld (Lw.Tx.cl_Row (by assumption)) (Lw.Tx.na_Row_days (by assumption)) (Lw.row_days _) ?_)
    | (with_reducible refine Lw.row_fld (Lw.Tx.cl_Row (by assumption)) (Lw.Tx.na_Row_gains (by assumption)) (Lw.row_gains _) ?_)
    | (with_reducible refine Lw.row_fld (Lw.Tx.cl_Row (by assumption)) (Lw.Tx.na_Row_total (by assumption)) (Lw.row_total _) ?_)
    | (with_reducible refine Lw.row_meth ?_)
    | fail)
  | (with_reducible first
    | refine Z.bF (Z.nd_self _) ?_
    | refine Z.bT (Z.d_self _) ?_
    | refine Z.b1 ?_
    | refine Z.b0 ?_
    | refine Z.bN0 ?_
    | refine Z.bN1 ?_
    | refine Z.bF (Z.nd_of (by kpc_turns)) ?_
    | refine Z.bT (Z.d_of (by kpc_turns)) ?_
    | fail)
  | ((fail_if_success (with_reducible refine Z.spl ?_ ?_)); first
    | (refine ⟨Nat.le_of_ble_eq_true rfl, ?_⟩)
    | (refine ⟨_, rfl, ?_⟩)
    | (refine ⟨_, _, rfl, ?_⟩)
    | (refine ⟨_, _, _, rfl, ?_⟩)
    | (refine ⟨_, _, _, _, rfl, ?_⟩)
    | (refine ⟨(show (_ = _) by with_unfolding_all rfl), ?_⟩)
    | (refine ⟨⟨(show (_ = _) by with_unfolding_all rfl), (show (_ = _) by with_unfolding_all rfl)⟩, ?_⟩))
  | fail)
local macro_rules | `(tactic| kt_ors) => `(tactic| ((repeat mem_news); (try dsimp only); (try rfl)))
local macro_rules | `(tactic| leaf_len) => `(tactic| ((repeat' (first | (with_reducible first | refine Z.bF (Z.nd_self _) ?_ | refine Z.bT (Z.d_self _) ?_ | refine Z.b1 ?_ | refine Z.b0 ?_ | refine Z.bN0 ?_ | refine Z.bN1 ?_) | ((with_reducible refine Z.spl (fun hb => ?_) (fun hb => ?_)) <;> (try simp only [decide_eq_true_eq, decide_eq_false_iff_not, Bool.not_eq_true', Bool.not_eq_false', Bool.not_eq_true, Bool.not_eq_false] at hb)) | mem_news | fail)); (all_goals (try dsimp only)); (all_goals (try rfl))))

namespace Lw
open PySem L2
section
variable {P : Program} {w : World} {K : PySem.W.Frag} {mg : Str → Option Value} {base : Heap}
abbrev pm_word_of (K : PySem.W.Frag) : Z.Pm (List Int) := Z.pmX (fun xs => [.tpx xs]) (fun xs => 1 ≤ xs.length) (fun xs => .str (word xs))
theorem ok_word_of (T : Tx K mg) : ∃ fd, Z.Gd P w K mg base CX0 1 d_word_of ["found"] (Z.spD K (pm_word_of K)) fd := by
  obtain ⟨fd, F⟩ := T.d_word_of
  refine ⟨fd, F.ok sc_word_of (Z.spD_len fun _ => rfl) (fun cdv A outer s H vs Q EX hr h => ⟨_, PSs.nox (pss_cons (ps_set (i := 1) sc_word_of.nd rfl (Or.inl rfl) (pe_callB (Z.cr_minX (by rfl)) (by rfl) T.f_min (by decide +kernel) (pa_cons (pv 0) pa_nil))) (pss_cons (ps_set (i := 2) sc_word_of.nd rfl (Or.inl rfl) (pe_callB (Z.cr_maxX (by rfl)) (by rfl) T.f_max (by decide +kernel) (pa_cons (pv 0) pa_nil))) (pss_cons (ps_if (pt_cmpR op_gt (pv 1) pe_int (nomark _)) (pss_one (ps_ret pe_str)) pss_nil) (pss_cons (ps_if (pt_cmpR op_lt (pv 2) pe_int (nomark _)) (pss_one (ps_ret pe_str)) pss_nil) (pss_one (ps_ret (pe_ifExp (PW.pt (pw_and (pt_cmpR (op_eqD hr.units) (pv 1) pe_int (nomark _)) (pw_and1 (pt_cmpR (op_eqD hr.units) (pv 2) pe_int (nomark _))))) pe_str pe_str))))))), Z.body h ?_⟩), F⟩
  intro xs F n cells hc hp
  dsimp only [cxOf, pm_word_of, Z.pmX, List.map] at hp ⊢
  obtain ⟨rfl, hp⟩ := hp
  have hne : 0 < xs.length := by omega
  kt_ors
  refine Z.rcb_minX hne fun a ha hla => ?_
  kt_ors
  refine Z.rcb_maxX hne fun b hb hlb => ?_
  rw [word_by ha hla hb hlb]
  leaf_len
  all_goals first
    | rw [if_pos (by assumption)]
    | rw [if_neg (by assumption), if_pos (by assumption)]
    | (rw [if_neg (by assumption), if_neg (by assumption), if_pos (by omega)]; done)
    | (rw [if_neg (by assumption), if_neg (by assumption), if_neg (by omega)]; done)
end
end Lw
end
section
local macro_rules | `(tactic| kfm_turns) => `(tactic| first | omega | (dsimp only [Z.env0, Z.Env.set, Z.Env.at, Z.Env.up]; omega) | (simp only [List.length_map, List.length_range, List.length_append, List.length_cons, List.length_nil, List.length_replicate, List.length_set, List.length_take, List.length_drop, List.length_reverse, List.length_zipWith, Z.zs_length, Z.rangeD_length, Int.natCast_add, Int.natCast_one, Int.natCast_zero, and_true, true_and, Int.toNat_natCast, Lw.hts_length, Lw.sumsL_length, Lw.wordsL_length]; omega) | (simp only [List.length_map, List.length_range, List.length_append, List.length_cons, List.length_nil, List.length_replicate, List.length_set, List.length_take, List.length_drop, List.length_reverse, List.length_zipWith, Z.zs_length, Z.rangeD_length, Int.natCast_add, Int.natCast_one, Int.natCast_zero, and_true, true_and, Int.toNat_natCast, Lw.hts_length, Lw.sumsL_length, Lw.wordsL_length] at *; omega))
local macro_rules | `(tactic| mem_news) => `(tactic| first
  | ((with_reducible show Z.Called _ _ _ _ _ _ _); first
    | (((with_reducible show Z.Called (Lw.pm_word_of _) _ _ _ _ _ _); refine Z.called_X _ (by with_unfolding_all rfl) ?_ ?hp_word_of; rotate_left 1; (try (first | omega | (simp only [Lw.sumsL_length]; omega))); rotate_right 1))
    | (((with_reducible show Z.Called (Lw.pm_sums _) _ _ _ _ _ _); refine Z.called_X (_, _) (by with_unfolding_all rfl) ?_ ?hp_sums; rotate_left 1; (try ((try dsimp only); kfm_turns)); rotate_right 1))
    | fail)
  | ((with_reducible show Z.We _ _ _ _ _); first
    | (with_reducible refine Z.we_fldS (by with_unfolding_all rfl) (Lw.Tx.cl_Row (by assumption)) (Lw.Tx.na_Row_heights (by assumption)) (by with_unfolding_all rfl) ?_)
    | (with_reducible refine Z.we_var (by with_unfolding_all rfl) ?_)
    | (with_reducible refine Z.we_varF (by with_unfolding_all rfl) ?_)
    | (with_reducible refine Z.we_cb ?_)
    | (with_reducible refine Z.we_call (dds := []) (fun _ => .nil) ?_)
    | (with_reducible refine Z.we_call (dds := [.non, .non]) (fun _ => .cons .non (.cons .non .nil)) ?_)
    | (with_reducible refine Z.we_call (dds := [.non]) (fun _ => .cons .non .nil) ?_)
    | fail)
  | ((with_reducible show Z.Wa _ _ _ _ _); first
    | (with_reducible refine Z.wa_cons ?_)
    | (with_reducible refine Z.wa_nil ?_)
    | fail)
  | ((with_reducible show Z.Ws _ _ _ _ _); first
    | (with_reducible refine Z.ws_fld (by with_unfolding_all rfl) (Lw.Tx.cl_Row (by assumption)) (Lw.Tx.na_Row_gains (by assumption)) (by with_unfolding_all exact Nat.le_of_ble_eq_true rfl) ?_)
    | (with_reducible refine Z.ws_fld (by with_unfolding_all rfl) (Lw.Tx.cl_Row (by assumption)) (Lw.Tx.na_Row_heights (by assumption)) (by with_unfolding_all exact Nat.le_of_ble_eq_true rfl) ?_)
    | (with_reducible refine Z.ws_fld (by with_unfolding_all rfl) (Lw.Tx.cl_Row (by assumption)) (Lw.Tx.na_Row_days (by assumption)) (by with_unfolding_all exact Nat.le_of_ble_eq_true rfl) ?_)
    | (with_reducible refine Z.ws_fld (by with_unfolding_all rfl) (Lw.Tx.cl_Row (by assumption)) (Lw.Tx.na_Row_total (by assumption)) (by with_unfolding_all exact Nat.le_of_ble_eq_true rfl) ?_)
    | (with_reducible refine Z.ws_seqN (by first | (dsimp only [Z.env0, Lw.N_sort_of, Z.heardX, Z.Env.set, Z.Env.at, Z.Env.up, List.set, List.length_cons, List.length_nil, List.length, Nat.reduceAdd, Nat.reduceSub, Nat.zero_add, List.replicate_succ, List.replicate_zero, List.map, List.cons_append, List.nil_append, List.append_eq, List.append] <;> exact rfl) | exact rfl) ?_)
    | (with_reducible refine Z.ws_ret ?_)
    | (with_reducible refine Z.ws_next ?_)
    | fail)
  | ((with_reducible show Z.Wt _ _ _ _ _); first
    | (with_reducible refine Z.wt_test ?_)
    | (with_reducible refine Z.wt_B ?_)
    | fail)
  | ((with_reducible show Z.Wg _ _ _ _ _ _ _); first
    | (with_reducible refine Z.wg_name ?_)
    | fail)
  | ((with_reducible show Exists _); first
    | (with_reducible refine Lw.row_fld (Lw.Tx.cl_Row (by assumption)) (Lw.Tx.na_Row_heights (by assumption)) (Lw.row_heights _) ?_)
    | (with_reducible refine Lw.row_fld (Lw.Tx.cl_Row (by assumption)) (Lw.Tx.na_Row_days (by assumption)) (Lw.row_days _) ?_)
    | (with_reducible refine Lw.row_fld (Lw.Tx.cl_Row (by assumption)) (Lw.Tx.na_Row_gains (by assumption)) (Lw.row_gains _) ?_)
    | (with_reducible refine Lw.row_fld (Lw.Tx.cl_Row (by assumption)) (Lw.Tx.na_Row_total (by assumption)) (Lw.row_total _) ?_)
    | (with_reducible refine Lw.row_meth ?_)
    | fail)
  | (with_reducible first
    | refine Z.bF (Z.nd_self _) ?_
    | refine Z.bT (Z.d_self _) ?_
    | refine Z.b1 ?_
    | refine Z.b0 ?_
    | refine Z.bN0 ?_
    | refine Z.bN1 ?_
    | refine Z.bF (Z.nd_of (by kpc_turns)) ?_
    | refine Z.bT (Z.d_of (by kpc_turns)) ?_
    | fail)
  | ((fail_if_success (with_reducible refine Z.spl ?_ ?_)); first
    | (refine ⟨Nat.le_of_ble_eq_true rfl, ?_⟩)
    | (refine ⟨_, rfl, ?_⟩)
    | (refine ⟨_, _, rfl, ?_⟩)
    | (refine ⟨_, _, _, rfl, ?_⟩)
    | (refine ⟨_, _, _, _, rfl, ?_⟩)
    | (refine ⟨(show (_ = _) by with_unfolding_all rfl), ?_⟩)
    | (refine ⟨⟨(show (_ = _) by with_unfolding_all rfl), (show (_ = _) by with_unfolding_all rfl)⟩, ?_⟩))
  | fail)
local macro_rules | `(tactic| kt_ors) => `(tactic| ((repeat mem_news); (try dsimp only); (try rfl)))
local macro_rules | `(tactic| leaf_len) => `(tactic| ((repeat' (first | (with_reducible first | refine Z.bF (Z.nd_self _) ?_ | refine Z.bT (Z.d_self _) ?_ | refine Z.b1 ?_ | refine Z.b0 ?_ | refine Z.bN0 ?_ | refine Z.bN1 ?_) | ((with_reducible refine Z.spl (fun hb => ?_) (fun hb => ?_)) <;> (try simp only [decide_eq_true_eq, decide_eq_false_iff_not, Bool.not_eq_true', Bool.not_eq_false', Bool.not_eq_true, Bool.not_eq_false] at hb)) | mem_news | fail)); (all_goals (try dsimp only)); (all_goals (try rfl))))

namespace Lw
open PySem L2
section
variable {P : Program} {w : World} {K : PySem.W.Frag} {mg : Str → Option Value} {base : Heap}
abbrev pm_sort_of (K : PySem.W.Frag) : Z.Pm (List Int × Nat) := Z.pmX (fun (ns, l) => [rowD K ns, .int l]) (fun (ns, l) => 1 ≤ l ∧ l ≤ ns.length ∧ ns.length ≤ 48) (fun (ns, l) => .str (word (sumsL ns l)))
theorem ok_sort_of (T : Tx K mg) : ∃ fd, Z.Gd P w K mg base CX0 7 d_sort_of ["row", "length"] (Z.spD K (pm_sort_of K)) fd := by
  obtain ⟨fd_word_of, g_word_of⟩ := ok_word_of (P := P) (w := w) (base := base) T
  obtain ⟨fd_sums, g_sums⟩ := ok_sums (P := P) (w := w) (base := base) T
  have b_word_of_0 : Binds K fd_word_of ["found"] [] := g_word_of.fn.bindsN fun _ _ _ _ _ _ us hl => match us, hl with | [_], _ => rfl
  have b_sums_0 : Binds K fd_sums ["row", "length"] [] := g_sums.fn.bindsN fun _ _ _ _ _ _ us hl => match us, hl with | [_, _], _ => rfl
  obtain ⟨fd, F⟩ := T.d_sort_of
  refine ⟨fd, F.ok sc_sort_of (Z.spD_len fun _ => rfl) (fun cdv A outer s H vs Q EX hr h => ⟨_, PSs.nox (pss_one (ps_ret (pe_call g_word_of.ok (hr.mono (by decide)) rfl T.g_word_of g_word_of.fn.kp b_word_of_0 .nil pass0 (pa_cons (pe_call g_sums.ok (hr.mono (by decide)) rfl T.g_sums g_sums.fn.kp b_sums_0 .nil pass0 (pa_cons (pv 0) (pa_cons (pv 1) pa_nil))) pa_nil)))), Z.body h ?_⟩), F⟩
  rintro ⟨ns, l⟩ F n cells hc hp
  dsimp only [cxOf, pm_sort_of, Z.pmX, List.map] at hp ⊢
  obtain ⟨rfl, hp⟩ := hp
  kt_ors
end
end Lw
end
section
local macro_rules | `(tactic| kfm_turns) => `(tactic| first | omega | (dsimp only [Z.env0, Z.Env.set, Z.Env.at, Z.Env.up]; omega) | (simp only [List.length_map, List.length_range, List.length_append, List.length_cons, List.length_nil, List.length_replicate, List.length_set, List.length_take, List.length_drop, List.length_reverse, List.length_zipWith, Z.zs_length, Z.rangeD_length, Int.natCast_add, Int.natCast_one, Int.natCast_zero, and_true, true_and, Int.toNat_natCast, Lw.hts_length, Lw.sumsL_length, Lw.wordsL_length]; omega) | (simp only [List.length_map, List.length_range, List.length_append, List.length_cons, List.length_nil, List.length_replicate, List.length_set, List.length_take, List.length_drop, List.length_reverse, List.length_zipWith, Z.zs_length, Z.rangeD_length, Int.natCast_add, Int.natCast_one, Int.natCast_zero, and_true, true_and, Int.toNat_natCast, Lw.hts_length, Lw.sumsL_length, Lw.wordsL_length] at *; omega))
local macro_rules | `(tactic| mem_news) => `(tactic| first
  | ((with_reducible show Z.We _ _ _ _ _); first
    | (with_reducible refine Z.we_fldS (by with_unfolding_all rfl) (Lw.Tx.cl_Row (by assumption)) (Lw.Tx.na_Row_heights (by assumption)) (by with_unfolding_all rfl) ?_)
    | (with_reducible refine Z.we_int ?_)
    | (with_reducible refine Z.we_var (by with_unfolding_all rfl) ?_)
    | (with_reducible refine Z.we_varF (by with_unfolding_all rfl) ?_)
    | (with_reducible refine Z.we_str ?_)
    | (with_reducible refine Z.we_orV ?_)
    | (with_reducible refine Z.we_if ?_)
    | (with_reducible refine Z.we_op ?_)
    | fail)
  | ((with_reducible show Z.Rop _ _ _ _ _ _ _); first
    | (with_reducible refine Z.rop_lt ?_)
    | (with_reducible refine Z.rop_gt ?_)
    | (with_reducible refine Z.rop_eqI ?_)
    | (with_reducible refine Z.rop_eqB ?_)
    | (with_reducible refine Z.rop_eqP ?_)
    | (with_reducible refine Z.rop_eqZT ?_)
    | (with_reducible refine Z.rop_eqZL ?_)
    | (with_reducible refine Z.rop_eqZL0 ?_)
    | fail)
  | ((with_reducible show Z.Wa _ _ _ _ _); first
    | (with_reducible refine Z.wa_cons ?_)
    | (with_reducible refine Z.wa_nil ?_)
    | fail)
  | ((with_reducible show Z.Ws _ _ _ _ _); first
    | (with_reducible refine Z.ws_fld (by with_unfolding_all rfl) (Lw.Tx.cl_Row (by assumption)) (Lw.Tx.na_Row_gains (by assumption)) (by with_unfolding_all exact Nat.le_of_ble_eq_true rfl) ?_)
    | (with_reducible refine Z.ws_fld (by with_unfolding_all rfl) (Lw.Tx.cl_Row (by assumption)) (Lw.Tx.na_Row_heights (by assumption)) (by with_unfolding_all exact Nat.le_of_ble_eq_true rfl) ?_)
    | (with_reducible refine Z.ws_fld (by with_unfolding_all rfl) (Lw.Tx.cl_Row (by assumption)) (Lw.Tx.na_Row_days (by assumption)) (by with_unfolding_all exact Nat.le_of_ble_eq_true rfl) ?_)
    | (with_reducible refine Z.ws_fld (by with_unfolding_all rfl) (Lw.Tx.cl_Row (by assumption)) (Lw.Tx.na_Row_total (by assumption)) (by with_unfolding_all exact Nat.le_of_ble_eq_true rfl) ?_)
    | (with_reducible refine Z.ws_seqN (by first | (dsimp only [Z.env0, Lw.N_Lsort_due, Z.heardX, Z.Env.set, Z.Env.at, Z.Env.up, List.set, List.length_cons, List.length_nil, List.length, Nat.reduceAdd, Nat.reduceSub, Nat.zero_add, List.replicate_succ, List.replicate_zero, List.map, List.cons_append, List.nil_append, List.append_eq, List.append] <;> exact rfl) | exact rfl) ?_)
    | (with_reducible refine Z.ws_if ?_)
    | (with_reducible refine Z.ws_ret ?_)
    | (with_reducible refine Z.ws_next ?_)
    | fail)
  | ((with_reducible show Z.Wt _ _ _ _ _); first
    | (with_reducible refine Z.wt_test ?_)
    | (with_reducible refine Z.wt_B ?_)
    | (with_reducible refine Z.wt_or ?_)
    | fail)
  | ((with_reducible show Z.Wg _ _ _ _ _ _ _); first
    | (with_reducible refine Z.wg_name ?_)
    | fail)
  | ((with_reducible show Exists _); first
    | (with_reducible refine Lw.row_fld (Lw.Tx.cl_Row (by assumption)) (Lw.Tx.na_Row_heights (by assumption)) (Lw.row_heights _) ?_)
    | (with_reducible refine Lw.row_fld (Lw.Tx.cl_Row (by assumption)) (Lw.Tx.na_Row_days (by assumption)) (Lw.row_days _) ?_)
    | (with_reducible refine Lw.row_fld (Lw.Tx.cl_Row (by assumption)) (Lw.Tx.na_Row_gains (by assumption)) (Lw.row_gains _) ?_)
    | (with_reducible refine Lw.row_fld (Lw.Tx.cl_Row (by assumption)) (Lw.Tx.na_Row_total (by assumption)) (Lw.row_total _) ?_)
    | (with_reducible refine Lw.row_meth ?_)
    | fail)
  | (with_reducible first
    | refine Z.bF (Z.nd_self _) ?_
    | refine Z.bT (Z.d_self _) ?_
    | refine Z.b1 ?_
    | refine Z.b0 ?_
    | refine Z.bN0 ?_
    | refine Z.bN1 ?_
    | refine Z.bF (Z.nd_of (by kpc_turns)) ?_
    | refine Z.bT (Z.d_of (by kpc_turns)) ?_
    | fail)
  | ((fail_if_success (with_reducible refine Z.spl ?_ ?_)); first
    | (refine ⟨Nat.le_of_ble_eq_true rfl, ?_⟩)
    | (refine ⟨_, rfl, ?_⟩)
    | (refine ⟨_, _, rfl, ?_⟩)
    | (refine ⟨_, _, _, rfl, ?_⟩)
    | (refine ⟨_, _, _, _, rfl, ?_⟩)
    | (refine ⟨(show (_ = _) by with_unfolding_all rfl), ?_⟩)
    | (refine ⟨⟨(show (_ = _) by with_unfolding_all rfl), (show (_ = _) by with_unfolding_all rfl)⟩, ?_⟩))
  | fail)
local macro_rules | `(tactic| kt_ors) => `(tactic| ((repeat mem_news); (try dsimp only); (try rfl)))
local macro_rules | `(tactic| leaf_len) => `(tactic| ((repeat' (first | (with_reducible first | refine Z.bF (Z.nd_self _) ?_ | refine Z.bT (Z.d_self _) ?_ | refine Z.b1 ?_ | refine Z.b0 ?_ | refine Z.bN0 ?_ | refine Z.bN1 ?_) | ((with_reducible refine Z.spl (fun hb => ?_) (fun hb => ?_)) <;> (try simp only [decide_eq_true_eq, decide_eq_false_iff_not, Bool.not_eq_true', Bool.not_eq_false', Bool.not_eq_true, Bool.not_eq_false] at hb)) | mem_news | fail)); (all_goals (try dsimp only)); (all_goals (try rfl))))

namespace Lw
open PySem L2
section
variable {P : Program} {w : World} {K : PySem.W.Frag} {mg : Str → Option Value} {base : Heap}
abbrev pm_Lsort_due (K : PySem.W.Frag) : Z.Pm (Int × Int) := Z.pmX (fun (a, b) => [.int a, .int b]) (fun _ => True) (fun (a, b) => .str (sortE a b))
theorem ok_Lsort_due (T : Tx K mg) : ∃ fd, Z.Gd P w K mg base CX0 1 d_Lsort_due ["_law_least", "_law_most"] (Z.spD K (pm_Lsort_due K)) fd := by
  obtain ⟨fd, F⟩ := T.d_Lsort_due
  refine ⟨fd, F.ok sc_Lsort_due (Z.spD_len fun _ => rfl) (fun cdv A outer s H vs Q EX hr h => ⟨_, PSs.nox (pss_cons (ps_if (PW.pt (pw_or (pt_cmpR op_gt (pv 0) pe_int (nomark _)) (pw_or1 (pt_cmpR op_lt (pv 1) pe_int (nomark _))))) (pss_one (ps_ret (pe_ifExp (pt_cmpR op_gt (pv 0) pe_int (nomark _)) pe_str pe_str))) pss_nil) (pss_one (ps_ret (pe_ifExp (pt_cmpR (op_eqD hr.units) (pv 0) (pv 1) (nomark _)) pe_str pe_str)))), Z.body h ?_⟩), F⟩
  rintro ⟨a, b⟩ F n cells hc hp
  dsimp only [cxOf, pm_Lsort_due, Z.pmX, List.map] at hp ⊢
  obtain ⟨rfl, -⟩ := hp
  unfold sortE
  leaf_len
  all_goals (simp_all <;> omega)
end
end Lw
end
section
local macro_rules | `(tactic| kfm_turns) => `(tactic| first | omega | (dsimp only [Z.env0, Z.Env.set, Z.Env.at, Z.Env.up]; omega) | (simp only [List.length_map, List.length_range, List.length_append, List.length_cons, List.length_nil, List.length_replicate, List.length_set, List.length_take, List.length_drop, List.length_reverse, List.length_zipWith, Z.zs_length, Z.rangeD_length, Int.natCast_add, Int.natCast_one, Int.natCast_zero, and_true, true_and, Int.toNat_natCast, Lw.hts_length, Lw.sumsL_length, Lw.wordsL_length]; omega) | (simp only [List.length_map, List.length_range, List.length_append, List.length_cons, List.length_nil, List.length_replicate, List.length_set, List.length_take, List.length_drop, List.length_reverse, List.length_zipWith, Z.zs_length, Z.rangeD_length, Int.natCast_add, Int.natCast_one, Int.natCast_zero, and_true, true_and, Int.toNat_natCast, Lw.hts_length, Lw.sumsL_length, Lw.wordsL_length] at *; omega))
local macro_rules | `(tactic| mem_news) => `(tactic| first
  | ((with_reducible show Z.We _ _ _ _ _); first
    | (with_reducible refine Z.we_fldS (by with_unfolding_all rfl) (Lw.Tx.cl_Row (by assumption)) (Lw.Tx.na_Row_heights (by assumption)) (by with_unfolding_all rfl) ?_)
    | (with_reducible refine Z.we_int ?_)
    | (with_reducible refine Z.we_var (by with_unfolding_all rfl) ?_)
    | (with_reducible refine Z.we_varF (by with_unfolding_all rfl) ?_)
    | (with_reducible refine Z.we_lenO (by with_unfolding_all rfl) ?_)
    | (with_reducible refine Z.we_sumO (by with_unfolding_all rfl) ?_)
    | (with_reducible refine Z.we_cb ?_)
    | (with_reducible refine Z.we_tup ?_)
    | (with_reducible refine Z.we_if ?_)
    | (with_reducible refine Z.we_ixO (by with_unfolding_all rfl) ?_)
    | (with_reducible refine Z.we_op ?_)
    | fail)
  | ((with_reducible show Z.Rop _ _ _ _ _ _ _); first
    | ((with_reducible refine Z.rop_ixT (by with_unfolding_all rfl) ?_))
    | (with_reducible refine Z.rop_add ?_)
    | (with_reducible refine Z.rop_catZ (by kfm_turns) ?_)
    | (with_reducible refine Z.rop_catTZ (by kfm_turns) ?_)
    | (with_reducible refine Z.rop_sub ?_)
    | (with_reducible refine Z.rop_lt ?_)
    | (with_reducible refine Z.rop_le ?_)
    | (with_reducible refine Z.rop_gt ?_)
    | (with_reducible refine Z.rop_ge ?_)
    | (with_reducible refine Z.rop_ixZ (by kfm_turns) (by kfm_turns) ?_)
    | (with_reducible refine Z.rop_ixZT (by kfm_turns) (by kfm_turns) ?_)
    | fail)
  | ((with_reducible show Z.Wa _ _ _ _ _); first
    | (with_reducible refine Z.wa_cons ?_)
    | (with_reducible refine Z.wa_nil ?_)
    | fail)
  | ((with_reducible show Z.Ws _ _ _ _ _); first
    | (with_reducible refine Z.ws_fld (by with_unfolding_all rfl) (Lw.Tx.cl_Row (by assumption)) (Lw.Tx.na_Row_gains (by assumption)) (by with_unfolding_all exact Nat.le_of_ble_eq_true rfl) ?_)
    | (with_reducible refine Z.ws_fld (by with_unfolding_all rfl) (Lw.Tx.cl_Row (by assumption)) (Lw.Tx.na_Row_heights (by assumption)) (by with_unfolding_all exact Nat.le_of_ble_eq_true rfl) ?_)
    | (with_reducible refine Z.ws_fld (by with_unfolding_all rfl) (Lw.Tx.cl_Row (by assumption)) (Lw.Tx.na_Row_days (by assumption)) (by with_unfolding_all exact Nat.le_of_ble_eq_true rfl) ?_)
    | (with_reducible refine Z.ws_fld (by with_unfolding_all rfl) (Lw.Tx.cl_Row (by assumption)) (Lw.Tx.na_Row_total (by assumption)) (by with_unfolding_all exact Nat.le_of_ble_eq_true rfl) ?_)
    | (with_reducible refine Z.ws_seqN (by first | (dsimp only [Z.env0, Lw.N_Lends, Z.heardX, Z.Env.set, Z.Env.at, Z.Env.up, List.set, List.length_cons, List.length_nil, List.length, Nat.reduceAdd, Nat.reduceSub, Nat.zero_add, List.replicate_succ, List.replicate_zero, List.map, List.cons_append, List.nil_append, List.append_eq, List.append] <;> exact rfl) | exact rfl) ?_)
    | (with_reducible refine Z.ws_par ?_)
    | (with_reducible refine Z.ws_par3 ?_)
    | (with_reducible refine Z.ws_ret ?_)
    | (with_reducible refine Z.ws_own (Z.wo_listRg ?_))
    | (with_reducible refine Z.ws_asg2 ?_)
    | (with_reducible refine Z.ws_unl2 ?_)
    | (with_reducible refine Z.ws_asg3 ?_)
    | (with_reducible refine Z.ws_asg4 ?_)
    | (with_reducible refine Z.ws_asgN ?_)
    | (with_reducible refine Z.ws_asg ?_)
    | (with_reducible refine Z.ws_next ?_)
    | fail)
  | ((with_reducible show Z.Rcb _ _ _ _ _ _); first
    | (with_reducible refine Z.rcb_sum ?_)
    | (with_reducible refine Z.rcb_lenZ ?_)
    | (with_reducible refine Z.rcb_lenZT ?_)
    | (with_reducible refine Z.rcb_lenSL ?_)
    | (with_reducible refine Z.rcb_lenST ?_)
    | (with_reducible refine Z.rcb_lenL ?_)
    | (with_reducible refine Z.rcb_lenT ?_)
    | fail)
  | ((with_reducible show Z.Wt _ _ _ _ _); first
    | (with_reducible refine Z.wt_test ?_)
    | (with_reducible refine Z.wt_B ?_)
    | fail)
  | ((with_reducible show Z.Wg _ _ _ _ _ _ _); first
    | (with_reducible refine Z.wg_name ?_)
    | fail)
  | ((with_reducible show Exists _); first
    | (with_reducible refine Lw.row_fld (Lw.Tx.cl_Row (by assumption)) (Lw.Tx.na_Row_heights (by assumption)) (Lw.row_heights _) ?_)
    | (with_reducible refine Lw.row_fld (Lw.Tx.cl_Row (by assumption)) (Lw.Tx.na_Row_days (by assumption)) (Lw.row_days _) ?_)
    | (with_reducible refine Lw.row_fld (Lw.Tx.cl_Row (by assumption)) (Lw.Tx.na_Row_gains (by assumption)) (Lw.row_gains _) ?_)
    | (with_reducible refine Lw.row_fld (Lw.Tx.cl_Row (by assumption)) (Lw.Tx.na_Row_total (by assumption)) (Lw.row_total _) ?_)
    | (with_reducible refine Lw.row_meth ?_)
    | fail)
  | ((with_reducible show Z.Wp _ _ _ _ _); (with_reducible first
    | refine Z.wp_none ?_
    | refine Z.wp_some ?_ | fail))
  | (with_reducible first
    | refine Z.bF (Z.nd_self _) ?_
    | refine Z.bT (Z.d_self _) ?_
    | refine Z.b1 ?_
    | refine Z.b0 ?_
    | refine Z.bN0 ?_
    | refine Z.bN1 ?_
    | refine Z.bF (Z.nd_of (by kpc_turns)) ?_
    | refine Z.bT (Z.d_of (by kpc_turns)) ?_
    | fail)
  | ((fail_if_success (with_reducible refine Z.spl ?_ ?_)); first
    | (refine ⟨Nat.le_of_ble_eq_true rfl, ?_⟩)
    | (refine ⟨_, rfl, ?_⟩)
    | (refine ⟨_, _, rfl, ?_⟩)
    | (refine ⟨_, _, _, rfl, ?_⟩)
    | (refine ⟨_, _, _, _, rfl, ?_⟩)
    | (refine ⟨(show (_ = _) by with_unfolding_all rfl), ?_⟩)
    | (refine ⟨⟨(show (_ = _) by with_unfolding_all rfl), (show (_ = _) by with_unfolding_all rfl)⟩, ?_⟩))
  | fail)
local macro_rules | `(tactic| kt_ors) => `(tactic| ((repeat mem_news); (try dsimp only); (try rfl)))
local macro_rules | `(tactic| leaf_len) => `(tactic| ((repeat' (first | (with_reducible first | refine Z.bF (Z.nd_self _) ?_ | refine Z.bT (Z.d_self _) ?_ | refine Z.b1 ?_ | refine Z.b0 ?_ | refine Z.bN0 ?_ | refine Z.bN1 ?_) | ((with_reducible refine Z.spl (fun hb => ?_) (fun hb => ?_)) <;> (try simp only [decide_eq_true_eq, decide_eq_false_iff_not, Bool.not_eq_true', Bool.not_eq_false', Bool.not_eq_true, Bool.not_eq_false] at hb)) | mem_news | fail)); (all_goals (try dsimp only)); (all_goals (try rfl))))

namespace Lw
open PySem L2
section
variable {P : Program} {w : World} {K : PySem.W.Frag} {mg : Str → Option Value} {base : Heap}
abbrev enD (e : En) : Z.D := .tup [.tup [.int e.lv, .int e.li], .tup [.int e.mv, .int e.mi], .int e.la, .int e.fa]
abbrev pm_Lends (K : PySem.W.Frag) : Z.Pm (List Int × Nat) := Z.pmX (fun (ns, l) => [.lst (Z.zs ns), .int l]) (fun (ns, l) => 1 ≤ l ∧ l ≤ ns.length ∧ ns.length ≤ 48) (fun (ns, l) => enD (endsF (sumsL ns l)))
theorem ok_Lends (T : Tx K mg) : ∃ fd, Z.Gd P w K mg base CX0 1 d_Lends ["_law_gains_here", "_law_length"] (Z.spD K (pm_Lends K)) fd := by
  obtain ⟨fd, F⟩ := T.d_Lends
  refine ⟨fd, F.ok sc_Lends (Z.spD_len fun _ => rfl) (fun cdv A outer s H vs Q EX hr h => ⟨_, PSs.nox (pss_cons (ps_set (i := 2) sc_Lends.nd rfl (Or.inl rfl) (pe_callB (cr_sum (by rfl)) (by rfl) T.f_sum (by decide +kernel) (pa_cons (pe_slice Z.sl_u (pv 0) po_none (po_some (pv 1))) pa_nil))) (pss_cons (ps_asg (pe_tup (pa_cons (pe_tup (pa_cons (pv 2) (pa_cons pe_int pa_nil))) (pa_cons (pe_tup (pa_cons (pv 2) (pa_cons pe_int pa_nil))) (pa_cons pe_int (pa_cons pe_int pa_nil))))) (pg_tup rfl (pgs_cons (pg_name (i := 3) sc_Lends.nd rfl (Or.inl rfl)) (pgs_cons (pg_name (i := 4) sc_Lends.nd rfl (Or.inl rfl)) (pgs_cons (pg_name (i := 5) sc_Lends.nd rfl (Or.inl rfl)) (pgs_cons (pg_name (i := 6) sc_Lends.nd rfl (Or.inl rfl)) pgs_nil)))))) (pss_cons (ps_for PassesOwn.never rfl (pi_range2 rfl T.f_range (pa_cons pe_int (pa_cons (pe_op Z.op_addU (pe_op op_sub (pe_callB call_len (by rfl) T.f_len (by decide +kernel) (pa_cons (pv 0) pa_nil)) (pv 1)) pe_int) pa_nil))) (pg_name (i := 7) sc_Lends.nd rfl (Or.inl rfl)) (pss_cons (ps_set (i := 2) sc_Lends.nd rfl (Or.inl rfl) (pe_op op_sub (pe_op Z.op_addU (pv 2) (pe_ix ix_seq (pv 0) (pe_op op_sub (pe_op Z.op_addU (pv 7) (pv 1)) pe_int) (fun _ _ => rfl))) (pe_ix ix_seq (pv 0) (pe_op op_sub (pv 7) pe_int) (fun _ _ => rfl)))) (pss_cons (ps_set (i := 5) sc_Lends.nd rfl (Or.inl rfl) (pe_ifExp (pt_cmpR op_le (pv 2) (pe_ix ix_seq (pv 3) pe_int (fun _ _ => rfl)) (nomark _)) (pv 7) (pv 5))) (pss_cons (ps_set (i := 6) sc_Lends.nd rfl (Or.inl rfl) (pe_ifExp (pt_cmpR op_ge (pv 2) (pe_ix ix_seq (pv 4) pe_int (fun _ _ => rfl)) (nomark _)) (pv 7) (pv 6))) (pss_cons (ps_set (i := 3) sc_Lends.nd rfl (Or.inl rfl) (pe_ifExp (pt_cmpR op_lt (pv 2) (pe_ix ix_seq (pv 3) pe_int (fun _ _ => rfl)) (nomark _)) (pe_tup (pa_cons (pv 2) (pa_cons (pv 7) pa_nil))) (pv 3))) (pss_one (ps_set (i := 4) sc_Lends.nd rfl (Or.inl rfl) (pe_ifExp (pt_cmpR op_gt (pv 2) (pe_ix ix_seq (pv 4) pe_int (fun _ _ => rfl)) (nomark _)) (pe_tup (pa_cons (pv 2) (pa_cons (pv 7) pa_nil))) (pv 4))))))))) (pss_one (ps_ret (pe_tup (pa_cons (pv 3) (pa_cons (pv 4) (pa_cons (pv 5) (pa_cons (pv 6) pa_nil)))))))))), Z.body h ?_⟩), F⟩
  rintro ⟨ns, l⟩ F n cells hc hp
  dsimp only [cxOf, pm_Lends, Z.pmX, List.map] at hp ⊢
  obtain ⟨rfl, h1, h2, h3⟩ := hp
  kt_ors
  refine Z.we_slPL l ?_
  kt_ors
  refine ⟨⟨rfl, h2⟩, ?_⟩
  kt_ors
  have hS0 : (sumsL ns l).headD 0 = ssum ns 0 l := by
    have q := sumsL_get (ns := ns) (l := l) (i := 0) (by omega)
    cases hS : sumsL ns l with
    | nil => rw [hS] at q; cases q
    | cons a r => rw [hS] at q; exact Option.some.inj q
  have hsl := sumsL_length ns l
  rw [show (ns.take l).sum = ssum ns 0 l from rfl]
  refine Z.ws_for (js := [7]) (Z.wi_r2 ?_)
  kt_ors
  refine ⟨by omega, fun i E' => ∃ v, E' = ⟨[.d (.lst (Z.zs ns)), .d (.int l), .d (.int (ssum ns i l)), .d (.tup [.int (endsT (sumsL ns l) i).lv, .int (endsT (sumsL ns l) i).li]), .d (.tup [.int (endsT (sumsL ns l) i).mv, .int (endsT (sumsL ns l) i).mi]), .d (.int (endsT (sumsL ns l) i).la), .d (.int (endsT (sumsL ns l) i).fa), v], n⟩, ⟨.no, ?_⟩, ?_, ?_⟩
  · show Z.Env.mk _ _ = Z.Env.mk _ _
    unfold endsT
    rw [hS0]
    rfl
  · rintro i d _ hd ⟨v, rfl⟩
    obtain ⟨hi, rfl⟩ := Z.rg_get hd
    have hi2 : i + l < ns.length := by omega
    have hst : endsT (sumsL ns l) (i + 1) = stepE (endsT (sumsL ns l) i) (i + 1) (ssum ns (i + 1) l) := by
      show stepE _ _ ((sumsL ns l).getD (i + 1) 0) = _
      rw [List.getD_eq_getElem?_getD, sumsL_get (by omega)]
      rfl
    generalize endsT (sumsL ns l) i = e at hst ⊢
    have hss : ssum ns i l + Z.gi ns (((i + 1 : Nat) : Int) + l - 1) - Z.gi ns (((i + 1 : Nat) : Int) - 1) = ssum ns (i + 1) l := by
      have a1 := Z.gi_get (ns := ns) (i := ((i + 1 : Nat) : Int) + l - 1) (by omega) (by omega)
      have a2 := Z.gi_get (ns := ns) (i := ((i + 1 : Nat) : Int) - 1) (by omega) (by omega)
      rw [show (((i + 1 : Nat) : Int) + l - 1).toNat = i + l by omega] at a1
      rw [show (((i + 1 : Nat) : Int) - 1).toNat = i by omega] at a2
      have := ssum_step a1 a2
      omega
    refine Z.wg_name ?_
    rw [show (1 + (i : Int)) = ((i + 1 : Nat) : Int) by omega]
    refine Z.ws_cut (fun E' => E' = ⟨[.d (.lst (Z.zs ns)), .d (.int l), .d (.int (ssum ns (i + 1) l)), .d (.tup [.int e.lv, .int e.li]), .d (.tup [.int e.mv, .int e.mi]), .d (.int e.la), .d (.int e.fa), .d (.int (i + 1 : Nat))], n⟩) ?_ ?_
    · kt_ors
      rw [hss]
      rfl
    rintro _ rfl
    obtain ⟨s, hs⟩ : ∃ s, ssum ns (i + 1) l = s := ⟨_, rfl⟩
    rw [hs] at hst ⊢
    refine Z.ws_cut (fun E' => E' = ⟨[.d (.lst (Z.zs ns)), .d (.int l), .d (.int s), .d (.tup [.int e.lv, .int e.li]), .d (.tup [.int e.mv, .int e.mi]), .d (.int ((if s ≤ e.lv then i + 1 else e.la : Nat) : Int)), .d (.int e.fa), .d (.int (i + 1 : Nat))], n⟩) ?_ ?_
    · leaf_len
      · rw [if_pos (by assumption)]; rfl
      · rw [if_neg (by assumption)]; rfl
    rintro _ rfl
    refine Z.ws_cut (fun E' => E' = ⟨[.d (.lst (Z.zs ns)), .d (.int l), .d (.int s), .d (.tup [.int e.lv, .int e.li]), .d (.tup [.int e.mv, .int e.mi]), .d (.int ((if s ≤ e.lv then i + 1 else e.la : Nat) : Int)), .d (.int ((if e.mv ≤ s then i + 1 else e.fa : Nat) : Int)), .d (.int (i + 1 : Nat))], n⟩) ?_ ?_
    · leaf_len
      · rw [if_pos (c := e.mv ≤ s) (by assumption)]; rfl
      · rw [if_neg (c := e.mv ≤ s) (by assumption)]; rfl
    rintro _ rfl
    refine Z.ws_cut (fun E' => E' = ⟨[.d (.lst (Z.zs ns)), .d (.int l), .d (.int s), .d (.tup [.int (if s < e.lv then s else e.lv), .int ((if s < e.lv then i + 1 else e.li : Nat) : Int)]), .d (.tup [.int e.mv, .int e.mi]), .d (.int ((if s ≤ e.lv then i + 1 else e.la : Nat) : Int)), .d (.int ((if e.mv ≤ s then i + 1 else e.fa : Nat) : Int)), .d (.int (i + 1 : Nat))], n⟩) ?_ ?_
    · leaf_len
      · rw [if_pos (c := s < e.lv) (by assumption), if_pos (c := s < e.lv) (by assumption)]; rfl
      · rw [if_neg (c := s < e.lv) (by assumption), if_neg (c := s < e.lv) (by assumption)]; rfl
    rintro _ rfl
    leaf_len
    · refine ⟨.d (.int (i + 1 : Nat)), ?_⟩
      rw [hst, hs]
      unfold stepE
      dsimp only
      rw [if_pos (c := e.mv < s) (by assumption), if_pos (c := e.mv < s) (by assumption)]
      rfl
    · refine ⟨.d (.int (i + 1 : Nat)), ?_⟩
      rw [hst, hs]
      unfold stepE
      dsimp only
      rw [if_neg (c := e.mv < s) (by assumption), if_neg (c := e.mv < s) (by assumption)]
      rfl
  · rintro _ ⟨v, rfl⟩
    rw [Z.rangeD_length]
    rw [show ((ns.length : Int) - l + 1 - 1).toNat = (sumsL ns l).length - 1 by omega]
    kt_ors
end
end Lw
end
section
local macro_rules | `(tactic| kfm_turns) => `(tactic| first | omega | (dsimp only [Z.env0, Z.Env.set, Z.Env.at, Z.Env.up]; omega) | (simp only [List.length_map, List.length_range, List.length_append, List.length_cons, List.length_nil, List.length_replicate, List.length_set, List.length_take, List.length_drop, List.length_reverse, List.length_zipWith, Z.zs_length, Z.rangeD_length, Int.natCast_add, Int.natCast_one, Int.natCast_zero, and_true, true_and, Int.toNat_natCast, Lw.hts_length, Lw.sumsL_length, Lw.wordsL_length]; omega) | (simp only [List.length_map, List.length_range, List.length_append, List.length_cons, List.length_nil, List.length_replicate, List.length_set, List.length_take, List.length_drop, List.length_reverse, List.length_zipWith, Z.zs_length, Z.rangeD_length, Int.natCast_add, Int.natCast_one, Int.natCast_zero, and_true, true_and, Int.toNat_natCast, Lw.hts_length, Lw.sumsL_length, Lw.wordsL_length] at *; omega))
local macro_rules | `(tactic| mem_news) => `(tactic| first
  | ((with_reducible show Z.We _ _ _ _ _); first
    | ((with_reducible refine Z.we_tap0 rfl (by with_unfolding_all rfl) ?_))
    | (((with_reducible refine Z.we_tap1 rfl (by with_unfolding_all rfl) ?_); intro tapAt tapAt0 tapAtN))
    | (((with_reducible refine Z.we_tap2 rfl (by with_unfolding_all rfl) ?_); intro tapLeft tapLeft0))
    | (with_reducible refine Z.we_fldS (by with_unfolding_all rfl) (Lw.Tx.cl_Row (by assumption)) (Lw.Tx.na_Row_heights (by assumption)) (by with_unfolding_all rfl) ?_)
    | (with_reducible refine Z.we_int ?_)
    | (with_reducible refine Z.we_var (by with_unfolding_all rfl) ?_)
    | (with_reducible refine Z.we_varF (by with_unfolding_all rfl) ?_)
    | (with_reducible refine Z.we_ty ?_)
    | (with_reducible refine Z.we_lenO (by with_unfolding_all rfl) ?_)
    | (with_reducible refine Z.we_cb ?_)
    | (with_reducible refine Z.we_andV ?_)
    | (with_reducible refine Z.we_of (Z.wo_lst ?_))
    | (with_reducible refine Z.we_ixO (by with_unfolding_all rfl) ?_)
    | (with_reducible refine Z.we_op ?_)
    | fail)
  | ((with_reducible show Z.Rop _ _ _ _ _ _ _); first
    | ((with_reducible refine Z.rop_mod (by first | assumption | omega) ?_))
    | ((with_reducible refine Z.rop_div (by omega) (by omega) ?_))
    | ((with_reducible refine Z.rop_mulL (by omega) ?_))
    | ((with_reducible refine Z.rop_mulR (by omega) ?_))
    | ((with_reducible refine Z.rop_pow (by omega) (Z.mix_boundG (Int.emod_nonneg _ (by omega)) (Int.lt_of_lt_of_le (Int.emod_lt_of_pos _ (by omega)) (by omega)) (by omega) (by omega) (by omega) (by omega) (by omega)) ?_))
    | ((with_reducible refine Z.rop_pow (by omega) (by omega) ?_))
    | (with_reducible refine Z.rop_add ?_)
    | (with_reducible refine Z.rop_catZ (by kfm_turns) ?_)
    | (with_reducible refine Z.rop_catTZ (by kfm_turns) ?_)
    | (with_reducible refine Z.rop_sub ?_)
    | (with_reducible refine Z.rop_lt ?_)
    | (with_reducible refine Z.rop_gt ?_)
    | (with_reducible refine Z.rop_ge ?_)
    | (with_reducible refine Z.rop_neI ?_)
    | (with_reducible refine Z.rop_ixZ (by kfm_turns) (by kfm_turns) ?_)
    | (with_reducible refine Z.rop_ixZT (by kfm_turns) (by kfm_turns) ?_)
    | (with_reducible refine Z.rop_neNil ?_)
    | (with_reducible refine Z.rop_neB ?_)
    | (with_reducible refine Z.rop_neP ?_)
    | (with_reducible refine Z.rop_neZT ?_)
    | (with_reducible refine Z.rop_neZL ?_)
    | (with_reducible refine Z.rop_neZL0 ?_)
    | (with_reducible refine Z.rop_pow (by omega) (by omega) ?_)
    | (with_reducible refine Z.rop_mod (by first | assumption | omega) ?_)
    | (with_reducible refine Z.rop_div (by omega) (by omega) ?_)
    | (with_reducible refine Z.rop_mulL (by omega) ?_)
    | (with_reducible refine Z.rop_mulR (by omega) ?_)
    | (with_reducible refine Z.rop_repZ (by kfm_turns) ?_)
    | (with_reducible refine Z.rop_repTZ (by kfm_turns) ?_)
    | fail)
  | ((with_reducible show Z.Wa _ _ _ _ _); first
    | (with_reducible refine Z.wa_cons ?_)
    | (with_reducible refine Z.wa_nil ?_)
    | fail)
  | ((with_reducible show Z.Ws _ _ _ _ _); first
    | ((with_reducible refine Z.ws_tap1 rfl ?_))
    | ((with_reducible refine Z.ws_tap2 rfl ?_))
    | (with_reducible refine Z.ws_fld (by with_unfolding_all rfl) (Lw.Tx.cl_Row (by assumption)) (Lw.Tx.na_Row_gains (by assumption)) (by with_unfolding_all exact Nat.le_of_ble_eq_true rfl) ?_)
    | (with_reducible refine Z.ws_fld (by with_unfolding_all rfl) (Lw.Tx.cl_Row (by assumption)) (Lw.Tx.na_Row_heights (by assumption)) (by with_unfolding_all exact Nat.le_of_ble_eq_true rfl) ?_)
    | (with_reducible refine Z.ws_fld (by with_unfolding_all rfl) (Lw.Tx.cl_Row (by assumption)) (Lw.Tx.na_Row_days (by assumption)) (by with_unfolding_all exact Nat.le_of_ble_eq_true rfl) ?_)
    | (with_reducible refine Z.ws_fld (by with_unfolding_all rfl) (Lw.Tx.cl_Row (by assumption)) (Lw.Tx.na_Row_total (by assumption)) (by with_unfolding_all exact Nat.le_of_ble_eq_true rfl) ?_)
    | (with_reducible refine Z.ws_seqN (by first | (dsimp only [Z.env0, Lw.N_Ldrip, Z.heardX, Z.Env.set, Z.Env.at, Z.Env.up, List.set, List.length_cons, List.length_nil, List.length, Nat.reduceAdd, Nat.reduceSub, Nat.zero_add, List.replicate_succ, List.replicate_zero, List.map, List.cons_append, List.nil_append, List.append_eq, List.append] <;> exact rfl) | exact rfl) ?_)
    | (with_reducible refine Z.ws_if ?_)
    | (with_reducible refine Z.ws_ret ?_)
    | (with_reducible refine Z.ws_own (Z.wo_lst ?_))
    | (with_reducible refine Z.ws_set (by with_unfolding_all rfl) ?_)
    | (with_reducible refine Z.ws_asgN ?_)
    | (with_reducible refine Z.ws_asg ?_)
    | (with_reducible refine Z.ws_next ?_)
    | fail)
  | ((with_reducible show Z.Rcb _ _ _ _ _ _); first
    | (with_reducible refine Z.rcb_int ?_)
    | (with_reducible refine Z.rcb_intB ?_)
    | (with_reducible refine Z.rcb_abs ?_)
    | (with_reducible refine Z.rcb_lenZ ?_)
    | (with_reducible refine Z.rcb_lenZT ?_)
    | (with_reducible refine Z.rcb_lenSL ?_)
    | (with_reducible refine Z.rcb_lenST ?_)
    | (with_reducible refine Z.rcb_lenL ?_)
    | (with_reducible refine Z.rcb_lenT ?_)
    | (with_reducible refine Z.isi_int_int ?_)
    | (with_reducible refine Z.isi_bl_int ?_)
    | (with_reducible refine Z.isi_str_int ?_)
    | (with_reducible refine Z.isi_lst_int ?_)
    | (with_reducible refine Z.isi_tup_int ?_)
    | (with_reducible refine Z.isi_non_int ?_)
    | fail)
  | ((with_reducible show Z.Wt _ _ _ _ _); first
    | (with_reducible refine Z.wt_test ?_)
    | (with_reducible refine Z.wt_B ?_)
    | (with_reducible refine Z.wt_and ?_)
    | fail)
  | ((with_reducible show Z.Wg _ _ _ _ _ _ _); first
    | (with_reducible refine Z.wg_name ?_)
    | fail)
  | ((with_reducible show Exists _); first
    | (with_reducible refine Lw.row_fld (Lw.Tx.cl_Row (by assumption)) (Lw.Tx.na_Row_heights (by assumption)) (Lw.row_heights _) ?_)
    | (with_reducible refine Lw.row_fld (Lw.Tx.cl_Row (by assumption)) (Lw.Tx.na_Row_days (by assumption)) (Lw.row_days _) ?_)
    | (with_reducible refine Lw.row_fld (Lw.Tx.cl_Row (by assumption)) (Lw.Tx.na_Row_gains (by assumption)) (Lw.row_gains _) ?_)
    | (with_reducible refine Lw.row_fld (Lw.Tx.cl_Row (by assumption)) (Lw.Tx.na_Row_total (by assumption)) (Lw.row_total _) ?_)
    | (with_reducible refine Lw.row_meth ?_)
    | fail)
  | (with_reducible first
    | refine Z.bF (Z.nd_self _) ?_
    | refine Z.bT (Z.d_self _) ?_
    | refine Z.b1 ?_
    | refine Z.b0 ?_
    | refine Z.bN0 ?_
    | refine Z.bN1 ?_
    | refine Z.bF (Z.nd_of (by kpc_turns)) ?_
    | refine Z.bT (Z.d_of (by kpc_turns)) ?_
    | fail)
  | ((fail_if_success (with_reducible refine Z.spl ?_ ?_)); first
    | (refine ⟨Nat.le_of_ble_eq_true rfl, ?_⟩)
    | (refine ⟨_, rfl, ?_⟩)
    | (refine ⟨_, _, rfl, ?_⟩)
    | (refine ⟨_, _, _, rfl, ?_⟩)
    | (refine ⟨_, _, _, _, rfl, ?_⟩)
    | (refine ⟨(show (_ = _) by with_unfolding_all rfl), ?_⟩)
    | (refine ⟨⟨(show (_ = _) by with_unfolding_all rfl), (show (_ = _) by with_unfolding_all rfl)⟩, ?_⟩))
  | fail)
local macro_rules | `(tactic| kt_ors) => `(tactic| ((repeat mem_news); (try dsimp only); (try rfl)))
local macro_rules | `(tactic| leaf_len) => `(tactic| ((repeat' (first | (with_reducible first | refine Z.bF (Z.nd_self _) ?_ | refine Z.bT (Z.d_self _) ?_ | refine Z.b1 ?_ | refine Z.b0 ?_ | refine Z.bN0 ?_ | refine Z.bN1 ?_) | ((with_reducible refine Z.spl (fun hb => ?_) (fun hb => ?_)) <;> (try simp only [decide_eq_true_eq, decide_eq_false_iff_not, Bool.not_eq_true', Bool.not_eq_false', Bool.not_eq_true, Bool.not_eq_false] at hb)) | mem_news | fail)); (all_goals (try dsimp only)); (all_goals (try rfl))))

namespace Lw
open PySem L2
section
variable {P : Program} {w : World} {K : PySem.W.Frag} {mg : Str → Option Value} {base : Heap}
abbrev pm_Ldrip (K : PySem.W.Frag) : Z.Pm (Int × Addr) := Z.pmT 1 (fun i t => [.ad t, .int i]) (fun i => 1 ≤ i ∧ i ≤ 1000000) (fun i d => ∃ j : Int, d = .int j ∧ 0 ≤ j ∧ j < i)
theorem ok_Ldrip (T : Tx K mg) : ∃ fd, Z.Gd P w K mg base CX0 1 d_Ldrip ["_law_tap_here", "_law_many"] (Z.spD K (pm_Ldrip K)) fd := by
  obtain ⟨fd, F⟩ := T.d_Ldrip
  refine ⟨fd, F.ok sc_Ldrip (Z.spD_len fun _ => rfl) (fun cdv A outer s H vs Q EX hr h => ⟨_, PSs.nox (pss_cons (ps_if (pt_cmpR op_gt (pe_ix ix_seq (pv 0) pe_int (fun _ _ => rfl)) pe_int (nomark _)) (pss_cons (ps_set (i := 2) sc_Ldrip.nd rfl (Or.inl rfl) (pe_op op_modN (pe_callTy Z.call_intU (by rfl) T.f_int (by decide +kernel) (pa_cons (pe_ix ix_seq (pv 0) pe_int (fun _ _ => rfl)) pa_nil)) (pv 1))) (pss_cons (ps_asg (pe_op Z.op_divU (pe_callTy Z.call_intU (by rfl) T.f_int (by decide +kernel) (pa_cons (pe_ix ix_seq (pv 0) pe_int (fun _ _ => rfl)) pa_nil)) (pv 1)) (pg_sub (pv 0) pe_int set_list)) (pss_one (ps_ret (pv 2))))) pss_nil) (pss_cons (ps_set (i := 3) sc_Ldrip.nd rfl (Or.inl rfl) (pe_ix ix_seq (pv 0) pe_int (fun _ _ => rfl))) (pss_cons (ps_asg (pe_op Z.op_addU (pv 3) pe_int) (pg_sub (pv 0) pe_int set_list)) (pss_cons (ps_set (i := 4) sc_Ldrip.nd rfl (Or.inl rfl) (pe_op Z.op_addU (pe_op Z.op_mulU pe_int (pv 3)) pe_int)) (pss_cons (ps_if (pt_cmpR (op_neD hr.units) (pe_ix ix_seq (pv 0) pe_int (fun _ _ => rfl)) (pe_lst pa_nil) (nomark _)) (pss_one (ps_set (i := 4) sc_Ldrip.nd rfl (Or.inl rfl) (pe_ix ix_seq (pe_ix ix_seq (pv 0) pe_int (fun _ _ => rfl)) (pe_op op_modN (pe_callTy Z.call_intU (by rfl) T.f_int (by decide +kernel) (pa_cons (pv 3) pa_nil)) (pe_callB call_len (by rfl) T.f_len (by decide +kernel) (pa_cons (pe_ix ix_seq (pv 0) pe_int (fun _ _ => rfl)) pa_nil))) (fun _ _ => rfl)))) pss_nil) (pss_cons (ps_if (PW.pt (pw_and (pt_cmpR op_lt (pv 3) (pe_callB call_len (by rfl) T.f_len (by decide +kernel) (pa_cons (pe_ix ix_seq (pv 0) pe_int (fun _ _ => rfl)) pa_nil)) (nomark _)) (pw_and1 (pt_cmpR op_ge (pe_callB call_abs (by rfl) T.f_abs (by decide +kernel) (pa_cons (pv 4) pa_nil)) (pe_op op_pow pe_int pe_int) (nomark _))))) (pss_cons (ps_set (i := 5) sc_Ldrip.nd rfl (Or.inl rfl) (pe_op Z.op_addU (pe_op Z.op_mulU pe_int (pe_op op_sub (pe_callB call_abs (by rfl) T.f_abs (by decide +kernel) (pa_cons (pv 4) pa_nil)) (pe_op op_pow pe_int pe_int))) (pe_callTy Z.call_intU (by rfl) T.f_int (by decide +kernel) (pa_cons (pe_cmpR op_lt (pv 4) pe_int (nomark _)) pa_nil)))) (pss_cons (ps_asg (pe_op Z.op_divU (pe_callTy Z.call_intU (by rfl) T.f_int (by decide +kernel) (pa_cons (pv 5) pa_nil)) (pv 1)) (pg_sub (pv 0) pe_int set_list)) (pss_one (ps_ret (pe_op op_modN (pe_callTy Z.call_intU (by rfl) T.f_int (by decide +kernel) (pa_cons (pv 5) pa_nil)) (pv 1)))))) pss_nil) (pss_cons (ps_set (i := 6) sc_Ldrip.nd rfl (Or.inl rfl) (pe_op op_modN (pe_callTy Z.call_intU (by rfl) T.f_int (by decide +kernel) (pa_cons (pe_op op_pow (pe_op Z.op_addU (pe_op Z.op_addU (pe_op op_modN (pe_callTy Z.call_intU (by rfl) T.f_int (by decide +kernel) (pa_cons (pv 4) pa_nil)) pe_int) (pe_op Z.op_mulU pe_int (pv 3))) pe_int) pe_int) pa_nil)) pe_int)) (pss_cons (ps_set (i := 6) sc_Ldrip.nd rfl (Or.inl rfl) (pe_op op_modN (pe_callTy Z.call_intU (by rfl) T.f_int (by decide +kernel) (pa_cons (pe_op op_pow (pe_op Z.op_addU (pe_op Z.op_addU (pe_op Z.op_mulU (pv 6) (pe_op Z.op_addU (pe_op Z.op_mulU pe_int (pv 3)) pe_int)) (pe_op Z.op_mulU (pe_op Z.op_mulU pe_int (pv 3)) (pv 3))) pe_int) pe_int) pa_nil)) pe_int)) (pss_one (ps_ret (pe_op op_modN (pe_callTy Z.call_intU (by rfl) T.f_int (by decide +kernel) (pa_cons (pe_op Z.op_divU (pv 6) pe_int) pa_nil)) (pv 1)))))))))))), Z.body h ?_⟩), F⟩
  rintro ⟨i, t⟩ F n cells hc hp
  dsimp only [cxOf, pm_Ldrip, Z.pmT] at hp ⊢
  obtain ⟨rfl, hn, h1, h2⟩ := hp
  kt_ors
  refine ⟨fun hb => ?_, fun hb => ?_⟩
  · refine Z.ws_more (n := n + 1) (Nat.le_succ _) ?_
    kt_ors
    refine ⟨Int.ediv_nonneg (by assumption) (by omega), ?_⟩
    kt_ors
    exact ⟨Int.emod_nonneg _ (by omega), Int.emod_lt_of_pos _ (by omega)⟩
  · kt_ors
    rename_i spot spot0 spotN
    have spotM : spot ≤ (n : Int) := spotN
    refine ⟨_, n + 1, rfl, by omega, by omega, ?_⟩
    kt_ors
    refine ⟨fun hb2 => ?_, fun hb2 => ?_⟩
    · have hl : 0 < cells.length := by
        rw [Bool.not_eq_true', decide_eq_false_iff_not] at hb2
        exact List.length_pos_iff.mpr hb2
      have hl' : (0 : Int) < (cells.length : Int) := Int.ofNat_lt.mpr hl
      kt_ors
      obtain ⟨cell, hcell⟩ := Z.mod_at (ns := cells) (i := spot) hl
      refine Z.rop_ixL hcell ?_
      leaf_len
      all_goals first
        | exact ⟨Int.emod_nonneg _ (by omega), Int.emod_lt_of_pos _ (by omega)⟩
        | refine ⟨Int.ediv_nonneg (Z.great_ok (by assumption)) (by omega), ?_⟩
      kt_ors
      exact ⟨Int.emod_nonneg _ (by omega), Int.emod_lt_of_pos _ (by omega)⟩
    · leaf_len
      all_goals first
        | exact ⟨Int.emod_nonneg _ (by omega), Int.emod_lt_of_pos _ (by omega)⟩
        | refine ⟨Int.ediv_nonneg (Z.great_ok (by assumption)) (by omega), ?_⟩
      kt_ors
      exact ⟨Int.emod_nonneg _ (by omega), Int.emod_lt_of_pos _ (by omega)⟩
end
end Lw
end
section
local macro_rules | `(tactic| kfm_turns) => `(tactic| first | omega | (dsimp only [Z.env0, Z.Env.set, Z.Env.at, Z.Env.up]; omega) | (simp only [List.length_map, List.length_range, List.length_append, List.length_cons, List.length_nil, List.length_replicate, List.length_set, List.length_take, List.length_drop, List.length_reverse, List.length_zipWith, Z.zs_length, Z.rangeD_length, Int.natCast_add, Int.natCast_one, Int.natCast_zero, and_true, true_and, Int.toNat_natCast, Lw.hts_length, Lw.sumsL_length, Lw.wordsL_length]; omega) | (simp only [List.length_map, List.length_range, List.length_append, List.length_cons, List.length_nil, List.length_replicate, List.length_set, List.length_take, List.length_drop, List.length_reverse, List.length_zipWith, Z.zs_length, Z.rangeD_length, Int.natCast_add, Int.natCast_one, Int.natCast_zero, and_true, true_and, Int.toNat_natCast, Lw.hts_length, Lw.sumsL_length, Lw.wordsL_length] at *; omega))
local macro_rules | `(tactic| mem_news) => `(tactic| first
  | ((with_reducible show Z.Called _ _ _ _ _ _ _); first
    | (((with_reducible show Z.Called (Lw.pm_Ldrip _) _ _ _ _ _ _); refine Z.called_T _ rfl (by with_unfolding_all rfl) ?_ ?hp_Ldrip ?hn_Ldrip; rotate_left 1; (try (omega)); (try (first | omega | (dsimp only [Z.env0, Z.Env.set, Z.Env.at, Z.Env.up]; omega))); rotate_right 1; (rintro _ ⟨drawn, drawnE, drawn0, drawn1⟩; subst drawnE)))
    | fail)
  | ((with_reducible show Z.We _ _ _ _ _); first
    | (with_reducible refine Z.we_fldS (by with_unfolding_all rfl) (Lw.Tx.cl_Row (by assumption)) (Lw.Tx.na_Row_heights (by assumption)) (by with_unfolding_all rfl) ?_)
    | (with_reducible refine Z.we_var (by with_unfolding_all rfl) ?_)
    | (with_reducible refine Z.we_varF (by with_unfolding_all rfl) ?_)
    | (with_reducible refine Z.we_lenO (by with_unfolding_all rfl) ?_)
    | (with_reducible refine Z.we_cb ?_)
    | (with_reducible refine Z.we_call (dds := []) (fun _ => .nil) ?_)
    | (with_reducible refine Z.we_call (dds := [.non, .non]) (fun _ => .cons .non (.cons .non .nil)) ?_)
    | (with_reducible refine Z.we_call (dds := [.non]) (fun _ => .cons .non .nil) ?_)
    | (with_reducible refine Z.we_ixO (by with_unfolding_all rfl) ?_)
    | (with_reducible refine Z.we_op ?_)
    | fail)
  | ((with_reducible show Z.Rop _ _ _ _ _ _ _); first
    | (with_reducible refine Z.rop_ixZ (by kfm_turns) (by kfm_turns) ?_)
    | (with_reducible refine Z.rop_ixZT (by kfm_turns) (by kfm_turns) ?_)
    | fail)
  | ((with_reducible show Z.Wa _ _ _ _ _); first
    | (with_reducible refine Z.wa_cons ?_)
    | (with_reducible refine Z.wa_nil ?_)
    | fail)
  | ((with_reducible show Z.Ws _ _ _ _ _); first
    | (with_reducible refine Z.ws_fld (by with_unfolding_all rfl) (Lw.Tx.cl_Row (by assumption)) (Lw.Tx.na_Row_gains (by assumption)) (by with_unfolding_all exact Nat.le_of_ble_eq_true rfl) ?_)
    | (with_reducible refine Z.ws_fld (by with_unfolding_all rfl) (Lw.Tx.cl_Row (by assumption)) (Lw.Tx.na_Row_heights (by assumption)) (by with_unfolding_all exact Nat.le_of_ble_eq_true rfl) ?_)
    | (with_reducible refine Z.ws_fld (by with_unfolding_all rfl) (Lw.Tx.cl_Row (by assumption)) (Lw.Tx.na_Row_days (by assumption)) (by with_unfolding_all exact Nat.le_of_ble_eq_true rfl) ?_)
    | (with_reducible refine Z.ws_fld (by with_unfolding_all rfl) (Lw.Tx.cl_Row (by assumption)) (Lw.Tx.na_Row_total (by assumption)) (by with_unfolding_all exact Nat.le_of_ble_eq_true rfl) ?_)
    | (with_reducible refine Z.ws_seqN (by first | (dsimp only [Z.env0, Lw.N_Lany, Z.heardX, Z.Env.set, Z.Env.at, Z.Env.up, List.set, List.length_cons, List.length_nil, List.length, Nat.reduceAdd, Nat.reduceSub, Nat.zero_add, List.replicate_succ, List.replicate_zero, List.map, List.cons_append, List.nil_append, List.append_eq, List.append] <;> exact rfl) | exact rfl) ?_)
    | (with_reducible refine Z.ws_ret ?_)
    | (with_reducible refine Z.ws_next ?_)
    | fail)
  | ((with_reducible show Z.Rcb _ _ _ _ _ _); first
    | (with_reducible refine Z.rcb_lenZ ?_)
    | (with_reducible refine Z.rcb_lenZT ?_)
    | (with_reducible refine Z.rcb_lenSL ?_)
    | (with_reducible refine Z.rcb_lenST ?_)
    | (with_reducible refine Z.rcb_lenL ?_)
    | (with_reducible refine Z.rcb_lenT ?_)
    | fail)
  | ((with_reducible show Z.Wt _ _ _ _ _); first
    | (with_reducible refine Z.wt_test ?_)
    | (with_reducible refine Z.wt_B ?_)
    | fail)
  | ((with_reducible show Z.Wg _ _ _ _ _ _ _); first
    | (with_reducible refine Z.wg_name ?_)
    | fail)
  | ((with_reducible show Exists _); first
    | (with_reducible refine Lw.row_fld (Lw.Tx.cl_Row (by assumption)) (Lw.Tx.na_Row_heights (by assumption)) (Lw.row_heights _) ?_)
    | (with_reducible refine Lw.row_fld (Lw.Tx.cl_Row (by assumption)) (Lw.Tx.na_Row_days (by assumption)) (Lw.row_days _) ?_)
    | (with_reducible refine Lw.row_fld (Lw.Tx.cl_Row (by assumption)) (Lw.Tx.na_Row_gains (by assumption)) (Lw.row_gains _) ?_)
    | (with_reducible refine Lw.row_fld (Lw.Tx.cl_Row (by assumption)) (Lw.Tx.na_Row_total (by assumption)) (Lw.row_total _) ?_)
    | (with_reducible refine Lw.row_meth ?_)
    | fail)
  | (with_reducible first
    | refine Z.bF (Z.nd_self _) ?_
    | refine Z.bT (Z.d_self _) ?_
    | refine Z.b1 ?_
    | refine Z.b0 ?_
    | refine Z.bN0 ?_
    | refine Z.bN1 ?_
    | refine Z.bF (Z.nd_of (by kpc_turns)) ?_
    | refine Z.bT (Z.d_of (by kpc_turns)) ?_
    | fail)
  | ((fail_if_success (with_reducible refine Z.spl ?_ ?_)); first
    | (refine ⟨Nat.le_of_ble_eq_true rfl, ?_⟩)
    | (refine ⟨_, rfl, ?_⟩)
    | (refine ⟨_, _, rfl, ?_⟩)
    | (refine ⟨_, _, _, rfl, ?_⟩)
    | (refine ⟨_, _, _, _, rfl, ?_⟩)
    | (refine ⟨(show (_ = _) by with_unfolding_all rfl), ?_⟩)
    | (refine ⟨⟨(show (_ = _) by with_unfolding_all rfl), (show (_ = _) by with_unfolding_all rfl)⟩, ?_⟩))
  | fail)
local macro_rules | `(tactic| kt_ors) => `(tactic| ((repeat mem_news); (try dsimp only); (try rfl)))
local macro_rules | `(tactic| leaf_len) => `(tactic| ((repeat' (first | (with_reducible first | refine Z.bF (Z.nd_self _) ?_ | refine Z.bT (Z.d_self _) ?_ | refine Z.b1 ?_ | refine Z.b0 ?_ | refine Z.bN0 ?_ | refine Z.bN1 ?_) | ((with_reducible refine Z.spl (fun hb => ?_) (fun hb => ?_)) <;> (try simp only [decide_eq_true_eq, decide_eq_false_iff_not, Bool.not_eq_true', Bool.not_eq_false', Bool.not_eq_true, Bool.not_eq_false] at hb)) | mem_news | fail)); (all_goals (try dsimp only)); (all_goals (try rfl))))

namespace Lw
open PySem L2
section
variable {P : Program} {w : World} {K : PySem.W.Frag} {mg : Str → Option Value} {base : Heap}
abbrev pm_Lany (K : PySem.W.Frag) : Z.Pm (List Z.D × Addr) := Z.pmT 1 (fun ds t => [.ad t, .lst ds]) (fun ds => 1 ≤ ds.length ∧ ds.length ≤ 1000) (fun ds d => d ∈ ds)
theorem ok_Lany (T : Tx K mg) : ∃ fd, Z.Gd P w K mg base CX0 2 d_Lany ["_law_tap_here", "_law_some"] (Z.spD K (pm_Lany K)) fd := by
  obtain ⟨fd_Ldrip, g_Ldrip⟩ := ok_Ldrip (P := P) (w := w) (base := base) T
  have b_Ldrip_0 : Binds K fd_Ldrip ["_law_tap_here", "_law_many"] [] := g_Ldrip.fn.bindsN fun _ _ _ _ _ _ us hl => match us, hl with | [_, _], _ => rfl
  obtain ⟨fd, F⟩ := T.d_Lany
  refine ⟨fd, F.ok sc_Lany (Z.spD_len fun _ => rfl) (fun cdv A outer s H vs Q EX hr h => ⟨_, PSs.nox (pss_one (ps_ret (pe_ix ix_seq (pv 1) (pe_call g_Ldrip.ok (hr.mono (by decide)) rfl T.g_Ldrip g_Ldrip.fn.kp b_Ldrip_0 .nil pass0 (pa_cons (pv 0) (pa_cons (pe_callB call_len (by rfl) T.f_len (by decide +kernel) (pa_cons (pv 1) pa_nil)) pa_nil))) (fun _ _ => rfl)))), Z.body h ?_⟩), F⟩
  rintro ⟨ds, t⟩ F n cells hc hp
  dsimp only [cxOf, pm_Lany, Z.pmT] at hp ⊢
  obtain ⟨rfl, hn, h1, h2⟩ := hp
  kt_ors
  rename_i j j0 j1
  obtain ⟨y, hy⟩ : ∃ y, ds[j.toNat]? = some y := ⟨_, List.getElem?_eq_getElem (by omega)⟩
  refine Z.rop_ixL (Z.atI_nat (by omega) hy) ?_
  exact ⟨rfl, List.mem_of_getElem? hy⟩
end
end Lw
end
section
local macro_rules | `(tactic| kfm_turns) => `(tactic| first | omega | (dsimp only [Z.env0, Z.Env.set, Z.Env.at, Z.Env.up]; omega) | (simp only [List.length_map, List.length_range, List.length_append, List.length_cons, List.length_nil, List.length_replicate, List.length_set, List.length_take, List.length_drop, List.length_reverse, List.length_zipWith, Z.zs_length, Z.rangeD_length, Int.natCast_add, Int.natCast_one, Int.natCast_zero, and_true, true_and, Int.toNat_natCast, Lw.hts_length, Lw.sumsL_length, Lw.wordsL_length]; omega) | (simp only [List.length_map, List.length_range, List.length_append, List.length_cons, List.length_nil, List.length_replicate, List.length_set, List.length_take, List.length_drop, List.length_reverse, List.length_zipWith, Z.zs_length, Z.rangeD_length, Int.natCast_add, Int.natCast_one, Int.natCast_zero, and_true, true_and, Int.toNat_natCast, Lw.hts_length, Lw.sumsL_length, Lw.wordsL_length] at *; omega))
local macro_rules | `(tactic| mem_news) => `(tactic| first
  | ((with_reducible show Z.Called _ _ _ _ _ _ _); first
    | (((with_reducible show Z.Called (Lw.pm_Row_plus _) _ _ _ _ _ _); refine Z.called_X (_, _) (by with_unfolding_all rfl) ?_ ?hp_Row_plus; rotate_left 1; (try ((try dsimp only); kfm_turns)); rotate_right 1))
    | (((with_reducible show Z.Called (Lw.pm_Row_backwards _) _ _ _ _ _ _); refine Z.called_X _ (by with_unfolding_all rfl) ?_ ?hp_Row_backwards; rotate_left 1; (try ((try dsimp only); kfm_turns)); rotate_right 1))
    | (((with_reducible show Z.Called (Lw.pm_Row_times _) _ _ _ _ _ _); refine Z.called_X (_, _) (by with_unfolding_all rfl) ?_ ?hp_Row_times; rotate_left 1; (try ((try dsimp only); kfm_turns)); rotate_right 1))
    | (((with_reducible show Z.Called (Lw.pm_sort_of _) _ _ _ _ _ _); refine Z.called_X (_, _) (by with_unfolding_all rfl) ?_ ?hp_sort_of; rotate_left 1; (try ((try dsimp only); kfm_turns)); rotate_right 1))
    | (((with_reducible show Z.Called (Lw.pm_Lsort_due _) _ _ _ _ _ _); refine Z.called_X (_, _) (by with_unfolding_all rfl) ?_ ?hp_Lsort_due; rotate_left 1; (try trivial); rotate_right 1))
    | (((with_reducible show Z.Called (Lw.pm_Lany _) _ _ _ _ _ _); refine Z.called_T _ rfl (by with_unfolding_all rfl) ?_ ?hp_Lany ?hn_Lany; rotate_left 1; (try (exact ⟨Nat.le_of_ble_eq_true rfl, Nat.le_of_ble_eq_true rfl⟩)); (try (first | omega | (dsimp only [Z.env0, Z.Env.set, Z.Env.at, Z.Env.up]; omega))); rotate_right 1; (intro drawnAny drawnIn)))
    | fail)
  | ((with_reducible show Z.We _ _ _ _ _); first
    | (with_reducible refine Z.we_fldS (by with_unfolding_all rfl) (Lw.Tx.cl_Row (by assumption)) (Lw.Tx.na_Row_heights (by assumption)) (by with_unfolding_all rfl) ?_)
    | (with_reducible refine Z.we_int ?_)
    | (with_reducible refine Z.we_var (by with_unfolding_all rfl) ?_)
    | (with_reducible refine Z.we_varF (by with_unfolding_all rfl) ?_)
    | (with_reducible refine Z.we_bl ?_)
    | (with_reducible refine Z.we_adr ?_)
    | (with_reducible refine Z.we_lenO (by with_unfolding_all rfl) ?_)
    | (with_reducible refine Z.we_cb ?_)
    | (with_reducible refine Z.we_un ?_)
    | (with_reducible refine Z.we_tup ?_)
    | (with_reducible refine Z.we_andV ?_)
    | (with_reducible refine Z.we_orV ?_)
    | (with_reducible refine Z.we_of (Z.wo_lst ?_))
    | (with_reducible refine Z.we_call (dds := []) (fun _ => .nil) ?_)
    | (with_reducible refine Z.we_call (dds := [.non, .non]) (fun _ => .cons .non (.cons .non .nil)) ?_)
    | (with_reducible refine Z.we_call (dds := [.non]) (fun _ => .cons .non .nil) ?_)
    | (with_reducible refine Z.we_meth (dds := []) (fun _ => .nil) ?_)
    | (with_reducible refine Z.we_callP ?_)
    | (with_reducible refine Z.we_make (dds := []) (fun _ => .nil) ?_)
    | (with_reducible refine Z.we_make (dds := [.non]) (fun _ => .cons .non .nil) ?_)
    | (with_reducible refine Z.we_make (dds := [.non, .non]) (fun _ => .cons .non (.cons .non .nil)) ?_)
    | (with_reducible refine Z.we_ixO (by with_unfolding_all rfl) ?_)
    | (with_reducible refine Z.we_op ?_)
    | (with_reducible refine Z.we_fld ?_)
    | fail)
  | ((with_reducible show Z.Rop _ _ _ _ _ _ _); first
    | ((with_reducible refine Z.rop_ixT (by with_unfolding_all rfl) ?_))
    | ((with_reducible refine Z.rop_pow (by omega) (by omega) ?_))
    | (with_reducible refine Z.rop_add ?_)
    | (with_reducible refine Z.rop_catZ (by kfm_turns) ?_)
    | (with_reducible refine Z.rop_catTZ (by kfm_turns) ?_)
    | (with_reducible refine Z.rop_sub ?_)
    | (with_reducible refine Z.rop_eqI ?_)
    | (with_reducible refine Z.rop_neI ?_)
    | (with_reducible refine Z.rop_ixZ (by kfm_turns) (by kfm_turns) ?_)
    | (with_reducible refine Z.rop_ixZT (by kfm_turns) (by kfm_turns) ?_)
    | (with_reducible refine Z.rop_neNil ?_)
    | (with_reducible refine Z.rop_eqB ?_)
    | (with_reducible refine Z.rop_neB ?_)
    | (with_reducible refine Z.rop_eqP ?_)
    | (with_reducible refine Z.rop_neP ?_)
    | (with_reducible refine Z.rop_eqZT ?_)
    | (with_reducible refine Z.rop_neZT ?_)
    | (with_reducible refine Z.rop_eqZL ?_)
    | (with_reducible refine Z.rop_neZL ?_)
    | (with_reducible refine Z.rop_neZL0 ?_)
    | (with_reducible refine Z.rop_eqZL0 ?_)
    | (with_reducible refine Z.rop_pow (by omega) (by omega) ?_)
    | (with_reducible refine Z.rop_mulL (by omega) ?_)
    | (with_reducible refine Z.rop_mulR (by omega) ?_)
    | (with_reducible refine Z.rop_repZ (by kfm_turns) ?_)
    | (with_reducible refine Z.rop_repTZ (by kfm_turns) ?_)
    | fail)
  | ((with_reducible show Z.Wa _ _ _ _ _); first
    | (with_reducible refine Z.wa_cons ?_)
    | (with_reducible refine Z.wa_nil ?_)
    | fail)
  | ((with_reducible show Z.Ws _ _ _ _ _); first
    | (with_reducible refine Z.ws_fld (by with_unfolding_all rfl) (Lw.Tx.cl_Row (by assumption)) (Lw.Tx.na_Row_gains (by assumption)) (by with_unfolding_all exact Nat.le_of_ble_eq_true rfl) ?_)
    | (with_reducible refine Z.ws_fld (by with_unfolding_all rfl) (Lw.Tx.cl_Row (by assumption)) (Lw.Tx.na_Row_heights (by assumption)) (by with_unfolding_all exact Nat.le_of_ble_eq_true rfl) ?_)
    | (with_reducible refine Z.ws_fld (by with_unfolding_all rfl) (Lw.Tx.cl_Row (by assumption)) (Lw.Tx.na_Row_days (by assumption)) (by with_unfolding_all exact Nat.le_of_ble_eq_true rfl) ?_)
    | (with_reducible refine Z.ws_fld (by with_unfolding_all rfl) (Lw.Tx.cl_Row (by assumption)) (Lw.Tx.na_Row_total (by assumption)) (by with_unfolding_all exact Nat.le_of_ble_eq_true rfl) ?_)
    | (with_reducible refine Z.ws_seqN (by first | (dsimp only [Z.env0, Lw.N_Llength_right, Z.heardX, Z.Env.set, Z.Env.at, Z.Env.up, List.set, List.length_cons, List.length_nil, List.length, Nat.reduceAdd, Nat.reduceSub, Nat.zero_add, List.replicate_succ, List.replicate_zero, List.map, List.cons_append, List.nil_append, List.append_eq, List.append] <;> exact rfl) | exact rfl) ?_)
    | (with_reducible refine Z.ws_if ?_)
    | (with_reducible refine Z.ws_par ?_)
    | (with_reducible refine Z.ws_par3 ?_)
    | (with_reducible refine Z.ws_ret ?_)
    | (with_reducible refine Z.ws_own (Z.wo_lst ?_))
    | (with_reducible refine Z.ws_asg2 ?_)
    | (with_reducible refine Z.ws_unl2 ?_)
    | (with_reducible refine Z.ws_asg3 ?_)
    | (with_reducible refine Z.ws_asg4 ?_)
    | (with_reducible refine Z.ws_asg ?_)
    | (with_reducible refine Z.ws_next ?_)
    | fail)
  | ((with_reducible show Z.Rcb _ _ _ _ _ _); first
    | (with_reducible refine Z.rcb_neg ?_)
    | (with_reducible refine Z.rcb_lenZ ?_)
    | (with_reducible refine Z.rcb_lenZT ?_)
    | (with_reducible refine Z.rcb_lenSL ?_)
    | (with_reducible refine Z.rcb_lenST ?_)
    | (with_reducible refine Z.rcb_lenL ?_)
    | (with_reducible refine Z.rcb_lenT ?_)
    | fail)
  | ((with_reducible show Z.Wt _ _ _ _ _); first
    | (with_reducible refine Z.wt_test ?_)
    | (with_reducible refine Z.wt_B ?_)
    | (with_reducible refine Z.wt_and ?_)
    | (with_reducible refine Z.wt_or ?_)
    | fail)
  | ((with_reducible show Z.Wg _ _ _ _ _ _ _); first
    | (with_reducible refine Z.wg_name ?_)
    | fail)
  | ((with_reducible show Exists _); first
    | (((with_reducible refine Z.making (α := Lw.al_Row_init) (false, _) (by with_unfolding_all rfl) ?_ ?hp_Row_init); rotate_left 1; (try ((try dsimp only); kfm_turns)); rotate_right 1))
    | (((with_reducible refine Z.making (α := Lw.al_Row_init) (true, _) (by with_unfolding_all rfl) ?_ ?hp_Row_init); rotate_left 1; (try ((try dsimp only); kfm_turns)); rotate_right 1))
    | (with_reducible refine Lw.row_fld (Lw.Tx.cl_Row (by assumption)) (Lw.Tx.na_Row_heights (by assumption)) (Lw.row_heights _) ?_)
    | (with_reducible refine Lw.row_fld (Lw.Tx.cl_Row (by assumption)) (Lw.Tx.na_Row_days (by assumption)) (Lw.row_days _) ?_)
    | (with_reducible refine Lw.row_fld (Lw.Tx.cl_Row (by assumption)) (Lw.Tx.na_Row_gains (by assumption)) (Lw.row_gains _) ?_)
    | (with_reducible refine Lw.row_fld (Lw.Tx.cl_Row (by assumption)) (Lw.Tx.na_Row_total (by assumption)) (Lw.row_total _) ?_)
    | (with_reducible refine Lw.row_meth ?_)
    | fail)
  | (with_reducible first
    | refine Z.bF (Z.nd_self _) ?_
    | refine Z.bT (Z.d_self _) ?_
    | refine Z.b1 ?_
    | refine Z.b0 ?_
    | refine Z.bN0 ?_
    | refine Z.bN1 ?_
    | refine Z.bF (Z.nd_of (by kpc_turns)) ?_
    | refine Z.bT (Z.d_of (by kpc_turns)) ?_
    | fail)
  | ((fail_if_success (with_reducible refine Z.spl ?_ ?_)); first
    | (refine ⟨Nat.le_of_ble_eq_true rfl, ?_⟩)
    | (refine ⟨_, rfl, ?_⟩)
    | (refine ⟨_, _, rfl, ?_⟩)
    | (refine ⟨_, _, _, rfl, ?_⟩)
    | (refine ⟨_, _, _, _, rfl, ?_⟩)
    | (refine ⟨(show (_ = _) by with_unfolding_all rfl), ?_⟩)
    | (refine ⟨⟨(show (_ = _) by with_unfolding_all rfl), (show (_ = _) by with_unfolding_all rfl)⟩, ?_⟩))
  | fail)
local macro_rules | `(tactic| kt_ors) => `(tactic| ((repeat mem_news); (try dsimp only); (try rfl)))
local macro_rules | `(tactic| leaf_len) => `(tactic| ((repeat' (first | (with_reducible first | refine Z.bF (Z.nd_self _) ?_ | refine Z.bT (Z.d_self _) ?_ | refine Z.b1 ?_ | refine Z.b0 ?_ | refine Z.bN0 ?_ | refine Z.bN1 ?_) | ((with_reducible refine Z.spl (fun hb => ?_) (fun hb => ?_)) <;> (try simp only [decide_eq_true_eq, decide_eq_false_iff_not, Bool.not_eq_true', Bool.not_eq_false', Bool.not_eq_true, Bool.not_eq_false] at hb)) | mem_news | fail)); (all_goals (try dsimp only)); (all_goals (try rfl))))

namespace Lw
open PySem L2
section
variable {P : Program} {w : World} {K : PySem.W.Frag} {mg : Str → Option Value} {base : Heap}
abbrev pm_Llength_right (K : PySem.W.Frag) : Z.Pm ((List Int × Nat) × Addr) := Z.pmT 1 (fun (ns, l) t => [.ad t, .lst (Z.zs ns), .int l]) (fun (ns, l) => 1 ≤ l ∧ l ≤ ns.length ∧ ns.length ≤ 48) (fun _ d => d = .bl true)
theorem ok_Llength_right (T : Tx K mg) : ∃ fd, Z.Gd P w K mg base CX0 8 d_Llength_right ["_law_tap_here", "_law_gains_here", "_law_length"] (Z.spD K (pm_Llength_right K)) fd := by
  obtain ⟨fd_greatest_sum, g_greatest_sum⟩ := ok_greatest_sum (P := P) (w := w) (base := base) T
  obtain ⟨fd_least_sum, g_least_sum⟩ := ok_least_sum (P := P) (w := w) (base := base) T
  obtain ⟨fd_Row_plus, g_Row_plus⟩ := ok_Row_plus (P := P) (w := w) (base := base) T
  obtain ⟨fd_Row_backwards, g_Row_backwards⟩ := ok_Row_backwards (P := P) (w := w) (base := base) T
  obtain ⟨fd_Row_times, g_Row_times⟩ := ok_Row_times (P := P) (w := w) (base := base) T
  obtain ⟨fd_sort_of, g_sort_of⟩ := ok_sort_of (P := P) (w := w) (base := base) T
  obtain ⟨fd_Lsort_due, g_Lsort_due⟩ := ok_Lsort_due (P := P) (w := w) (base := base) T
  obtain ⟨fd_Lends, g_Lends⟩ := ok_Lends (P := P) (w := w) (base := base) T
  obtain ⟨fd_Lany, g_Lany⟩ := ok_Lany (P := P) (w := w) (base := base) T
  obtain ⟨fd_Row_init, g_Row_init⟩ := ok_Row_init (P := P) (w := w) (base := base) T
  have b_greatest_sum_0 : Binds K fd_greatest_sum ["row", "length"] [] := g_greatest_sum.fn.bindsN fun _ _ _ _ _ _ us hl => match us, hl with | [_, _], _ => rfl
  have b_least_sum_0 : Binds K fd_least_sum ["row", "length"] [] := g_least_sum.fn.bindsN fun _ _ _ _ _ _ us hl => match us, hl with | [_, _], _ => rfl
  have b_Row_plus_0 : Binds K fd_Row_plus ["self", "number"] [] := g_Row_plus.fn.bindsN fun _ _ _ _ _ _ us hl => match us, hl with | [_, _], _ => rfl
  have b_Row_backwards_0 : Binds K fd_Row_backwards ["self"] [] := g_Row_backwards.fn.bindsN fun _ _ _ _ _ _ us hl => match us, hl with | [_], _ => rfl
  have b_Row_times_0 : Binds K fd_Row_times ["self", "number"] [] := g_Row_times.fn.bindsN fun _ _ _ _ _ _ us hl => match us, hl with | [_, _], _ => rfl
  have b_sort_of_0 : Binds K fd_sort_of ["row", "length"] [] := g_sort_of.fn.bindsN fun _ _ _ _ _ _ us hl => match us, hl with | [_, _], _ => rfl
  have b_Lsort_due_0 : Binds K fd_Lsort_due ["_law_least", "_law_most"] [] := g_Lsort_due.fn.bindsN fun _ _ _ _ _ _ us hl => match us, hl with | [_, _], _ => rfl
  have b_Lends_0 : Binds K fd_Lends ["_law_gains_here", "_law_length"] [] := g_Lends.fn.bindsN fun _ _ _ _ _ _ us hl => match us, hl with | [_, _], _ => rfl
  have b_Lany_0 : Binds K fd_Lany ["_law_tap_here", "_law_some"] [] := g_Lany.fn.bindsN fun _ _ _ _ _ _ us hl => match us, hl with | [_, _], _ => rfl
  have b_Row_init_0 : Binds K fd_Row_init ["self", "gains"] [] := g_Row_init.fn.bindsN fun _ _ _ _ _ _ us hl => match us, hl with | [_, _], _ => rfl
  have k_greatest_sum_0_length_row := Z.FunD_kb (ps := ["row", "length"]) (ks := ["length", "row"]) (n := 0) g_greatest_sum.fn (fun {α} => (Z.perm [1, 0] : List α → List α → List α)) Z.perm_vals fun _ _ _ _ _ _ us ws hl hw => match us, hl, ws, hw with | [], _, [_, _], _ => rfl
  have k_least_sum_0_length_row := Z.FunD_kb (ps := ["row", "length"]) (ks := ["length", "row"]) (n := 0) g_least_sum.fn (fun {α} => (Z.perm [1, 0] : List α → List α → List α)) Z.perm_vals fun _ _ _ _ _ _ us ws hl hw => match us, hl, ws, hw with | [], _, [_, _], _ => rfl
  obtain ⟨fd, F⟩ := T.d_Llength_right
  refine ⟨fd, F.ok sc_Llength_right (Z.spD_len fun _ => rfl) (fun cdv A outer s H vs Q EX hr h => ⟨_, PSs.nox (pss_cons (ps_par3 (i := 3) (j := 4) (l := 5) (by rfl) sc_Llength_right.nd rfl rfl rfl (by decide) (by decide) (by decide) rfl rfl rfl (pa_cons (pe_make T.mk_Row g_Row_init.ok (hr.mono (by decide)) rfl T.g_Row b_Row_init_0 .nil pass0 (pa_cons (pv 1) pa_nil)) (pa_cons (pe_callB call_len (by rfl) T.f_len (by decide +kernel) (pa_cons (pv 1) pa_nil)) (pa_cons (pe_call g_Lany.ok (hr.mono (by decide)) rfl T.g_Lany g_Lany.fn.kp b_Lany_0 .nil pass0 (pa_cons (pv 0) (pa_cons (pe_lst (pa_cons pe_int (pa_cons (pe_un un_neg pe_int) (pa_cons pe_int (pa_cons (pe_un un_neg (pe_op op_pow pe_int pe_int)) pa_nil))))) pa_nil))) pa_nil))) (by rfl)) (pss_cons (ps_asg (pe_call g_Lends.ok (hr.mono (by decide)) rfl T.g_Lends g_Lends.fn.kp b_Lends_0 .nil pass0 (pa_cons (pv 1) (pa_cons (pv 2) pa_nil))) (pg_tup rfl (pgs_cons (pg_name (i := 6) sc_Llength_right.nd rfl (Or.inl rfl)) (pgs_cons (pg_name (i := 7) sc_Llength_right.nd rfl (Or.inl rfl)) (pgs_cons (pg_name (i := 8) sc_Llength_right.nd rfl (Or.inl rfl)) (pgs_cons (pg_name (i := 9) sc_Llength_right.nd rfl (Or.inl rfl)) pgs_nil)))))) (pss_cons (ps_if (PW.pt (pw_or (pt_cmpR (op_neD hr.units) (pe_call g_least_sum.ok (hr.mono (by decide)) rfl T.g_least_sum g_least_sum.fn.kp b_least_sum_0 .nil pass0 (pa_cons (pv 3) (pa_cons (pv 2) pa_nil))) (pv 6) (nomark _)) (pw_or1 (pt_cmpR (op_neD hr.units) (pe_call g_greatest_sum.ok (hr.mono (by decide)) rfl T.g_greatest_sum g_greatest_sum.fn.kp b_greatest_sum_0 .nil pass0 (pa_cons (pv 3) (pa_cons (pv 2) pa_nil))) (pv 7) (nomark _))))) (pss_one (ps_ret pe_bl)) pss_nil) (pss_cons (ps_if (PW.pt (pw_or (pt_cmpR (op_neD hr.units) (Z.pe_callN0 g_least_sum.ok (hr.mono (by decide)) rfl T.g_least_sum g_least_sum.fn.kp k_least_sum_0_length_row pass0 (pk_cons (pv 2) (pk_cons (pv 3) pk_nil))) (pv 6) (nomark _)) (pw_or1 (pt_cmpR (op_neD hr.units) (Z.pe_callN0 g_greatest_sum.ok (hr.mono (by decide)) rfl T.g_greatest_sum g_greatest_sum.fn.kp k_greatest_sum_0_length_row pass0 (pk_cons (pv 2) (pk_cons (pv 3) pk_nil))) (pv 7) (nomark _))))) (pss_one (ps_ret pe_bl)) pss_nil) (pss_cons (ps_if (pt_cmpR (op_neD hr.units) (pe_call g_sort_of.ok (hr.mono (by decide)) rfl T.g_sort_of g_sort_of.fn.kp b_sort_of_0 .nil pass0 (pa_cons (pv 3) (pa_cons (pv 2) pa_nil))) (pe_call g_Lsort_due.ok (hr.mono (by decide)) rfl T.g_Lsort_due g_Lsort_due.fn.kp b_Lsort_due_0 .nil pass0 (pa_cons (pe_ix ix_seq (pv 6) pe_int (fun _ _ => rfl)) (pa_cons (pe_ix ix_seq (pv 7) pe_int (fun _ _ => rfl)) pa_nil))) (nomark _)) (pss_one (ps_ret pe_bl)) pss_nil) (pss_cons (ps_par3 (i := 10) (j := 11) (l := 12) (by rfl) sc_Llength_right.nd rfl rfl rfl (by decide) (by decide) (by decide) rfl rfl rfl (pa_cons (pe_meth (pv 3) T.cl_Row T.m_Row_times g_Row_times.ok (hr.mono (by decide)) b_Row_times_0 .nil pass0 (pa_cons (pe_un un_neg pe_int) pa_nil)) (pa_cons (pe_meth0 (pv 3) T.cl_Row T.m_Row_backwards g_Row_backwards.ok (hr.mono (by decide)) b_Row_backwards_0 .nil pass0) (pa_cons (pe_meth (pv 3) T.cl_Row T.m_Row_plus g_Row_plus.ok (hr.mono (by decide)) b_Row_plus_0 .nil pass0 (pa_cons (pv 5) pa_nil)) pa_nil))) (by rfl)) (pss_cons (ps_if (PW.pt (pw_or (pt_cmpR (op_neD hr.units) (pe_call g_least_sum.ok (hr.mono (by decide)) rfl T.g_least_sum g_least_sum.fn.kp b_least_sum_0 .nil pass0 (pa_cons (pv 10) (pa_cons (pv 2) pa_nil))) (pe_tup (pa_cons (pe_un un_neg (pe_ix ix_seq (pv 7) pe_int (fun _ _ => rfl))) (pa_cons (pe_ix ix_seq (pv 7) pe_int (fun _ _ => rfl)) pa_nil))) (nomark _)) (pw_or1 (pt_cmpR (op_neD hr.units) (pe_call g_greatest_sum.ok (hr.mono (by decide)) rfl T.g_greatest_sum g_greatest_sum.fn.kp b_greatest_sum_0 .nil pass0 (pa_cons (pv 10) (pa_cons (pv 2) pa_nil))) (pe_tup (pa_cons (pe_un un_neg (pe_ix ix_seq (pv 6) pe_int (fun _ _ => rfl))) (pa_cons (pe_ix ix_seq (pv 6) pe_int (fun _ _ => rfl)) pa_nil))) (nomark _))))) (pss_one (ps_ret pe_bl)) pss_nil) (pss_cons (ps_if (PW.pt (pw_or (pt_cmpR (op_neD hr.units) (pe_call g_least_sum.ok (hr.mono (by decide)) rfl T.g_least_sum g_least_sum.fn.kp b_least_sum_0 .nil pass0 (pa_cons (pv 11) (pa_cons (pv 2) pa_nil))) (pe_tup (pa_cons (pe_ix ix_seq (pv 6) pe_int (fun _ _ => rfl)) (pa_cons (pe_op op_sub (pe_op op_sub (pv 4) (pv 2)) (pv 8)) pa_nil))) (nomark _)) (pw_or1 (pt_cmpR (op_neD hr.units) (pe_call g_greatest_sum.ok (hr.mono (by decide)) rfl T.g_greatest_sum g_greatest_sum.fn.kp b_greatest_sum_0 .nil pass0 (pa_cons (pv 11) (pa_cons (pv 2) pa_nil))) (pe_tup (pa_cons (pe_ix ix_seq (pv 7) pe_int (fun _ _ => rfl)) (pa_cons (pe_op op_sub (pe_op op_sub (pv 4) (pv 2)) (pv 9)) pa_nil))) (nomark _))))) (pss_one (ps_ret pe_bl)) pss_nil) (pss_one (ps_ret (pe_and (pe_cmpR (op_eqD hr.units) (pe_call g_least_sum.ok (hr.mono (by decide)) rfl T.g_least_sum g_least_sum.fn.kp b_least_sum_0 .nil pass0 (pa_cons (pv 12) (pa_cons (pv 2) pa_nil))) (pe_tup (pa_cons (pe_op Z.op_addU (pe_ix ix_seq (pv 6) pe_int (fun _ _ => rfl)) (pe_op Z.op_mulU (pv 2) (pv 5))) (pa_cons (pe_ix ix_seq (pv 6) pe_int (fun _ _ => rfl)) pa_nil))) (nomark _)) (pe_one (pe_cmpR (op_eqD hr.units) (pe_call g_greatest_sum.ok (hr.mono (by decide)) rfl T.g_greatest_sum g_greatest_sum.fn.kp b_greatest_sum_0 .nil pass0 (pa_cons (pv 12) (pa_cons (pv 2) pa_nil))) (pe_tup (pa_cons (pe_op Z.op_addU (pe_ix ix_seq (pv 7) pe_int (fun _ _ => rfl)) (pe_op Z.op_mulU (pv 2) (pv 5))) (pa_cons (pe_ix ix_seq (pv 7) pe_int (fun _ _ => rfl)) pa_nil))) (nomark _)))))))))))))), Z.body h ?_⟩), F⟩
  rintro ⟨⟨ns, l⟩, t⟩ F n cells hc hp
  dsimp only [cxOf, pm_Llength_right, Z.pmT, List.map] at hp ⊢
  obtain ⟨rfl, hn, h1, h2, h3⟩ := hp
  have hne : sumsL ns l ≠ [] := sumsL_ne h2
  have hsl := sumsL_length ns l
  have w := ends_w hne
  have hcn : sumsL (ns.map fun a => a * -1) l = (sumsL ns l).map fun a => -a := by
    rw [sumsL_mul]
    exact List.map_congr_left fun a _ => by omega
  have hcb : sumsL ns.reverse l = (sumsL ns l).reverse := sumsL_rev h1
  have hcp : ∀ c, sumsL (ns.map fun a => a + c) l = (sumsL ns l).map fun a => a + (l : Int) * c := fun c => sumsL_plus c h1
  have hwd := word_end hne
  kt_ors
  refine Z.called_X (ns, l) rfl ?_ ⟨h1, h2, h3⟩
  dsimp only [enD]
  generalize endsF (sumsL ns l) = e at w hwd ⊢
  kt_ors
  rename_i c hc1
  obtain ⟨c, rfl⟩ : ∃ k : Int, c = .int k := by
    simp only [List.mem_cons, List.not_mem_nil, or_false] at hc1
    rcases hc1 with rfl | rfl | rfl | rfl <;> exact ⟨_, rfl⟩
  refine Z.called_X (ns, l) rfl ?_ ⟨h1, h2, h3⟩
  dsimp only
  rw [w.l]
  kt_ors
  try refine ne_same ?_
  try kt_ors
  refine Z.called_X (ns, l) rfl ?_ ⟨h1, h2, h3⟩
  dsimp only
  rw [w.g]
  kt_ors
  try refine ne_same ?_
  try kt_ors
  refine Z.called_X (ns, l) rfl ?_ ⟨h1, h2, h3⟩
  dsimp only
  rw [w.l]
  kt_ors
  try refine ne_same ?_
  try kt_ors
  refine Z.called_X (ns, l) rfl ?_ ⟨h1, h2, h3⟩
  dsimp only
  rw [w.g]
  kt_ors
  try refine ne_same ?_
  try kt_ors
  rw [hwd]
  refine Z.rop_neS (sorts_ok _ _) (sorts_ok _ _) ?_
  kt_ors
  refine Z.called_X (ns.map fun a => a * -1, l) rfl ?_ ⟨h1, by rw [List.length_map]; exact h2, by rw [List.length_map]; exact h3⟩
  dsimp only
  rw [hcn, w.ln]
  kt_ors
  try refine ne_same ?_
  try kt_ors
  refine Z.called_X (ns.map fun a => a * -1, l) rfl ?_ ⟨h1, by rw [List.length_map]; exact h2, by rw [List.length_map]; exact h3⟩
  dsimp only
  rw [hcn, w.gn]
  kt_ors
  try refine ne_same ?_
  try kt_ors
  refine Z.called_X (ns.reverse, l) rfl ?_ ⟨h1, by rw [List.length_reverse]; exact h2, by rw [List.length_reverse]; exact h3⟩
  dsimp only
  rw [hcb, w.lr]
  kt_ors
  have hla := w.la
  have hfa := w.fa
  refine Z.bF (by rw [Bool.not_eq_false', decide_eq_true_eq, Prod.mk.injEq]; exact ⟨rfl, by omega⟩) ?_
  kt_ors
  refine Z.called_X (ns.reverse, l) rfl ?_ ⟨h1, by rw [List.length_reverse]; exact h2, by rw [List.length_reverse]; exact h3⟩
  dsimp only
  rw [hcb, w.gr]
  kt_ors
  refine Z.bF (by rw [Bool.not_eq_false', decide_eq_true_eq, Prod.mk.injEq]; exact ⟨rfl, by omega⟩) ?_
  kt_ors
  refine Z.called_X (ns.map fun a => a + c, l) rfl ?_ ⟨h1, by rw [List.length_map]; exact h2, by rw [List.length_map]; exact h3⟩
  dsimp only
  rw [hcp, w.lp]
  kt_ors
  try refine eq_pair rfl rfl ?_
  try kt_ors
  refine Z.called_X (ns.map fun a => a + c, l) rfl ?_ ⟨h1, by rw [List.length_map]; exact h2, by rw [List.length_map]; exact h3⟩
  dsimp only
  rw [hcp, w.gp]
  kt_ors
  try refine eq_pair rfl rfl ?_
  try kt_ors
  rw [decide_eq_true rfl]
end
end Lw
end
section
local macro_rules | `(tactic| kfm_turns) => `(tactic| first | omega | (dsimp only [Z.env0, Z.Env.set, Z.Env.at, Z.Env.up]; omega) | (simp only [List.length_map, List.length_range, List.length_append, List.length_cons, List.length_nil, List.length_replicate, List.length_set, List.length_take, List.length_drop, List.length_reverse, List.length_zipWith, Z.zs_length, Z.rangeD_length, Int.natCast_add, Int.natCast_one, Int.natCast_zero, and_true, true_and, Int.toNat_natCast, Lw.hts_length, Lw.sumsL_length, Lw.wordsL_length]; omega) | (simp only [List.length_map, List.length_range, List.length_append, List.length_cons, List.length_nil, List.length_replicate, List.length_set, List.length_take, List.length_drop, List.length_reverse, List.length_zipWith, Z.zs_length, Z.rangeD_length, Int.natCast_add, Int.natCast_one, Int.natCast_zero, and_true, true_and, Int.toNat_natCast, Lw.hts_length, Lw.sumsL_length, Lw.wordsL_length] at *; omega))
local macro_rules | `(tactic| mem_news) => `(tactic| first
  | ((with_reducible show Z.Called _ _ _ _ _ _ _); first
    | (((with_reducible show Z.Called (Lw.pm_Lany _) _ _ _ _ _ _); refine Z.called_T _ rfl (by with_unfolding_all rfl) ?_ ?hp_Lany ?hn_Lany; rotate_left 1; (try (exact ⟨Nat.le_of_ble_eq_true rfl, Nat.le_of_ble_eq_true rfl⟩)); (try (first | omega | (dsimp only [Z.env0, Z.Env.set, Z.Env.at, Z.Env.up]; omega))); rotate_right 1; (intro drawnAny drawnIn)))
    | fail)
  | ((with_reducible show Z.We _ _ _ _ _); first
    | (with_reducible refine Z.we_fldS (by with_unfolding_all rfl) (Lw.Tx.cl_Row (by assumption)) (Lw.Tx.na_Row_heights (by assumption)) (by with_unfolding_all rfl) ?_)
    | (with_reducible refine Z.we_int ?_)
    | (with_reducible refine Z.we_var (by with_unfolding_all rfl) ?_)
    | (with_reducible refine Z.we_varF (by with_unfolding_all rfl) ?_)
    | (with_reducible refine Z.we_cb ?_)
    | (with_reducible refine Z.we_un ?_)
    | (with_reducible refine Z.we_of (Z.wo_lst ?_))
    | (with_reducible refine Z.we_call (dds := []) (fun _ => .nil) ?_)
    | (with_reducible refine Z.we_call (dds := [.non, .non]) (fun _ => .cons .non (.cons .non .nil)) ?_)
    | (with_reducible refine Z.we_call (dds := [.non]) (fun _ => .cons .non .nil) ?_)
    | fail)
  | ((with_reducible show Z.Wa _ _ _ _ _); first
    | (with_reducible refine Z.wa_cons ?_)
    | (with_reducible refine Z.wa_nil ?_)
    | fail)
  | ((with_reducible show Z.Ws _ _ _ _ _); first
    | (with_reducible refine Z.ws_fld (by with_unfolding_all rfl) (Lw.Tx.cl_Row (by assumption)) (Lw.Tx.na_Row_gains (by assumption)) (by with_unfolding_all exact Nat.le_of_ble_eq_true rfl) ?_)
    | (with_reducible refine Z.ws_fld (by with_unfolding_all rfl) (Lw.Tx.cl_Row (by assumption)) (Lw.Tx.na_Row_heights (by assumption)) (by with_unfolding_all exact Nat.le_of_ble_eq_true rfl) ?_)
    | (with_reducible refine Z.ws_fld (by with_unfolding_all rfl) (Lw.Tx.cl_Row (by assumption)) (Lw.Tx.na_Row_days (by assumption)) (by with_unfolding_all exact Nat.le_of_ble_eq_true rfl) ?_)
    | (with_reducible refine Z.ws_fld (by with_unfolding_all rfl) (Lw.Tx.cl_Row (by assumption)) (Lw.Tx.na_Row_total (by assumption)) (by with_unfolding_all exact Nat.le_of_ble_eq_true rfl) ?_)
    | (with_reducible refine Z.ws_seqN (by first | (dsimp only [Z.env0, Lw.N_Lknown, Z.heardX, Z.Env.set, Z.Env.at, Z.Env.up, List.set, List.length_cons, List.length_nil, List.length, Nat.reduceAdd, Nat.reduceSub, Nat.zero_add, List.replicate_succ, List.replicate_zero, List.map, List.cons_append, List.nil_append, List.append_eq, List.append] <;> exact rfl) | exact rfl) ?_)
    | (with_reducible refine Z.ws_ret ?_)
    | (with_reducible refine Z.ws_own (Z.wo_lst ?_))
    | (with_reducible refine Z.ws_next ?_)
    | fail)
  | ((with_reducible show Z.Rcb _ _ _ _ _ _); first
    | (with_reducible refine Z.rcb_neg ?_)
    | fail)
  | ((with_reducible show Z.Wt _ _ _ _ _); first
    | (with_reducible refine Z.wt_test ?_)
    | (with_reducible refine Z.wt_B ?_)
    | fail)
  | ((with_reducible show Z.Wg _ _ _ _ _ _ _); first
    | (with_reducible refine Z.wg_name ?_)
    | fail)
  | ((with_reducible show Exists _); first
    | (with_reducible refine Lw.row_fld (Lw.Tx.cl_Row (by assumption)) (Lw.Tx.na_Row_heights (by assumption)) (Lw.row_heights _) ?_)
    | (with_reducible refine Lw.row_fld (Lw.Tx.cl_Row (by assumption)) (Lw.Tx.na_Row_days (by assumption)) (Lw.row_days _) ?_)
    | (with_reducible refine Lw.row_fld (Lw.Tx.cl_Row (by assumption)) (Lw.Tx.na_Row_gains (by assumption)) (Lw.row_gains _) ?_)
    | (with_reducible refine Lw.row_fld (Lw.Tx.cl_Row (by assumption)) (Lw.Tx.na_Row_total (by assumption)) (Lw.row_total _) ?_)
    | (with_reducible refine Lw.row_meth ?_)
    | fail)
  | (with_reducible first
    | refine Z.bF (Z.nd_self _) ?_
    | refine Z.bT (Z.d_self _) ?_
    | refine Z.b1 ?_
    | refine Z.b0 ?_
    | refine Z.bN0 ?_
    | refine Z.bN1 ?_
    | refine Z.bF (Z.nd_of (by kpc_turns)) ?_
    | refine Z.bT (Z.d_of (by kpc_turns)) ?_
    | fail)
  | ((fail_if_success (with_reducible refine Z.spl ?_ ?_)); first
    | (refine ⟨Nat.le_of_ble_eq_true rfl, ?_⟩)
    | (refine ⟨_, rfl, ?_⟩)
    | (refine ⟨_, _, rfl, ?_⟩)
    | (refine ⟨_, _, _, rfl, ?_⟩)
    | (refine ⟨_, _, _, _, rfl, ?_⟩)
    | (refine ⟨(show (_ = _) by with_unfolding_all rfl), ?_⟩)
    | (refine ⟨⟨(show (_ = _) by with_unfolding_all rfl), (show (_ = _) by with_unfolding_all rfl)⟩, ?_⟩))
  | fail)
local macro_rules | `(tactic| kt_ors) => `(tactic| ((repeat mem_news); (try dsimp only); (try rfl)))
local macro_rules | `(tactic| leaf_len) => `(tactic| ((repeat' (first | (with_reducible first | refine Z.bF (Z.nd_self _) ?_ | refine Z.bT (Z.d_self _) ?_ | refine Z.b1 ?_ | refine Z.b0 ?_ | refine Z.bN0 ?_ | refine Z.bN1 ?_) | ((with_reducible refine Z.spl (fun hb => ?_) (fun hb => ?_)) <;> (try simp only [decide_eq_true_eq, decide_eq_false_iff_not, Bool.not_eq_true', Bool.not_eq_false', Bool.not_eq_true, Bool.not_eq_false] at hb)) | mem_news | fail)); (all_goals (try dsimp only)); (all_goals (try rfl))))

namespace Lw
open PySem L2
section
variable {P : Program} {w : World} {K : PySem.W.Frag} {mg : Str → Option Value} {base : Heap}
abbrev pm_Lknown (K : PySem.W.Frag) : Z.Pm (Unit × Addr) := Z.pmT 1 (fun _ t => [.ad t]) (fun _ => True) (fun _ d => ∃ ns, d = .lst (Z.zs ns) ∧ 1 ≤ ns.length ∧ ns.length ≤ 16)
theorem ok_Lknown (T : Tx K mg) : ∃ fd, Z.Gd P w K mg base CX0 3 d_Lknown ["_law_tap_here"] (Z.spD K (pm_Lknown K)) fd := by
  obtain ⟨fd_Lany, g_Lany⟩ := ok_Lany (P := P) (w := w) (base := base) T
  have b_Lany_0 : Binds K fd_Lany ["_law_tap_here", "_law_some"] [] := g_Lany.fn.bindsN fun _ _ _ _ _ _ us hl => match us, hl with | [_, _], _ => rfl
  obtain ⟨fd, F⟩ := T.d_Lknown
  refine ⟨fd, F.ok sc_Lknown (Z.spD_len fun _ => rfl) (fun cdv A outer s H vs Q EX hr h => ⟨_, PSs.nox (pss_one (ps_ret (pe_call g_Lany.ok (hr.mono (by decide)) rfl T.g_Lany g_Lany.fn.kp b_Lany_0 .nil pass0 (pa_cons (pv 0) (pa_cons (pe_lst (pa_cons (pe_lst (pa_cons (pe_un un_neg pe_int) (pa_cons pe_int (pa_cons (pe_un un_neg pe_int) (pa_cons (pe_un un_neg pe_int) (pa_cons pe_int (pa_cons (pe_un un_neg pe_int) pa_nil))))))) (pa_cons (pe_lst (pa_cons pe_int (pa_cons pe_int (pa_cons (pe_un un_neg pe_int) (pa_cons pe_int (pa_cons pe_int (pa_cons pe_int (pa_cons (pe_un un_neg pe_int) (pa_cons pe_int (pa_cons pe_int (pa_cons (pe_un un_neg pe_int) (pa_cons pe_int (pa_cons pe_int (pa_cons pe_int (pa_cons (pe_un un_neg pe_int) (pa_cons pe_int (pa_cons pe_int pa_nil))))))))))))))))) (pa_cons (pe_lst (pa_cons (pe_un un_neg pe_int) (pa_cons pe_int (pa_cons (pe_un un_neg pe_int) (pa_cons (pe_un un_neg pe_int) (pa_cons pe_int (pa_cons pe_int (pa_cons (pe_un un_neg pe_int) pa_nil)))))))) (pa_cons (pe_lst (pa_cons pe_int (pa_cons (pe_un un_neg pe_int) (pa_cons pe_int (pa_cons (pe_un un_neg pe_int) (pa_cons pe_int pa_nil)))))) (pa_cons (pe_lst (pa_cons pe_int (pa_cons pe_int (pa_cons pe_int pa_nil)))) (pa_cons (pe_lst (pa_cons (pe_un un_neg pe_int) (pa_cons pe_int (pa_cons (pe_un un_neg pe_int) pa_nil)))) (pa_cons (pe_lst (pa_cons pe_int pa_nil)) pa_nil)))))))) pa_nil))))), Z.body h ?_⟩), F⟩
  rintro ⟨_, t⟩ F n cells hc hp
  dsimp only [cxOf, pm_Lknown, Z.pmT] at hp ⊢
  obtain ⟨rfl, hn, -⟩ := hp
  kt_ors
  rename_i y hy
  exact Z.all_Zs (lo := 1) (hi := 16) (by with_unfolding_all rfl) hy
end
end Lw
end
section
local macro_rules | `(tactic| kfm_turns) => `(tactic| first | omega | (dsimp only [Z.env0, Z.Env.set, Z.Env.at, Z.Env.up]; omega) | (simp only [List.length_map, List.length_range, List.length_append, List.length_cons, List.length_nil, List.length_replicate, List.length_set, List.length_take, List.length_drop, List.length_reverse, List.length_zipWith, Z.zs_length, Z.rangeD_length, Int.natCast_add, Int.natCast_one, Int.natCast_zero, and_true, true_and, Int.toNat_natCast, Lw.hts_length, Lw.sumsL_length, Lw.wordsL_length]; omega) | (simp only [List.length_map, List.length_range, List.length_append, List.length_cons, List.length_nil, List.length_replicate, List.length_set, List.length_take, List.length_drop, List.length_reverse, List.length_zipWith, Z.zs_length, Z.rangeD_length, Int.natCast_add, Int.natCast_one, Int.natCast_zero, and_true, true_and, Int.toNat_natCast, Lw.hts_length, Lw.sumsL_length, Lw.wordsL_length] at *; omega))
local macro_rules | `(tactic| mem_news) => `(tactic| first
  | ((with_reducible show Z.Called _ _ _ _ _ _ _); first
    | (((with_reducible show Z.Called (Lw.pm_Lany _) _ _ _ _ _ _); refine Z.called_T _ rfl (by with_unfolding_all rfl) ?_ ?hp_Lany ?hn_Lany; rotate_left 1; (try (exact ⟨Nat.le_of_ble_eq_true rfl, Nat.le_of_ble_eq_true rfl⟩)); (try (first | omega | (dsimp only [Z.env0, Z.Env.set, Z.Env.at, Z.Env.up]; omega))); rotate_right 1; (intro drawnAny drawnIn)))
    | (((with_reducible show Z.Called (Lw.pm_Ldrip _) _ _ _ _ _ _); refine Z.called_T _ rfl (by with_unfolding_all rfl) ?_ ?hp_Ldrip ?hn_Ldrip; rotate_left 1; (try (omega)); (try (first | omega | (dsimp only [Z.env0, Z.Env.set, Z.Env.at, Z.Env.up]; omega))); rotate_right 1; (rintro _ ⟨drawn, drawnE, drawn0, drawn1⟩; subst drawnE)))
    | fail)
  | ((with_reducible show Z.We _ _ _ _ _); first
    | (with_reducible refine Z.we_fldS (by with_unfolding_all rfl) (Lw.Tx.cl_Row (by assumption)) (Lw.Tx.na_Row_heights (by assumption)) (by with_unfolding_all rfl) ?_)
    | (with_reducible refine Z.we_int ?_)
    | (with_reducible refine Z.we_var (by with_unfolding_all rfl) ?_)
    | (with_reducible refine Z.we_varF (by with_unfolding_all rfl) ?_)
    | (with_reducible refine Z.we_ty ?_)
    | (with_reducible refine Z.we_lenO (by with_unfolding_all rfl) ?_)
    | (with_reducible refine Z.we_sumO (by with_unfolding_all rfl) ?_)
    | (with_reducible refine Z.we_cb ?_)
    | (with_reducible refine Z.we_un ?_)
    | (with_reducible refine Z.we_of (Z.wo_lst ?_))
    | (with_reducible refine Z.we_of (Z.wo_lc ?_))
    | (with_reducible refine Z.we_call (dds := []) (fun _ => .nil) ?_)
    | (with_reducible refine Z.we_call (dds := [.non, .non]) (fun _ => .cons .non (.cons .non .nil)) ?_)
    | (with_reducible refine Z.we_call (dds := [.non]) (fun _ => .cons .non .nil) ?_)
    | (with_reducible refine Z.we_ixO (by with_unfolding_all rfl) ?_)
    | (with_reducible refine Z.we_op ?_)
    | fail)
  | ((with_reducible show Z.Rop _ _ _ _ _ _ _); first
    | ((with_reducible refine Z.rop_pow (by omega) (by omega) ?_))
    | ((with_reducible refine Z.rop_mod (by first | assumption | omega) ?_))
    | (with_reducible refine Z.rop_add ?_)
    | (with_reducible refine Z.rop_catZ (by kfm_turns) ?_)
    | (with_reducible refine Z.rop_catTZ (by kfm_turns) ?_)
    | (with_reducible refine Z.rop_sub ?_)
    | (with_reducible refine Z.rop_lt ?_)
    | (with_reducible refine Z.rop_eqI ?_)
    | (with_reducible refine Z.rop_ixZ (by kfm_turns) (by kfm_turns) ?_)
    | (with_reducible refine Z.rop_ixZT (by kfm_turns) (by kfm_turns) ?_)
    | (with_reducible refine Z.rop_eqB ?_)
    | (with_reducible refine Z.rop_eqP ?_)
    | (with_reducible refine Z.rop_eqZT ?_)
    | (with_reducible refine Z.rop_eqZL ?_)
    | (with_reducible refine Z.rop_eqZL0 ?_)
    | (with_reducible refine Z.rop_pow (by omega) (by omega) ?_)
    | (with_reducible refine Z.rop_mod (by first | assumption | omega) ?_)
    | fail)
  | ((with_reducible show Z.Wa _ _ _ _ _); first
    | (with_reducible refine Z.wa_cons ?_)
    | (with_reducible refine Z.wa_nil ?_)
    | fail)
  | ((with_reducible show Z.Ws _ _ _ _ _); first
    | ((with_reducible refine Z.ws_own (Z.wo_draw (m := 1) (fun y => ∃ i : Int, y = .int i) (Z.wi_r1 ?_))))
    | (with_reducible refine Z.ws_fld (by with_unfolding_all rfl) (Lw.Tx.cl_Row (by assumption)) (Lw.Tx.na_Row_gains (by assumption)) (by with_unfolding_all exact Nat.le_of_ble_eq_true rfl) ?_)
    | (with_reducible refine Z.ws_fld (by with_unfolding_all rfl) (Lw.Tx.cl_Row (by assumption)) (Lw.Tx.na_Row_heights (by assumption)) (by with_unfolding_all exact Nat.le_of_ble_eq_true rfl) ?_)
    | (with_reducible refine Z.ws_fld (by with_unfolding_all rfl) (Lw.Tx.cl_Row (by assumption)) (Lw.Tx.na_Row_days (by assumption)) (by with_unfolding_all exact Nat.le_of_ble_eq_true rfl) ?_)
    | (with_reducible refine Z.ws_fld (by with_unfolding_all rfl) (Lw.Tx.cl_Row (by assumption)) (Lw.Tx.na_Row_total (by assumption)) (by with_unfolding_all exact Nat.le_of_ble_eq_true rfl) ?_)
    | (with_reducible refine Z.ws_seqN (by first | (dsimp only [Z.env0, Lw.N_Lgains, Z.heardX, Z.Env.set, Z.Env.at, Z.Env.up, List.set, List.length_cons, List.length_nil, List.length, Nat.reduceAdd, Nat.reduceSub, Nat.zero_add, List.replicate_succ, List.replicate_zero, List.map, List.cons_append, List.nil_append, List.append_eq, List.append] <;> exact rfl) | exact rfl) ?_)
    | (with_reducible refine Z.ws_if ?_)
    | (with_reducible refine Z.ws_ret ?_)
    | (with_reducible refine Z.ws_own (Z.wo_lst ?_))
    | (with_reducible refine Z.ws_own (Z.wo_lc ?_))
    | (with_reducible refine Z.ws_own (Z.wo_listRg ?_))
    | (with_reducible refine Z.ws_set (by with_unfolding_all rfl) ?_)
    | (with_reducible refine Z.ws_asgN ?_)
    | (with_reducible refine Z.ws_asg ?_)
    | (with_reducible refine Z.ws_next ?_)
    | fail)
  | ((with_reducible show Z.Rcb _ _ _ _ _ _); first
    | (with_reducible refine Z.rcb_int ?_)
    | (with_reducible refine Z.rcb_intB ?_)
    | (with_reducible refine Z.rcb_neg ?_)
    | (with_reducible refine Z.rcb_sum ?_)
    | (with_reducible refine Z.rcb_lenZ ?_)
    | (with_reducible refine Z.rcb_lenZT ?_)
    | (with_reducible refine Z.rcb_lenSL ?_)
    | (with_reducible refine Z.rcb_lenST ?_)
    | (with_reducible refine Z.rcb_lenL ?_)
    | (with_reducible refine Z.rcb_lenT ?_)
    | (with_reducible refine Z.isi_int_int ?_)
    | (with_reducible refine Z.isi_bl_int ?_)
    | (with_reducible refine Z.isi_str_int ?_)
    | (with_reducible refine Z.isi_lst_int ?_)
    | (with_reducible refine Z.isi_tup_int ?_)
    | (with_reducible refine Z.isi_non_int ?_)
    | fail)
  | ((with_reducible show Z.Wt _ _ _ _ _); first
    | (with_reducible refine Z.wt_test ?_)
    | (with_reducible refine Z.wt_B ?_)
    | fail)
  | ((with_reducible show Z.Wg _ _ _ _ _ _ _); first
    | (with_reducible refine Z.wg_name ?_)
    | fail)
  | ((with_reducible show Exists _); first
    | (with_reducible refine Lw.row_fld (Lw.Tx.cl_Row (by assumption)) (Lw.Tx.na_Row_heights (by assumption)) (Lw.row_heights _) ?_)
    | (with_reducible refine Lw.row_fld (Lw.Tx.cl_Row (by assumption)) (Lw.Tx.na_Row_days (by assumption)) (Lw.row_days _) ?_)
    | (with_reducible refine Lw.row_fld (Lw.Tx.cl_Row (by assumption)) (Lw.Tx.na_Row_gains (by assumption)) (Lw.row_gains _) ?_)
    | (with_reducible refine Lw.row_fld (Lw.Tx.cl_Row (by assumption)) (Lw.Tx.na_Row_total (by assumption)) (Lw.row_total _) ?_)
    | (with_reducible refine Lw.row_meth ?_)
    | fail)
  | (with_reducible first
    | refine Z.bF (Z.nd_self _) ?_
    | refine Z.bT (Z.d_self _) ?_
    | refine Z.b1 ?_
    | refine Z.b0 ?_
    | refine Z.bN0 ?_
    | refine Z.bN1 ?_
    | refine Z.bF (Z.nd_of (by kpc_turns)) ?_
    | refine Z.bT (Z.d_of (by kpc_turns)) ?_
    | fail)
  | ((fail_if_success (with_reducible refine Z.spl ?_ ?_)); first
    | (refine ⟨Nat.le_of_ble_eq_true rfl, ?_⟩)
    | (refine ⟨_, rfl, ?_⟩)
    | (refine ⟨_, _, rfl, ?_⟩)
    | (refine ⟨_, _, _, rfl, ?_⟩)
    | (refine ⟨_, _, _, _, rfl, ?_⟩)
    | (refine ⟨(show (_ = _) by with_unfolding_all rfl), ?_⟩)
    | (refine ⟨⟨(show (_ = _) by with_unfolding_all rfl), (show (_ = _) by with_unfolding_all rfl)⟩, ?_⟩))
  | fail)
local macro_rules | `(tactic| kt_ors) => `(tactic| ((repeat mem_news); (try dsimp only); (try rfl)))
local macro_rules | `(tactic| leaf_len) => `(tactic| ((repeat' (first | (with_reducible first | refine Z.bF (Z.nd_self _) ?_ | refine Z.bT (Z.d_self _) ?_ | refine Z.b1 ?_ | refine Z.b0 ?_ | refine Z.bN0 ?_ | refine Z.bN1 ?_) | ((with_reducible refine Z.spl (fun hb => ?_) (fun hb => ?_)) <;> (try simp only [decide_eq_true_eq, decide_eq_false_iff_not, Bool.not_eq_true', Bool.not_eq_false', Bool.not_eq_true, Bool.not_eq_false] at hb)) | mem_news | fail)); (all_goals (try dsimp only)); (all_goals (try rfl))))

namespace Lw
open PySem L2
section
variable {P : Program} {w : World} {K : PySem.W.Frag} {mg : Str → Option Value} {base : Heap}
abbrev pm_Lgains (K : PySem.W.Frag) : Z.Pm (Nat × Addr) := Z.pmT 200 (fun l t => [.ad t, .int l]) (fun l => 1 ≤ l ∧ l ≤ 48) (fun l d => ∃ ns, d = .lst (Z.zs ns) ∧ ns.length = l)
theorem ok_Lgains (T : Tx K mg) : ∃ fd, Z.Gd P w K mg base CX0 3 d_Lgains ["_law_tap_here", "_law_days"] (Z.spD K (pm_Lgains K)) fd := by
  obtain ⟨fd_Lany, g_Lany⟩ := ok_Lany (P := P) (w := w) (base := base) T
  obtain ⟨fd_Ldrip, g_Ldrip⟩ := ok_Ldrip (P := P) (w := w) (base := base) T
  have b_Lany_0 : Binds K fd_Lany ["_law_tap_here", "_law_some"] [] := g_Lany.fn.bindsN fun _ _ _ _ _ _ us hl => match us, hl with | [_, _], _ => rfl
  have b_Ldrip_0 : Binds K fd_Ldrip ["_law_tap_here", "_law_many"] [] := g_Ldrip.fn.bindsN fun _ _ _ _ _ _ us hl => match us, hl with | [_, _], _ => rfl
  obtain ⟨fd, F⟩ := T.d_Lgains
  refine ⟨fd, F.ok sc_Lgains (Z.spD_len fun _ => rfl) (fun cdv A outer s H vs Q EX hr h => ⟨_, PSs.nox (pss_cons (ps_set (i := 2) sc_Lgains.nd rfl (Or.inl rfl) (pe_call g_Ldrip.ok (hr.mono (by decide)) rfl T.g_Ldrip g_Ldrip.fn.kp b_Ldrip_0 .nil pass0 (pa_cons (pv 0) (pa_cons pe_int pa_nil)))) (pss_cons (ps_if (pt_cmpR op_lt (pv 2) pe_int (nomark _)) (pss_one (ps_ret (pe_lc (own := [("_law_day", 6)]) rfl sc_Lgains.nd (pi_range1 rfl T.f_range (pa_cons (pv 1) pa_nil)) (blkOk_by (N := N_Lgains) (sc := defScope s_Lgains) (by decide +kernel)) (fun _ _ _ _ _ => (pg_name (i := 6) sc_Lgains.nd rfl (Or.inl rfl))) (fun _ _ _ _ _ => pts_nil) (fun _ _ _ _ _ => (pe_op op_sub (pe_call g_Ldrip.ok (hr.mono (by decide)) rfl T.g_Ldrip g_Ldrip.fn.kp b_Ldrip_0 .nil pass0 (pa_cons (pv 0) (pa_cons pe_int pa_nil))) pe_int))))) pss_nil) (pss_cons (ps_if (pt_cmpR (op_eqD hr.units) (pv 2) pe_int (nomark _)) (pss_one (ps_ret (pe_lc (own := [("_law_day", 6)]) rfl sc_Lgains.nd (pi_range1 rfl T.f_range (pa_cons (pv 1) pa_nil)) (blkOk_by (N := N_Lgains) (sc := defScope s_Lgains) (by decide +kernel)) (fun _ _ _ _ _ => (pg_name (i := 6) sc_Lgains.nd rfl (Or.inl rfl))) (fun _ _ _ _ _ => pts_nil) (fun _ _ _ _ _ => (pe_call g_Lany.ok (hr.mono (by decide)) rfl T.g_Lany g_Lany.fn.kp b_Lany_0 .nil pass0 (pa_cons (pv 0) (pa_cons (pe_lst (pa_cons pe_int (pa_cons pe_int (pa_cons pe_int (pa_cons pe_int (pa_cons (pe_un un_neg pe_int) pa_nil)))))) pa_nil))))))) pss_nil) (pss_cons (ps_if (pt_cmpR (op_eqD hr.units) (pv 2) pe_int (nomark _)) (pss_one (ps_ret (pe_lc (own := [("_law_day", 6)]) rfl sc_Lgains.nd (pi_range1 rfl T.f_range (pa_cons (pv 1) pa_nil)) (blkOk_by (N := N_Lgains) (sc := defScope s_Lgains) (by decide +kernel)) (fun _ _ _ _ _ => (pg_name (i := 6) sc_Lgains.nd rfl (Or.inl rfl))) (fun _ _ _ _ _ => pts_nil) (fun _ _ _ _ _ => (pe_call g_Lany.ok (hr.mono (by decide)) rfl T.g_Lany g_Lany.fn.kp b_Lany_0 .nil pass0 (pa_cons (pv 0) (pa_cons (pe_lst (pa_cons (pe_op op_pow pe_int pe_int) (pa_cons (pe_op op_sub pe_int (pe_op op_pow pe_int pe_int)) (pa_cons (pe_op op_pow pe_int pe_int) (pa_cons pe_int (pa_cons (pe_un un_neg pe_int) (pa_cons pe_int pa_nil))))))) pa_nil))))))) pss_nil) (pss_cons (ps_set (i := 3) sc_Lgains.nd rfl (Or.inr rfl) (pe_lc (own := [("_law_day", 6)]) rfl sc_Lgains.nd (pi_range1 rfl T.f_range (pa_cons (pe_op Z.op_addU pe_int (pe_call g_Ldrip.ok (hr.mono (by decide)) rfl T.g_Ldrip g_Ldrip.fn.kp b_Ldrip_0 .nil pass0 (pa_cons (pv 0) (pa_cons pe_int pa_nil)))) pa_nil)) (blkOk_by (N := N_Lgains) (sc := defScope s_Lgains) (by decide +kernel)) (fun _ _ _ _ _ => (pg_name (i := 6) sc_Lgains.nd rfl (Or.inl rfl))) (fun _ _ _ _ _ => pts_nil) (fun _ _ _ _ _ => (pe_op op_sub (pe_call g_Ldrip.ok (hr.mono (by decide)) rfl T.g_Ldrip g_Ldrip.fn.kp b_Ldrip_0 .nil pass0 (pa_cons (pv 0) (pa_cons pe_int pa_nil))) pe_int)))) (pss_cons (ps_if (pt_cmpR (op_eqD hr.units) (pv 2) pe_int (nomark _)) (pss_one (ps_asg (pe_op op_sub (pe_ix ix_seq (pv 3) pe_int (fun _ _ => rfl)) (pe_callB (cr_sum (by rfl)) (by rfl) T.f_sum (by decide +kernel) (pa_cons (pv 3) pa_nil))) (pg_sub (pv 3) pe_int set_list))) pss_nil) (pss_cons (ps_setLc (i := 4) (own := [("_law_day", 6)]) rfl sc_Lgains.nd rfl rfl (sw_true rfl rfl rfl (by decide +kernel)) (pi_range1 rfl T.f_range (pa_cons (pv 1) pa_nil)) (blkOk_by (N := N_Lgains) (sc := defScope s_Lgains) (by decide +kernel)) (fun _ _ _ _ _ => (pg_name (i := 6) sc_Lgains.nd rfl (Or.inl rfl))) (fun _ _ _ _ _ => pts_nil) (fun _ _ _ _ _ => (pe_ix (show IxR _ (rIx K) from ix_seq) (pv 3) (pe_op op_modN (pe_callTy Z.call_intU (by rfl) T.f_int (by decide +kernel) (pa_cons (pv 6) pa_nil)) (pe_callB (show CallR _ _ (Z.rLenU K) from call_len) (by rfl) T.f_len (by decide +kernel) (pa_cons (pv 3) pa_nil))) (fun _ _ => rfl)))) (pss_cons (ps_if (pt_cmpR (op_eqD hr.units) (pv 2) pe_int (nomark _)) (pss_cons (ps_set (i := 5) sc_Lgains.nd rfl (Or.inl rfl) (pe_call g_Ldrip.ok (hr.mono (by decide)) rfl T.g_Ldrip g_Ldrip.fn.kp b_Ldrip_0 .nil pass0 (pa_cons (pv 0) (pa_cons (pv 1) pa_nil)))) (pss_one (ps_asg (pe_op Z.op_addU (pe_ix ix_seq (pv 4) (pv 5) (fun _ _ => rfl)) (pe_call g_Lany.ok (hr.mono (by decide)) rfl T.g_Lany g_Lany.fn.kp b_Lany_0 .nil pass0 (pa_cons (pv 0) (pa_cons (pe_lst (pa_cons pe_int (pa_cons (pe_un un_neg pe_int) (pa_cons pe_int pa_nil)))) pa_nil)))) (pg_sub (pv 4) (pv 5) set_list)))) pss_nil) (pss_one (ps_ret (pv 4))))))))))), Z.body h ?_⟩), F⟩
  rintro ⟨l, t⟩ F n cells hc hp
  dsimp only [cxOf, pm_Lgains, Z.pmT] at hp ⊢
  obtain ⟨rfl, hn, h1, h2⟩ := hp
  kt_ors
  refine ⟨fun hb => ?_, fun hb => ?_⟩
  · refine Z.ws_ret (Z.we_top (N := n + 200) (Z.we_of (Z.wo_draw (m := 1) (fun y => ∃ i : Int, y = .int i) (Z.wi_r1 ?_))))
    kt_ors
    refine ⟨by omega, by rw [Z.rangeD_length]; omega, fun s hs => by cases hs; exact id, fun i d m hd hm => ?_, fun res m hr hp hm => ?_⟩
    · obtain ⟨hi, rfl⟩ := Z.rg_get hd
      have hm' : m ≤ n + 1 + 1 * i := hm
      kt_ors
      exact ⟨⟨_, rfl⟩, Nat.le_refl _, rfl⟩
    · obtain ⟨ns, rfl⟩ := Z.of_zs hp
      have hm' : m ≤ n + 1 + 1 * (Z.rangeD 0 (l : Int).toNat).length := hm
      rw [Z.rangeD_length] at hm'
      rw [Z.zs_length, Z.rangeD_length] at hr
      exact ⟨show m ≤ n + 200 by omega, rfl, ns, rfl, by omega⟩
  · kt_ors
    refine ⟨fun hb2 => ?_, fun hb2 => ?_⟩
    · refine Z.ws_ret (Z.we_top (N := n + 200) (Z.we_of (Z.wo_draw (m := 1) (fun y => ∃ i : Int, y = .int i) (Z.wi_r1 ?_))))
      kt_ors
      refine ⟨by omega, by rw [Z.rangeD_length]; omega, fun s hs => by cases hs; exact id, fun i d m hd hm => ?_, fun res m hr hp hm => ?_⟩
      · obtain ⟨hi, rfl⟩ := Z.rg_get hd
        have hm' : m ≤ n + 1 + 1 * i := hm
        kt_ors
        exact ⟨Z.all_I2 (by assumption) (by with_unfolding_all rfl), Nat.le_refl _, rfl⟩
      · obtain ⟨ns, rfl⟩ := Z.of_zs hp
        have hm' : m ≤ n + 1 + 1 * (Z.rangeD 0 (l : Int).toNat).length := hm
        rw [Z.rangeD_length] at hm'
        rw [Z.zs_length, Z.rangeD_length] at hr
        exact ⟨show m ≤ n + 200 by omega, rfl, ns, rfl, by omega⟩
    · kt_ors
      refine ⟨fun hb3 => ?_, fun hb3 => ?_⟩
      · refine Z.ws_ret (Z.we_top (N := n + 200) (Z.we_of (Z.wo_draw (m := 1) (fun y => ∃ i : Int, y = .int i) (Z.wi_r1 ?_))))
        kt_ors
        refine ⟨by omega, by rw [Z.rangeD_length]; omega, fun s hs => by cases hs; exact id, fun i d m hd hm => ?_, fun res m hr hp hm => ?_⟩
        · obtain ⟨hi, rfl⟩ := Z.rg_get hd
          have hm' : m ≤ n + 1 + 1 * i := hm
          kt_ors
          exact ⟨Z.all_I2 (by assumption) (by with_unfolding_all rfl), Nat.le_refl _, rfl⟩
        · obtain ⟨ns, rfl⟩ := Z.of_zs hp
          have hm' : m ≤ n + 1 + 1 * (Z.rangeD 0 (l : Int).toNat).length := hm
          rw [Z.rangeD_length] at hm'
          rw [Z.zs_length, Z.rangeD_length] at hr
          exact ⟨show m ≤ n + 200 by omega, rfl, ns, rfl, by omega⟩
      · kt_ors
        refine ⟨by omega, by rw [Z.rangeD_length]; omega, fun s hs => by cases hs; exact id, fun i d m hd hm => ?_, fun res m hr hp hm => ?_⟩
        · obtain ⟨hi, rfl⟩ := Z.rg_get hd
          have hm' : m ≤ n + 2 + 1 * i := hm
          kt_ors
          exact ⟨⟨_, rfl⟩, Nat.le_refl _, rfl⟩
        · obtain ⟨fs, rfl⟩ := Z.of_zs hp
          rename_i dr dr0 dr1
          have hm' : m ≤ n + 2 + 1 * (Z.rangeD 0 (1 + dr).toNat).length := hm
          rw [Z.rangeD_length] at hm'
          rw [Z.zs_length, Z.rangeD_length] at hr
          have hf : 0 < fs.length := by omega
          refine Z.ws_seq (Z.ws_joinO (i := 3) (fun gs => gs.length = fs.length) ?_ fun gs hg => ?_)
          · kt_ors
            refine ⟨fun hb4 => ?_, fun hb4 => ?_⟩
            · kt_ors
              obtain ⟨x0, hx0⟩ := Z.zs_atN (ns := fs) (i := 0) (by omega) (by omega)
              refine ⟨_, _, rfl, hx0, ?_⟩
              kt_ors
              refine ⟨_, _, rfl, Z.ix_nat (k := 0) rfl (by rw [Z.zs_length]; omega), fs.set 0 (x0 - fs.sum), by simp, by rw [Z.zs_set]⟩
            · kt_ors
          · kt_ors
            refine ⟨by omega, by rw [Z.rangeD_length]; omega, fun s hs => by cases hs; exact id, fun i d m2 hd hm => ?_, fun res m2 hr hp hm => ?_⟩
            · obtain ⟨hi, rfl⟩ := Z.rg_get hd
              have hz : (0 : Int) < ((Z.zs gs).length : Int) := by rw [Z.zs_length]; omega
              kt_ors
              obtain ⟨x0, hx0⟩ := Z.mod_atZ (ns := gs) (i := 0 + (i : Int)) (by omega)
              refine ⟨_, _, rfl, hx0, ?_⟩
              exact ⟨⟨_, rfl⟩, Nat.le_succ _, rfl⟩
            · obtain ⟨hs, rfl⟩ := Z.of_zs hp
              have hm2 : m2 ≤ m + 1 * (Z.rangeD 0 (l : Int).toNat).length := hm
              rw [Z.rangeD_length] at hm2
              rw [Z.zs_length, Z.rangeD_length] at hr
              kt_ors
              refine ⟨fun hb4 => ?_, fun hb4 => ?_⟩
              · kt_ors
                rename_i d6 d60 d61
                obtain ⟨x0, hx0⟩ := Z.zs_atN (ns := hs) (i := d6) (by omega) (by omega)
                refine ⟨_, _, rfl, hx0, ?_⟩
                kt_ors
                rename_i y6 hy6
                obtain ⟨c6, rfl⟩ := Z.all_I2 hy6 (by with_unfolding_all rfl)
                kt_ors
                refine ⟨_, _, rfl, Z.ix_nat (k := d6.toNat) (by omega) (by rw [Z.zs_length]; omega), ?_⟩
                refine Z.ws_ret (Z.we_top (N := n + 200) ?_)
                kt_ors
                rw [Z.zs_set]
                exact ⟨show m2 + 1 + 1 ≤ n + 200 by omega, rfl, _, rfl, by rw [List.length_set]; omega⟩
              · refine Z.ws_next (Z.ws_ret (Z.we_top (N := n + 200) ?_))
                kt_ors
                exact ⟨show m2 ≤ n + 200 by omega, rfl, _, rfl, by omega⟩
end
end Lw
end
section
local macro_rules | `(tactic| kfm_turns) => `(tactic| first | omega | (dsimp only [Z.env0, Z.Env.set, Z.Env.at, Z.Env.up]; omega) | (simp only [List.length_map, List.length_range, List.length_append, List.length_cons, List.length_nil, List.length_replicate, List.length_set, List.length_take, List.length_drop, List.length_reverse, List.length_zipWith, Z.zs_length, Z.rangeD_length, Int.natCast_add, Int.natCast_one, Int.natCast_zero, and_true, true_and, Int.toNat_natCast, Lw.hts_length, Lw.sumsL_length, Lw.wordsL_length]; omega) | (simp only [List.length_map, List.length_range, List.length_append, List.length_cons, List.length_nil, List.length_replicate, List.length_set, List.length_take, List.length_drop, List.length_reverse, List.length_zipWith, Z.zs_length, Z.rangeD_length, Int.natCast_add, Int.natCast_one, Int.natCast_zero, and_true, true_and, Int.toNat_natCast, Lw.hts_length, Lw.sumsL_length, Lw.wordsL_length] at *; omega))
local macro_rules | `(tactic| mem_news) => `(tactic| first
  | ((with_reducible show Z.We _ _ _ _ _); first
    | (with_reducible refine Z.we_fldS (by with_unfolding_all rfl) (Lw.Tx.cl_Row (by assumption)) (Lw.Tx.na_Row_heights (by assumption)) (by with_unfolding_all rfl) ?_)
    | (with_reducible refine Z.we_int ?_)
    | (with_reducible refine Z.we_var (by with_unfolding_all rfl) ?_)
    | (with_reducible refine Z.we_varF (by with_unfolding_all rfl) ?_)
    | (with_reducible refine Z.we_ty ?_)
    | (with_reducible refine Z.we_cb ?_)
    | (with_reducible refine Z.we_of (Z.wo_lst ?_))
    | (with_reducible refine Z.we_of (Z.wo_lc ?_))
    | fail)
  | ((with_reducible show Z.Wa _ _ _ _ _); first
    | (with_reducible refine Z.wa_cons ?_)
    | (with_reducible refine Z.wa_nil ?_)
    | fail)
  | ((with_reducible show Z.Ws _ _ _ _ _); first
    | (with_reducible refine Z.ws_fld (by with_unfolding_all rfl) (Lw.Tx.cl_Row (by assumption)) (Lw.Tx.na_Row_gains (by assumption)) (by with_unfolding_all exact Nat.le_of_ble_eq_true rfl) ?_)
    | (with_reducible refine Z.ws_fld (by with_unfolding_all rfl) (Lw.Tx.cl_Row (by assumption)) (Lw.Tx.na_Row_heights (by assumption)) (by with_unfolding_all exact Nat.le_of_ble_eq_true rfl) ?_)
    | (with_reducible refine Z.ws_fld (by with_unfolding_all rfl) (Lw.Tx.cl_Row (by assumption)) (Lw.Tx.na_Row_days (by assumption)) (by with_unfolding_all exact Nat.le_of_ble_eq_true rfl) ?_)
    | (with_reducible refine Z.ws_fld (by with_unfolding_all rfl) (Lw.Tx.cl_Row (by assumption)) (Lw.Tx.na_Row_total (by assumption)) (by with_unfolding_all exact Nat.le_of_ble_eq_true rfl) ?_)
    | (with_reducible refine Z.ws_seqN (by first | (dsimp only [Z.env0, Lw.N_Ltap, Z.heardX, Z.Env.set, Z.Env.at, Z.Env.up, List.set, List.length_cons, List.length_nil, List.length, Nat.reduceAdd, Nat.reduceSub, Nat.zero_add, List.replicate_succ, List.replicate_zero, List.map, List.cons_append, List.nil_append, List.append_eq, List.append] <;> exact rfl) | exact rfl) ?_)
    | (with_reducible refine Z.ws_ret ?_)
    | (with_reducible refine Z.ws_own (Z.wo_lst ?_))
    | (with_reducible refine Z.ws_own (Z.wo_lc ?_))
    | (with_reducible refine Z.ws_next ?_)
    | fail)
  | ((with_reducible show Z.Rcb _ _ _ _ _ _); first
    | (with_reducible refine Z.rcb_int ?_)
    | (with_reducible refine Z.rcb_intB ?_)
    | (with_reducible refine Z.isi_int_int ?_)
    | (with_reducible refine Z.isi_bl_int ?_)
    | (with_reducible refine Z.isi_str_int ?_)
    | (with_reducible refine Z.isi_lst_int ?_)
    | (with_reducible refine Z.isi_tup_int ?_)
    | (with_reducible refine Z.isi_non_int ?_)
    | fail)
  | ((with_reducible show Z.Wt _ _ _ _ _); first
    | (with_reducible refine Z.wt_test ?_)
    | (with_reducible refine Z.wt_B ?_)
    | fail)
  | ((with_reducible show Z.Wg _ _ _ _ _ _ _); first
    | (with_reducible refine Z.wg_name ?_)
    | fail)
  | ((with_reducible show Exists _); first
    | (with_reducible refine Lw.row_fld (Lw.Tx.cl_Row (by assumption)) (Lw.Tx.na_Row_heights (by assumption)) (Lw.row_heights _) ?_)
    | (with_reducible refine Lw.row_fld (Lw.Tx.cl_Row (by assumption)) (Lw.Tx.na_Row_days (by assumption)) (Lw.row_days _) ?_)
    | (with_reducible refine Lw.row_fld (Lw.Tx.cl_Row (by assumption)) (Lw.Tx.na_Row_gains (by assumption)) (Lw.row_gains _) ?_)
    | (with_reducible refine Lw.row_fld (Lw.Tx.cl_Row (by assumption)) (Lw.Tx.na_Row_total (by assumption)) (Lw.row_total _) ?_)
    | (with_reducible refine Lw.row_meth ?_)
    | fail)
  | ((with_reducible show Z.Wp _ _ _ _ _); (with_reducible first
    | refine Z.wp_none ?_
    | refine Z.wp_some ?_ | fail))
  | (with_reducible first
    | refine Z.bF (Z.nd_self _) ?_
    | refine Z.bT (Z.d_self _) ?_
    | refine Z.b1 ?_
    | refine Z.b0 ?_
    | refine Z.bN0 ?_
    | refine Z.bN1 ?_
    | refine Z.bF (Z.nd_of (by kpc_turns)) ?_
    | refine Z.bT (Z.d_of (by kpc_turns)) ?_
    | fail)
  | ((fail_if_success (with_reducible refine Z.spl ?_ ?_)); first
    | (refine ⟨Nat.le_of_ble_eq_true rfl, ?_⟩)
    | (refine ⟨_, rfl, ?_⟩)
    | (refine ⟨_, _, rfl, ?_⟩)
    | (refine ⟨_, _, _, rfl, ?_⟩)
    | (refine ⟨_, _, _, _, rfl, ?_⟩)
    | (refine ⟨(show (_ = _) by with_unfolding_all rfl), ?_⟩)
    | (refine ⟨⟨(show (_ = _) by with_unfolding_all rfl), (show (_ = _) by with_unfolding_all rfl)⟩, ?_⟩))
  | fail)
local macro_rules | `(tactic| kt_ors) => `(tactic| ((repeat mem_news); (try dsimp only); (try rfl)))
local macro_rules | `(tactic| leaf_len) => `(tactic| ((repeat' (first | (with_reducible first | refine Z.bF (Z.nd_self _) ?_ | refine Z.bT (Z.d_self _) ?_ | refine Z.b1 ?_ | refine Z.b0 ?_ | refine Z.bN0 ?_ | refine Z.bN1 ?_) | ((with_reducible refine Z.spl (fun hb => ?_) (fun hb => ?_)) <;> (try simp only [decide_eq_true_eq, decide_eq_false_iff_not, Bool.not_eq_true', Bool.not_eq_false', Bool.not_eq_true, Bool.not_eq_false] at hb)) | mem_news | fail)); (all_goals (try dsimp only)); (all_goals (try rfl))))

namespace Lw
open PySem L2
section
variable {P : Program} {w : World} {K : PySem.W.Frag} {mg : Str → Option Value} {base : Heap}
abbrev pm_Ltap (K : PySem.W.Frag) : Z.Pm (List Int) := Z.pmO (fun ns => [.scr ns]) (fun ns => ns.length ≤ 63) (fun ns => [.lst (Z.zs (ns.take 60)), .int 0, .int 0])
theorem ok_Ltap (T : Tx K mg) : ∃ fd, Z.Gd P w K mg base CX0 1 d_Ltap ["_law_script"] (Z.spD K (pm_Ltap K)) fd := by
  obtain ⟨fd, F⟩ := T.d_Ltap
  refine ⟨fd, F.ok sc_Ltap (Z.spD_len fun _ => rfl) (fun cdv A outer s H vs Q EX hr h => ⟨_, PSs.nox (pss_one (ps_ret (pe_lst (pa_cons (pe_lc (own := [("_law_cell", 1)]) rfl sc_Ltap.nd (Z.pi_any (pe_slice Z.sl_u (pv 0) po_none (po_some pe_int))) (blkOk_by (N := N_Ltap) (sc := defScope s_Ltap) (by decide +kernel)) (fun _ _ _ _ _ => (pg_name (i := 1) sc_Ltap.nd rfl (Or.inl rfl))) (fun _ _ _ _ _ => pts_nil) (fun _ _ _ _ _ => (pe_callTy Z.call_intU (by rfl) T.f_int (by decide +kernel) (pa_cons (pv 1) pa_nil)))) (pa_cons pe_int (pa_cons pe_int pa_nil)))))), Z.body h ?_⟩), F⟩
  intro ns F n cells hc hp
  dsimp only [cxOf, pm_Ltap, Z.pmO, List.map] at hp ⊢
  obtain ⟨rfl, hp⟩ := hp
  refine Z.ws_reto (Z.wo_lst ?_)
  refine Z.wa_cons (Z.we_of (Z.wo_map (Z.wi_any (Z.we_of (Z.wo_slR ?_)))))
  kt_ors
  refine ⟨_, .inl rfl, ?_, fun s hs => by cases hs; exact id, Z.zs (ns.take 60), ?_, fun i d hd => ?_, ?_⟩
  · rw [Z.zs_take60 ns hp, Z.zs_length, List.length_take]; omega
  · rw [Z.zs_take60 ns hp]
  · rw [Z.zs_take60 ns hp] at hd
    obtain ⟨x, hx, rfl⟩ := Z.zs_get hd
    kt_ors
    exact ⟨hd, rfl, rfl⟩
  · kt_ors
    exact .inl rfl
end
end Lw
end
section
local macro_rules | `(tactic| kfm_turns) => `(tactic| first | omega | (dsimp only [Z.env0, Z.Env.set, Z.Env.at, Z.Env.up]; omega) | (simp only [List.length_map, List.length_range, List.length_append, List.length_cons, List.length_nil, List.length_replicate, List.length_set, List.length_take, List.length_drop, List.length_reverse, List.length_zipWith, Z.zs_length, Z.rangeD_length, Int.natCast_add, Int.natCast_one, Int.natCast_zero, and_true, true_and, Int.toNat_natCast, Lw.hts_length, Lw.sumsL_length, Lw.wordsL_length]; omega) | (simp only [List.length_map, List.length_range, List.length_append, List.length_cons, List.length_nil, List.length_replicate, List.length_set, List.length_take, List.length_drop, List.length_reverse, List.length_zipWith, Z.zs_length, Z.rangeD_length, Int.natCast_add, Int.natCast_one, Int.natCast_zero, and_true, true_and, Int.toNat_natCast, Lw.hts_length, Lw.sumsL_length, Lw.wordsL_length] at *; omega))
local macro_rules | `(tactic| mem_news) => `(tactic| first
  | ((with_reducible show Z.Called _ _ _ _ _ _ _); first
    | (((with_reducible show Z.Called (Lw.pm_Llength_right _) _ _ _ _ _ _); refine Z.called_T (_, _) rfl (by with_unfolding_all rfl) ?_ ?hp_Llength_right ?hn_Llength_right; rotate_left 1; (try (exact ⟨by omega, by omega, by omega⟩)); (try (first | omega | (dsimp only [Z.env0, Z.Env.set, Z.Env.at, Z.Env.up]; omega))); rotate_right 1; (rintro _ resE; subst resE)))
    | (((with_reducible show Z.Called (Lw.pm_Ldrip _) _ _ _ _ _ _); refine Z.called_T _ rfl (by with_unfolding_all rfl) ?_ ?hp_Ldrip ?hn_Ldrip; rotate_left 1; (try (omega)); (try (first | omega | (dsimp only [Z.env0, Z.Env.set, Z.Env.at, Z.Env.up]; omega))); rotate_right 1; (rintro _ ⟨drawn, drawnE, drawn0, drawn1⟩; subst drawnE)))
    | (((with_reducible show Z.Called (Lw.pm_Lknown _) _ _ _ _ _ _); refine Z.called_T () rfl (by with_unfolding_all rfl) ?_ ?hp_Lknown ?hn_Lknown; rotate_left 1; (try (trivial)); (try (first | omega | (dsimp only [Z.env0, Z.Env.set, Z.Env.at, Z.Env.up]; omega))); rotate_right 1; (rintro _ ⟨gainsG, gainsE, gainsL, gainsM⟩; subst gainsE)))
    | (((with_reducible show Z.Called (Lw.pm_Lgains _) _ _ _ _ _ _); refine Z.called_T _ rfl (by with_unfolding_all rfl) ?_ ?hp_Lgains ?hn_Lgains; rotate_left 1; (try (omega)); (try (first | omega | (dsimp only [Z.env0, Z.Env.set, Z.Env.at, Z.Env.up]; omega))); rotate_right 1; (rintro _ ⟨gainsG, gainsE, gainsL⟩; subst gainsE)))
    | (((with_reducible show Z.Called (Lw.pm_Lany _) _ _ _ _ _ _); refine Z.called_T _ rfl (by with_unfolding_all rfl) ?_ ?hp_Lany ?hn_Lany; rotate_left 1; (try (exact ⟨Nat.le_of_ble_eq_true rfl, Nat.le_of_ble_eq_true rfl⟩)); (try (first | omega | (dsimp only [Z.env0, Z.Env.set, Z.Env.at, Z.Env.up]; omega))); rotate_right 1; (intro drawnAny drawnIn)))
    | fail)
  | ((with_reducible show Z.We _ _ _ _ _); first
    | (with_reducible refine Z.we_fldS (by with_unfolding_all rfl) (Lw.Tx.cl_Row (by assumption)) (Lw.Tx.na_Row_heights (by assumption)) (by with_unfolding_all rfl) ?_)
    | (with_reducible refine Z.we_int ?_)
    | (with_reducible refine Z.we_var (by with_unfolding_all rfl) ?_)
    | (with_reducible refine Z.we_varF (by with_unfolding_all rfl) ?_)
    | (with_reducible refine Z.we_bl ?_)
    | (with_reducible refine Z.we_ty ?_)
    | (with_reducible refine Z.we_lenO (by with_unfolding_all rfl) ?_)
    | (with_reducible refine Z.we_cb ?_)
    | (with_reducible refine Z.we_notV ?_)
    | (with_reducible refine Z.we_if ?_)
    | (with_reducible refine Z.we_of (Z.wo_lst ?_))
    | (with_reducible refine Z.we_of (Z.wo_lc ?_))
    | (with_reducible refine Z.we_call (dds := []) (fun _ => .nil) ?_)
    | (with_reducible refine Z.we_call (dds := [.non, .non]) (fun _ => .cons .non (.cons .non .nil)) ?_)
    | (with_reducible refine Z.we_call (dds := [.non]) (fun _ => .cons .non .nil) ?_)
    | (with_reducible refine Z.we_op ?_)
    | fail)
  | ((with_reducible show Z.Rop _ _ _ _ _ _ _); first
    | (with_reducible refine Z.rop_add ?_)
    | (with_reducible refine Z.rop_catZ (by kfm_turns) ?_)
    | (with_reducible refine Z.rop_catTZ (by kfm_turns) ?_)
    | (with_reducible refine Z.rop_lt ?_)
    | (with_reducible refine Z.rop_eqI ?_)
    | (with_reducible refine Z.rop_neI ?_)
    | (with_reducible refine Z.rop_neNil ?_)
    | (with_reducible refine Z.rop_eqB ?_)
    | (with_reducible refine Z.rop_neB ?_)
    | (with_reducible refine Z.rop_eqP ?_)
    | (with_reducible refine Z.rop_neP ?_)
    | (with_reducible refine Z.rop_eqZT ?_)
    | (with_reducible refine Z.rop_neZT ?_)
    | (with_reducible refine Z.rop_eqZL ?_)
    | (with_reducible refine Z.rop_neZL ?_)
    | (with_reducible refine Z.rop_neZL0 ?_)
    | (with_reducible refine Z.rop_eqZL0 ?_)
    | fail)
  | ((with_reducible show Z.Wa _ _ _ _ _); first
    | (with_reducible refine Z.wa_cons ?_)
    | (with_reducible refine Z.wa_nil ?_)
    | fail)
  | ((with_reducible show Z.Ws _ _ _ _ _); first
    | (with_reducible refine Z.ws_fld (by with_unfolding_all rfl) (Lw.Tx.cl_Row (by assumption)) (Lw.Tx.na_Row_gains (by assumption)) (by with_unfolding_all exact Nat.le_of_ble_eq_true rfl) ?_)
    | (with_reducible refine Z.ws_fld (by with_unfolding_all rfl) (Lw.Tx.cl_Row (by assumption)) (Lw.Tx.na_Row_heights (by assumption)) (by with_unfolding_all exact Nat.le_of_ble_eq_true rfl) ?_)
    | (with_reducible refine Z.ws_fld (by with_unfolding_all rfl) (Lw.Tx.cl_Row (by assumption)) (Lw.Tx.na_Row_days (by assumption)) (by with_unfolding_all exact Nat.le_of_ble_eq_true rfl) ?_)
    | (with_reducible refine Z.ws_fld (by with_unfolding_all rfl) (Lw.Tx.cl_Row (by assumption)) (Lw.Tx.na_Row_total (by assumption)) (by with_unfolding_all exact Nat.le_of_ble_eq_true rfl) ?_)
    | (with_reducible refine Z.ws_seqN (by first | (dsimp only [Z.env0, Lw.N_law, Z.heardX, Z.Env.set, Z.Env.at, Z.Env.up, List.set, List.length_cons, List.length_nil, List.length, Nat.reduceAdd, Nat.reduceSub, Nat.zero_add, List.replicate_succ, List.replicate_zero, List.map, List.cons_append, List.nil_append, List.append_eq, List.append] <;> exact rfl) | exact rfl) ?_)
    | (with_reducible refine Z.ws_if ?_)
    | (with_reducible refine Z.ws_ret ?_)
    | (with_reducible refine Z.ws_own (Z.wo_lst ?_))
    | (with_reducible refine Z.ws_own (Z.wo_lc ?_))
    | (with_reducible refine Z.ws_own (Z.wo_listRg ?_))
    | (with_reducible refine Z.ws_asgN ?_)
    | (with_reducible refine Z.ws_asg ?_)
    | (with_reducible refine Z.ws_next ?_)
    | fail)
  | ((with_reducible show Z.Rcb _ _ _ _ _ _); first
    | (with_reducible refine Z.rcb_listT ?_)
    | (with_reducible refine Z.rcb_listL ?_)
    | (with_reducible refine Z.rcb_lenZ ?_)
    | (with_reducible refine Z.rcb_lenZT ?_)
    | (with_reducible refine Z.rcb_lenSL ?_)
    | (with_reducible refine Z.rcb_lenST ?_)
    | (with_reducible refine Z.rcb_lenL ?_)
    | (with_reducible refine Z.rcb_lenT ?_)
    | (with_reducible refine Z.isi_bl_list ?_)
    | (with_reducible refine Z.isi_int_list ?_)
    | (with_reducible refine Z.isi_str_list ?_)
    | (with_reducible refine Z.isi_lst_list ?_)
    | (with_reducible refine Z.isi_tup_list ?_)
    | (with_reducible refine Z.isi_non_list ?_)
    | fail)
  | ((with_reducible show Z.Wt _ _ _ _ _); first
    | (with_reducible refine Z.wt_test ?_)
    | (with_reducible refine Z.wt_B ?_)
    | (with_reducible refine Z.wt_not ?_)
    | fail)
  | ((with_reducible show Z.Wg _ _ _ _ _ _ _); first
    | (with_reducible refine Z.wg_name ?_)
    | fail)
  | ((with_reducible show Exists _); first
    | (with_reducible refine Lw.row_fld (Lw.Tx.cl_Row (by assumption)) (Lw.Tx.na_Row_heights (by assumption)) (Lw.row_heights _) ?_)
    | (with_reducible refine Lw.row_fld (Lw.Tx.cl_Row (by assumption)) (Lw.Tx.na_Row_days (by assumption)) (Lw.row_days _) ?_)
    | (with_reducible refine Lw.row_fld (Lw.Tx.cl_Row (by assumption)) (Lw.Tx.na_Row_gains (by assumption)) (Lw.row_gains _) ?_)
    | (with_reducible refine Lw.row_fld (Lw.Tx.cl_Row (by assumption)) (Lw.Tx.na_Row_total (by assumption)) (Lw.row_total _) ?_)
    | (with_reducible refine Lw.row_meth ?_)
    | fail)
  | (with_reducible first
    | refine Z.bF (Z.nd_self _) ?_
    | refine Z.bT (Z.d_self _) ?_
    | refine Z.b1 ?_
    | refine Z.b0 ?_
    | refine Z.bN0 ?_
    | refine Z.bN1 ?_
    | refine Z.bF (Z.nd_of (by kpc_turns)) ?_
    | refine Z.bT (Z.d_of (by kpc_turns)) ?_
    | fail)
  | ((fail_if_success (with_reducible refine Z.spl ?_ ?_)); first
    | (refine ⟨Nat.le_of_ble_eq_true rfl, ?_⟩)
    | (refine ⟨_, rfl, ?_⟩)
    | (refine ⟨_, _, rfl, ?_⟩)
    | (refine ⟨_, _, _, rfl, ?_⟩)
    | (refine ⟨_, _, _, _, rfl, ?_⟩)
    | (refine ⟨(show (_ = _) by with_unfolding_all rfl), ?_⟩)
    | (refine ⟨⟨(show (_ = _) by with_unfolding_all rfl), (show (_ = _) by with_unfolding_all rfl)⟩, ?_⟩))
  | fail)
local macro_rules | `(tactic| kt_ors) => `(tactic| ((repeat mem_news); (try dsimp only); (try rfl)))
local macro_rules | `(tactic| leaf_len) => `(tactic| ((repeat' (first | (with_reducible first | refine Z.bF (Z.nd_self _) ?_ | refine Z.bT (Z.d_self _) ?_ | refine Z.b1 ?_ | refine Z.b0 ?_ | refine Z.bN0 ?_ | refine Z.bN1 ?_) | ((with_reducible refine Z.spl (fun hb => ?_) (fun hb => ?_)) <;> (try simp only [decide_eq_true_eq, decide_eq_false_iff_not, Bool.not_eq_true', Bool.not_eq_false', Bool.not_eq_true, Bool.not_eq_false] at hb)) | mem_news | fail)); (all_goals (try dsimp only)); (all_goals (try rfl))))

namespace Lw
open PySem L2
section
variable {P : Program} {w : World} {K : PySem.W.Frag} {mg : Str → Option Value} {base : Heap}
theorem ok_law (T : Tx K mg) {fd : FuncData} (F : FunD K d_law.name d_law.qual d_law.params d_law.body d_law.scope (d_law.dvs K) (d_law.kws K) (He.fAd K d_law.at_) fd) : FnOk P w K mg base CX0 9 (He.fAd K d_law.at_) fd ["_law_script"] (Z.spL K) := by
  obtain ⟨fd_Llength_right, g_Llength_right⟩ := ok_Llength_right (P := P) (w := w) (base := base) T
  obtain ⟨fd_Ldrip, g_Ldrip⟩ := ok_Ldrip (P := P) (w := w) (base := base) T
  obtain ⟨fd_Lknown, g_Lknown⟩ := ok_Lknown (P := P) (w := w) (base := base) T
  obtain ⟨fd_Lgains, g_Lgains⟩ := ok_Lgains (P := P) (w := w) (base := base) T
  obtain ⟨fd_Lany, g_Lany⟩ := ok_Lany (P := P) (w := w) (base := base) T
  obtain ⟨fd_Ltap, g_Ltap⟩ := ok_Ltap (P := P) (w := w) (base := base) T
  have b_Llength_right_0 : Binds K fd_Llength_right ["_law_tap_here", "_law_gains_here", "_law_length"] [] := g_Llength_right.fn.bindsN fun _ _ _ _ _ _ us hl => match us, hl with | [_, _, _], _ => rfl
  have b_Ldrip_0 : Binds K fd_Ldrip ["_law_tap_here", "_law_many"] [] := g_Ldrip.fn.bindsN fun _ _ _ _ _ _ us hl => match us, hl with | [_, _], _ => rfl
  have b_Lknown_0 : Binds K fd_Lknown ["_law_tap_here"] [] := g_Lknown.fn.bindsN fun _ _ _ _ _ _ us hl => match us, hl with | [_], _ => rfl
  have b_Lgains_0 : Binds K fd_Lgains ["_law_tap_here", "_law_days"] [] := g_Lgains.fn.bindsN fun _ _ _ _ _ _ us hl => match us, hl with | [_, _], _ => rfl
  have b_Lany_0 : Binds K fd_Lany ["_law_tap_here", "_law_some"] [] := g_Lany.fn.bindsN fun _ _ _ _ _ _ us hl => match us, hl with | [_, _], _ => rfl
  have b_Ltap_0 : Binds K fd_Ltap ["_law_script"] [] := g_Ltap.fn.bindsN fun _ _ _ _ _ _ us hl => match us, hl with | [_], _ => rfl
  refine F.ok sc_law Z.spL_len (fun cdv A outer s H vs Q EX hr h => ⟨_, PSs.nox (pss_cons (ps_set (i := 1) sc_law.nd rfl (Or.inr rfl) (pe_call g_Ltap.ok (hr.mono (by decide)) rfl T.g_Ltap g_Ltap.fn.kp b_Ltap_0 .nil pass0 (pa_cons (pv 0) pa_nil))) (pss_cons (ps_for PassesOwn.never rfl (pi_range1 rfl T.f_range (pa_cons pe_int pa_nil)) (pg_name (i := 2) sc_law.nd rfl (Or.inl rfl)) (pss_cons (ps_set (i := 3) sc_law.nd rfl (Or.inr rfl) (pe_call g_Lgains.ok (hr.mono (by decide)) rfl T.g_Lgains g_Lgains.fn.kp b_Lgains_0 .nil pass0 (pa_cons (pv 1) (pa_cons (pe_call g_Lany.ok (hr.mono (by decide)) rfl T.g_Lany g_Lany.fn.kp b_Lany_0 .nil pass0 (pa_cons (pv 1) (pa_cons (pe_lst (pa_cons pe_int (pa_cons pe_int (pa_cons pe_int (pa_cons pe_int (pa_cons pe_int (pa_cons pe_int (pa_cons pe_int (pa_cons pe_int (pa_cons pe_int (pa_cons pe_int pa_nil))))))))))) pa_nil))) pa_nil)))) (pss_cons (ps_if (pt_cmpR (op_eqD hr.units) (pe_call g_Ldrip.ok (hr.mono (by decide)) rfl T.g_Ldrip g_Ldrip.fn.kp b_Ldrip_0 .nil pass0 (pa_cons (pv 1) (pa_cons pe_int pa_nil))) pe_int (nomark _)) (pss_one (ps_set (i := 3) sc_law.nd rfl (Or.inr rfl) (pe_call g_Lknown.ok (hr.mono (by decide)) rfl T.g_Lknown g_Lknown.fn.kp b_Lknown_0 .nil pass0 (pa_cons (pv 1) pa_nil)))) pss_nil) (pss_cons (ps_set (i := 4) sc_law.nd rfl (Or.inr rfl) (pe_callB call_len (by rfl) T.f_len (by decide +kernel) (pa_cons (pv 3) pa_nil))) (pss_cons (ps_set (i := 5) sc_law.nd rfl (Or.inl rfl) (pe_ifExp (pt_cmpR op_lt (pv 4) pe_int (nomark _)) (pe_listRg rfl (by rfl) T.f_list (prg_2 (by rfl) T.f_range pe_int (pe_op Z.op_addU (pv 4) pe_int))) (pe_op Z.op_addU (pe_lc (own := [("_law_draw", 7)]) rfl sc_law.nd (pi_range1 rfl T.f_range (pa_cons pe_int pa_nil)) (blkOk_by (N := N_law) (sc := defScope s_law) (by decide +kernel)) (fun _ _ _ _ _ => (pg_name (i := 7) sc_law.nd rfl (Or.inl rfl))) (fun _ _ _ _ _ => pts_nil) (fun _ _ _ _ _ => (pe_op (show OpR _ _ (Z.rAddU K) from Z.op_addU) pe_int (pe_call g_Ldrip.ok (hr.mono (by decide)) rfl T.g_Ldrip g_Ldrip.fn.kp b_Ldrip_0 .nil pass0 (pa_cons (pv 1) (pa_cons (pv 4) pa_nil)))))) (pe_lst (pa_cons (pv 4) (pa_cons pe_int pa_nil)))))) (pss_one (ps_if (pt_cmpR (op_neD hr.units) (pe_lc (own := [("_law_length", 6)]) rfl sc_law.nd (Z.pi_any (pv 5)) (blkOk_by (N := N_law) (sc := defScope s_law) (by decide +kernel)) (fun _ _ _ _ _ => (pg_name (i := 6) sc_law.nd rfl (Or.inl rfl))) (fun _ _ _ _ _ => (pts_one (pt_not (pt_val (pe_call g_Llength_right.ok (hr.mono (by decide)) rfl T.g_Llength_right g_Llength_right.fn.kp b_Llength_right_0 .nil pass0 (pa_cons (pv 1) (pa_cons (pv 3) (pa_cons (pv 6) pa_nil)))))))) (fun _ _ _ _ _ => (pv 6))) (pe_lst pa_nil) (nomark _)) (pss_one (ps_ret pe_bl)) pss_nil))))))) (pss_one (ps_ret pe_bl)))), Z.bodyL h ?_⟩)
  intro ns hns
  dsimp only [cxOf]
  refine Z.ws_seq (Z.ws_own ?_)
  refine Z.wo_call (dds := []) (fun _ => .nil) ?_
  kt_ors
  refine Z.called_O ns rfl ?_ hns
  refine Z.ws_tap (i := 1) (cells := ns.take 60) (n := 0) rfl (by rw [List.length_take]; omega) (fun _ _ _ => id) fun t => ?_
  refine Z.ws_seq (Z.ws_for (js := [2]) (Z.wi_r1 ?_))
  kt_ors
  refine ⟨by omega, fun i E' => ∃ a b c d m, E' = ⟨[.d (.scr ns), .d (.ad t), a, b, c, d, .no, .no], m⟩ ∧ m ≤ 1000 * i, ⟨.no, .no, .no, .no, 0, rfl, Nat.zero_le _⟩, ?_, ?_⟩
  · rintro i d _ hd ⟨a, b, c, x, m, rfl, hm⟩
    obtain ⟨hi, rfl⟩ := Z.rg_get hd
    kt_ors
    rename_i drawnAny drawnIn
    obtain ⟨k, rfl, hk1, hk2⟩ := Z.all_IB2 1 48 drawnIn (by with_unfolding_all rfl)
    obtain ⟨k, rfl⟩ : ∃ q : Nat, k = q := ⟨k.toNat, by omega⟩
    have hb : m + 1 + 200 ≤ 1000000 := by omega
    refine Z.called_T k rfl (by with_unfolding_all rfl) ?_ (by omega) hb
    rintro _ ⟨gs, rfl, hgl⟩
    refine Z.wg_name ?_
    refine Z.ws_seq (Z.ws_join (fun E' => ∃ gs m', E' = ⟨[.d (.scr ns), .d (.ad t), .d (.int (0 + i)), .d (.lst (Z.zs gs)), c, x, .no, .no], m'⟩ ∧ 1 ≤ gs.length ∧ gs.length ≤ 48 ∧ m' ≤ m + 300) ?_ ?_)
    · leaf_len
      · exact ⟨by assumption, by kfm_turns, by kfm_turns⟩
      · exact ⟨by omega, by omega, by kfm_turns⟩
    rintro _ ⟨gs, m', rfl, hg1, hg2, hm'⟩
    refine Z.ws_cut (fun E' => E' = ⟨[.d (.scr ns), .d (.ad t), .d (.int (0 + i)), .d (.lst (Z.zs gs)), .d (.int gs.length), x, .no, .no], m'⟩) ?_ ?_
    · kt_ors
    rintro _ rfl
    refine Z.ws_cut (fun E' => ∃ ls m2, E' = ⟨[.d (.scr ns), .d (.ad t), .d (.int (0 + i)), .d (.lst (Z.zs gs)), .d (.int gs.length), .d (.lst (Z.zs ls)), .no, .no], m2⟩ ∧ ls.length ≤ 48 ∧ (∀ y ∈ ls, 1 ≤ y ∧ y ≤ gs.length) ∧ m2 ≤ m' + 8) ?_ ?_
    · kt_ors
      refine ⟨fun h1 => ?_, fun h1 => ?_⟩
      · rw [decide_eq_true_eq] at h1
        refine Z.we_of (Z.wo_listRg (Z.wr_2 ?_))
        kt_ors
        refine ⟨1, _, rfl, rfl, by omega, ?_⟩
        rw [show Z.rangeD 1 ((gs.length : Int) + 1 - 1).toNat = Z.zs ((List.range gs.length).map fun i : Nat => (1 : Int) + i) by
          unfold Z.rangeD Z.zs
          rw [List.map_map, show ((gs.length : Int) + 1 - 1).toNat = gs.length by omega]
          exact List.map_congr_left fun _ _ => rfl]
        refine Z.wg_name ⟨_, m', rfl, by rw [List.length_map, List.length_range]; omega, fun y hy => ?_, by omega⟩
        obtain ⟨j, hj, rfl⟩ := List.mem_map.mp hy
        have := List.mem_range.mp hj
        omega
      · kt_ors
        refine Z.we_of (Z.wo_draw (m := 1) (fun y => ∃ i : Int, y = .int i ∧ (1 ≤ i ∧ i ≤ gs.length)) (Z.wi_r1 ?_))
        kt_ors
        refine ⟨by omega, by rw [Z.rangeD_length]; omega, fun s hs => by cases hs; exact id, fun j d q hd hq => ?_, fun res q hr hp hq => ?_⟩
        · obtain ⟨hj, rfl⟩ := Z.rg_get hd
          have hj8 : j < 8 := hj
          have hq' : q ≤ m' + 1 * j := hq
          kt_ors
          exact ⟨⟨_, rfl, by omega, by omega⟩, Nat.le_refl _, rfl⟩
        · rw [Z.rangeD_length] at hr hq
          have hq' : q ≤ m' + 1 * 8 := hq
          have hr' : res.length = 8 := hr
          obtain ⟨ls, rfl, hls⟩ := Z.of_zsP hp
          rw [Z.zs_length] at hr'
          refine Z.we_of (Z.wo_lst ?_)
          kt_ors
          refine Z.rop_cat (by rw [Z.zs_length]; simp; omega) ?_
          refine Z.wg_name ⟨ls ++ [(gs.length : Int), 1], q, by rw [show Z.zs ls ++ [Z.D.int gs.length, Z.D.int 1] = Z.zs (ls ++ [(gs.length : Int), 1]) by unfold Z.zs; rw [List.map_append]; rfl]; rfl, by rw [List.length_append]; simp; omega, fun y hy => ?_, by omega⟩
          rcases List.mem_append.mp hy with hy | hy
          · exact hls y hy
          · simp only [List.mem_cons, List.not_mem_nil, or_false] at hy
            rcases hy with rfl | rfl <;> omega
    rintro _ ⟨ls, m2, rfl, hl1, hl2, hm2⟩
    kt_ors
    refine Z.we_of (Z.wo_none (m := 1) (Z.wi_any ?_))
    kt_ors
    refine ⟨_, .inl rfl, by rw [Z.zs_length]; omega, fun s hs => by cases hs; exact id, fun j d q hd hq => ?_, fun q hq => ?_⟩
    · obtain ⟨y, hy, rfl⟩ := Z.zs_get hd
      have hj := (List.getElem?_eq_some_iff.mp hy).1
      obtain ⟨y1, y2⟩ := hl2 y (List.mem_of_getElem? hy)
      obtain ⟨y, rfl⟩ : ∃ z : Nat, y = z := ⟨y.toNat, by omega⟩
      have hq' : q ≤ m2 + 1 * j := hq
      kt_ors
      exact ⟨Nat.le_refl _, rfl⟩
    · rw [Z.zs_length] at hq
      have hq' : q ≤ m2 + 1 * ls.length := hq
      kt_ors
      exact ⟨_, _, _, _, q, rfl, by omega⟩
  · rintro _ ⟨a, b, c, x, m, rfl, hm⟩
    kt_ors
end
end Lw
end
theorem PySem.Challenge.cw_anyseven_k07_least_and_greatest_sums_holds : PySem.Challenge.rw_anyseven_k07_least_and_greatest_sums.Holds := by
  refine Lw.fin ?_
  intro _ _ _ _ T _ F
  exact Lw.ok_law T F

