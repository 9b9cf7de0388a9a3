import PyProof.Rows.All
import Wide.All
import OpenK.AllK
import Wide.FinOn
import HandS.ForMost
import HandS.Walk
import HandS.SortInts
import HandS.Wide
import HandS.TupLe
import HandS.TupAny
import HandS.TupMul
import HandS.IsInst
import HandS.Zip
import HandS.SetFor
import HandS.TupSets
import HandS.SortOrd
import HandS.NamedTupSort
import HandS.More
import KE.GoesEnum
import HandS.Strs
import HandS.Conv
import HandS.Style
import HandS.SetBool
import HandS.EndBits
import HandS.WordsExc
import HandS.ExcInit
import HandS.ExcField
import HandS.ExcIs
import KE.KExcIs
import PyProof.Rows.ReprShort
import PySem.Challenge.RW_viewstrike_k04_settled_variables_and_par
set_option Elab.async false
set_option linter.all false
set_option maxRecDepth 100000
set_option maxHeartbeats 4000000
namespace Mn
open PySem PySem.Spec PyProof.Rows L2
/-! data in the heap -/
mutual
inductive Rp (K : PySem.W.Frag) (G : Hp) : V → PyData → Prop
  | non : Rp K G .non .none
  | bl (b : Bool) : Rp K G (.bl b) (.bool b)
  | int (i : Int) : Rp K G (.int i) (.int i)
  | str (x : Str) : Rp K G (.str x) (.str x)
  | lst {a : Addr} {vs : List V} {ds : List PyData} : G a = some (.lst vs) → RpA K G vs ds → Rp K G (.ref a) (.list ds)
  | tup {a : Addr} {vs : List V} {ds : List PyData} : G a = some (.tup vs) → RpA K G vs ds → Rp K G (.ref a) (.tuple ds)
  | dict0 {a : Addr} : G a = some (.dK []) → Rp K G (.ref a) (.dict [])
inductive RpA (K : PySem.W.Frag) (G : Hp) : List V → List PyData → Prop
  | nil : RpA K G [] []
  | cons {v : V} {vs : List V} {d : PyData} {ds : List PyData} : Rp K G v d → RpA K G vs ds → RpA K G (v :: vs) (d :: ds)
end
theorem sqT_mono {K : PySem.W.Frag} {G G' : Hp} {a : Addr} {vs : List V} (s : Same G G') (h : SqT K G a vs) : SqT K G' a vs := by
  rcases h with (h | ⟨o, h⟩) | h
  · exact .inl (.inl (s _ _ h))
  · exact .inl (.inr ⟨o, s _ _ h⟩)
  · exact .inr h
mutual
theorem Rp.mono {K : PySem.W.Frag} {G G' : Hp} (s : Same G G') : ∀ {v : V} {d : PyData}, Rp K G v d → Rp K G' v d
  | _, _, .non => .non
  | _, _, .bl b => .bl b
  | _, _, .int i => .int i
  | _, _, .str x => .str x
  | _, _, .lst h a => .lst (s _ _ h) (RpA.mono s a)
  | _, _, .tup h a => .tup (s _ _ h) (RpA.mono s a)
  | _, _, .dict0 h => .dict0 (s _ _ h)
theorem RpA.mono {K : PySem.W.Frag} {G G' : Hp} (s : Same G G') : ∀ {vs : List V} {ds : List PyData}, RpA K G vs ds → RpA K G' vs ds
  | _, _, .nil => .nil
  | _, _, .cons a b => .cons (Rp.mono s a) (RpA.mono s b)
end
theorem RpA.length {K : PySem.W.Frag} {G : Hp} : ∀ {vs : List V} {ds : List PyData}, RpA K G vs ds → vs.length = ds.length
  | _, _, .nil => rfl
  | _, _, .cons _ b => by rw [List.length_cons, List.length_cons, RpA.length b]
theorem RpA.get {K : PySem.W.Frag} {G : Hp} : ∀ {vs : List V} {ds : List PyData} {i : Nat} {d : PyData}, RpA K G vs ds → ds[i]? = some d → ∃ v, vs[i]? = some v ∧ Rp K G v d
  | _, _, _, _, .nil, e => by simp at e
  | _, _, 0, d, .cons a _, e => by simp at e; subst e; exact ⟨_, rfl, a⟩
  | _, _, i + 1, d, .cons _ b, e => by
    obtain ⟨v, e1, r⟩ := RpA.get (i := i) b (by simpa using e)
    exact ⟨v, by simpa using e1, r⟩
theorem RpA.getV {K : PySem.W.Frag} {G : Hp} : ∀ {vs : List V} {ds : List PyData} {i : Nat} {v : V}, RpA K G vs ds → vs[i]? = some v → ∃ d, ds[i]? = some d ∧ Rp K G v d
  | _, _, _, _, .nil, e => by simp at e
  | _, _, 0, d, .cons a _, e => by simp at e; subst e; exact ⟨_, rfl, a⟩
  | _, _, i + 1, d, .cons _ b, e => by
    obtain ⟨v, e1, r⟩ := RpA.getV (i := i) b (by simpa using e)
    exact ⟨v, by simpa using e1, r⟩
theorem RpA.append {K : PySem.W.Frag} {G : Hp} : ∀ {vs ws : List V} {ds es : List PyData}, RpA K G vs ds → RpA K G ws es → RpA K G (vs ++ ws) (ds ++ es)
  | _, _, _, _, .nil, b => b
  | _, _, _, _, .cons a t, b => .cons a (RpA.append t b)
theorem RpA.take {K : PySem.W.Frag} {G : Hp} : ∀ {vs : List V} {ds : List PyData} (n : Nat), RpA K G vs ds → RpA K G (vs.take n) (ds.take n)
  | _, _, 0, _ => .nil
  | _, _, n + 1, .nil => .nil
  | _, _, n + 1, .cons a b => .cons a (RpA.take n b)
theorem RpA.drop {K : PySem.W.Frag} {G : Hp} : ∀ {vs : List V} {ds : List PyData} (n : Nat), RpA K G vs ds → RpA K G (vs.drop n) (ds.drop n)
  | _, _, 0, h => h
  | _, _, n + 1, .nil => .nil
  | _, _, n + 1, .cons a b => RpA.drop n b
theorem RpA.erase {K : PySem.W.Frag} {G : Hp} : ∀ {vs : List V} {ds : List PyData} (n : Nat), RpA K G vs ds → RpA K G (vs.eraseIdx n) (ds.eraseIdx n)
  | _, _, 0, .cons a b => b
  | _, _, n + 1, .cons a b => .cons a (RpA.erase n b)
  | _, _, 0, .nil => .nil
  | _, _, n + 1, .nil => .nil
theorem RpA.ints {K : PySem.W.Frag} {G : Hp} : ∀ {vs : List V} {ns : List Int}, RpA K G vs (ns.map PyData.int) → vs = ns.map V.int
  | _, [], .nil => rfl
  | _, n :: ns, .cons a b => by cases a; rw [RpA.ints b]; rfl
theorem RpA.ofInts {K : PySem.W.Frag} {G : Hp} : ∀ (ns : List Int), RpA K G (ns.map V.int) (ns.map PyData.int)
  | [] => .nil
  | n :: ns => .cons (.int n) (RpA.ofInts ns)
/-! the pen of the laws: its numbers, the next place, what is left -/
structure Pn where
  cells : List Int
  seat : Int
  rest : Int
def PenOk (K : PySem.W.Frag) (pn : Option Addr) (c : Addr) (G H : Hp) (st : Pn) : Prop :=
  match pn with
  | none => True
  | some p => G p = none ∧ H p = some (.lst [.ref c, .int st.seat, .int st.rest]) ∧ G c = some (.lst (st.cells.map V.int))
/-- what a slot holds -/
inductive Sl where
  | d (x : PyData)
  | own (xs : List PyData)
  | pen
  | scr (ns : List Int)
abbrev Ev := List (Option Sl)
structure Fz where
  K : PySem.W.Frag
  pn : Option Addr
  pc : Addr
  H0 : Hp
  G0 : Hp
def SlOk (F : Fz) (G H : Hp) (v : V) : Sl → Prop
  | .d x => Rp F.K G v x
  | .own xs => ∃ a vs, v = .ref a ∧ F.H0 a = none ∧ some a ≠ F.pn ∧ G a = none ∧ H a = some (.lst vs) ∧ RpA F.K G vs xs
  | .pen => ∃ p, F.pn = some p ∧ v = .ref p
  | .scr ns => ∃ a, v = .ref a ∧ (∃ o, F.H0 a = some (.frz o (.lst (ns.map V.int))) ∧ some a ≠ F.pn ∨ SqL F.K (fun _ => none) a (ns.map V.int))
structure Rel (F : Fz) (σ : L2.St) (H G : Hp) (Γ : Ev) (st : Pn) : Prop where
  le : Same G H
  g0 : Same F.G0 G
  fresh : ∀ b o, F.H0 b = some o → G b = F.G0 b
  keep : ∀ b o, F.H0 b = some o → some b ≠ F.pn → H b = some o
  pen : PenOk F.K F.pn F.pc G H st
  slot : ∀ (i : Nat) (s : Sl), Γ[i]? = some (some s) → ∃ v, σ[i]? = some (some v) ∧ SlOk F G H v s
  disj : ∀ (i j : Nat) (xs ys : List PyData) (v : V), i ≠ j → Γ[i]? = some (some (Sl.own xs)) → Γ[j]? = some (some (Sl.own ys)) → σ[i]? = some (some v) → σ[j]? = some (some v) → False
  len : Γ.length = σ.length
/-- an evaluation step: new things alone -/
structure Ext (K : PySem.W.Frag) (pn : Option Addr) (pc : Addr) (H G H' G' : Hp) (st' : Pn) : Prop where
  gg : Same G G'
  gh : Same G' H'
  fr : ∀ b o, H b = some o → G' b = G b
  kp : ∀ b o, H b = some o → some b ≠ pn → H' b = some o
  pen : PenOk K pn pc G' H' st'
theorem PenOk.some_of {K : PySem.W.Frag} {pn : Option Addr} {pc : Addr} {G H : Hp} {st : Pn} (h : PenOk K pn pc G H st) {p : Addr} (e : pn = some p) : ∃ o, H p = some o := by
  subst e
  obtain ⟨_, h, _⟩ := h
  exact ⟨_, h⟩
theorem Rel.h0 {F : Fz} {σ : L2.St} {H G : Hp} {Γ : Ev} {st : Pn} (R : Rel F σ H G Γ st) {b : Addr} {o : HO} (h : F.H0 b = some o) : ∃ o', H b = some o' := by
  by_cases e : some b = F.pn
  · exact R.pen.some_of e.symm
  · exact ⟨o, R.keep b o h e⟩
theorem Rel.step {F : Fz} {σ : L2.St} {H G H' G' : Hp} {Γ : Ev} {st st' : Pn} (R : Rel F σ H G Γ st) (E : Ext F.K F.pn F.pc H G H' G' st') : Rel F σ H' G' Γ st' where
  le := E.gh
  g0 := fun b o h => E.gg b o (R.g0 b o h)
  fresh := fun b o h => by
    obtain ⟨o', h'⟩ := R.h0 h
    rw [E.fr b o' h', R.fresh b o h]
  keep := fun b o h n => E.kp b o (R.keep b o h n) n
  pen := E.pen
  slot := fun i s h => by
    obtain ⟨v, hv, q⟩ := R.slot i s h
    refine ⟨v, hv, ?_⟩
    cases s with
    | d x => exact Rp.mono E.gg q
    | own xs =>
      obtain ⟨a, vs, e, h0, hp, hg, hh, r⟩ := q
      exact ⟨a, vs, e, h0, hp, by rw [E.fr a _ hh]; exact hg, E.kp a _ hh hp, RpA.mono E.gg r⟩
    | pen => exact q
    | scr ns => exact q
  disj := R.disj
  len := R.len
theorem Ext.refl {F : Fz} {σ : L2.St} {H G : Hp} {Γ : Ev} {st : Pn} (R : Rel F σ H G Γ st) : Ext F.K F.pn F.pc H G H G st :=
  ⟨fun _ _ h => h, R.le, fun _ _ _ => rfl, fun _ _ h _ => h, R.pen⟩
theorem Ext.trans {K : PySem.W.Frag} {pn : Option Addr} {pc : Addr} {H G H1 G1 H2 G2 : Hp} {st1 st2 : Pn} (hs : ∀ p, pn = some p → ∃ o, H1 p = some o) (a : Ext K pn pc H G H1 G1 st1) (b : Ext K pn pc H1 G1 H2 G2 st2) : Ext K pn pc H G H2 G2 st2 where
  gg := fun x o h => b.gg x o (a.gg x o h)
  gh := b.gh
  fr := fun x o h => by
    by_cases e : some x = pn
    · obtain ⟨o', h'⟩ := hs x e.symm
      rw [b.fr x o' h', a.fr x o h]
    · rw [b.fr x o (a.kp x o h e), a.fr x o h]
  kp := fun x o h n => b.kp x o (a.kp x o h n) n
  pen := b.pen
/-- a new tracked thing that is put among the frozen ones -/
theorem Ext.new {F : Fz} {σ : L2.St} {H G : Hp} {Γ : Ev} {st : Pn} (R : Rel F σ H G Γ st) {p : Addr} {o : HO} (hp : H p = none) : Ext F.K F.pn F.pc H G (upd H p o) (upd G p o) st where
  gg := fun b u h => by
    have : b ≠ p := fun e => by subst e; rw [R.le _ _ h] at hp; cases hp
    rw [upd_ne this]; exact h
  gh := fun b u h => by
    by_cases e : b = p
    · subst e; rw [upd_same] at h ⊢; exact h
    · rw [upd_ne e] at h ⊢; exact R.le _ _ h
  fr := fun b u h => by
    have : b ≠ p := fun e => by subst e; rw [hp] at h; cases h
    rw [upd_ne this]
  kp := fun b u h _ => by
    have : b ≠ p := fun e => by subst e; rw [hp] at h; cases h
    rw [upd_ne this]; exact h
  pen := by
    have P := R.pen
    revert P
    unfold PenOk
    cases hpn : F.pn with
    | none => exact fun P => P
    | some q =>
      rintro ⟨h1, h2, h3⟩
      have n1 : q ≠ p := fun e => by subst e; rw [hp] at h2; cases h2
      have n2 : F.pc ≠ p := fun e => by subst e; rw [R.le _ _ h3] at hp; cases hp
      exact ⟨by rw [upd_ne n1]; exact h1, by rw [upd_ne n1]; exact h2, by rw [upd_ne n2]; exact h3⟩
/-- a new tracked thing that stays apart -/
theorem Ext.newH {F : Fz} {σ : L2.St} {H G : Hp} {Γ : Ev} {st : Pn} (R : Rel F σ H G Γ st) {p : Addr} {o : HO} (hp : H p = none) : Ext F.K F.pn F.pc H G (upd H p o) G st where
  gg := fun _ _ h => h
  gh := fun b u h => by
    have : b ≠ p := fun e => by subst e; rw [R.le _ _ h] at hp; cases hp
    rw [upd_ne this]; exact R.le _ _ h
  fr := fun _ _ _ => rfl
  kp := fun b u h _ => by
    have : b ≠ p := fun e => by subst e; rw [hp] at h; cases h
    rw [upd_ne this]; exact h
  pen := by
    have P := R.pen
    revert P
    unfold PenOk
    cases hpn : F.pn with
    | none => exact fun P => P
    | some q =>
      rintro ⟨h1, h2, h3⟩
      have n1 : q ≠ p := fun e => by subst e; rw [hp] at h2; cases h2
      exact ⟨h1, by rw [upd_ne n1]; exact h2, h3⟩
/-! readings by evaluation -/
abbrev EvE := Ev → Pn → Option (PyData × Pn)
def tE (F : Fz) (ev : EvE) : TE := fun σ H Q => ∃ G Γ st d st', Rel F σ H G Γ st ∧ ev Γ st = some (d, st') ∧
  ∀ v H' G', Ext F.K F.pn F.pc H G H' G' st' → Rp F.K G' v d → Q v H'
theorem peC {X : Cx} {e : Expr} {t t' : TE} (h : PE X e t) (f : ∀ σ H Q, t' σ H Q → t σ H Q) : PE X e t' := ⟨fun pins s σ H Q I q => h.run pins s σ H Q I (f σ H Q q)⟩
theorem ptC {X : Cx} {e : Expr} {t t' : TT} (h : PT X e t) (f : ∀ σ H Q, t' σ H Q → t σ H Q) : PT X e t' := ⟨fun pins s σ H Q I q => h.run pins s σ H Q I (f σ H Q q)⟩
theorem psC {X : Cx} {st : Stmt} {t t' : TS} (h : PS X st t) (f : ∀ D σ H, t' D σ H → t D σ H) : PS X st t' := ⟨fun pins s σ H D I q => h.run pins s σ H D I (f D σ H q)⟩
theorem pssC {X : Cx} {st : List Stmt} {t t' : TS} (h : PSs X st t) (f : ∀ D σ H, t' D σ H → t D σ H) : PSs X st t' := ⟨fun pins s σ H D I q => h.run pins s σ H D I (f D σ H q)⟩
theorem paC {X : Cx} {es : List Expr} {t t' : TA} (h : PA X es t) (f : ∀ σ H Q, t' σ H Q → t σ H Q) : PA X es t' := ⟨fun pos pins s σ H Q I q => h.run pos pins s σ H Q I (f σ H Q q)⟩
/-! value-level rules by data -/
/-- what an operation does with data: new things alone, no pen -/
structure Nw (H G H' G' : Hp) : Prop where
  gg : Same G G'
  gh : Same G' H'
  fr : ∀ b o, H b = some o → G' b = G b
  kp : ∀ b o, H b = some o → H' b = some o
theorem Nw.ext {F : Fz} {σ : L2.St} {H G H' G' : Hp} {Γ : Ev} {st : Pn} (R : Rel F σ H G Γ st) (m : Nw H G H' G') : Ext F.K F.pn F.pc H G H' G' st where
  gg := m.gg
  gh := m.gh
  fr := m.fr
  kp := fun b o h _ => m.kp b o h
  pen := by
    have P := R.pen
    revert P
    unfold PenOk
    cases hpn : F.pn with
    | none => exact fun P => P
    | some q =>
      rintro ⟨h1, h2, h3⟩
      exact ⟨by rw [m.fr _ _ h2]; exact h1, m.kp _ _ h2, m.gg _ _ h3⟩
theorem Nw.refl {H G : Hp} (h : Same G H) : Nw H G H G := ⟨fun _ _ h => h, h, fun _ _ _ => rfl, fun _ _ h => h⟩
theorem Nw.new {H G : Hp} (le : Same G H) {p : Addr} {o : HO} (hp : H p = none) : Nw H G (upd H p o) (upd G p o) where
  gg := fun b u h => by
    have : b ≠ p := fun e => by subst e; rw [le _ _ h] at hp; cases hp
    rw [upd_ne this]; exact h
  gh := fun b u h => by
    by_cases e : b = p
    · subst e; rw [upd_same] at h ⊢; exact h
    · rw [upd_ne e] at h ⊢; exact le _ _ h
  fr := fun b u h => by
    have : b ≠ p := fun e => by subst e; rw [hp] at h; cases h
    rw [upd_ne this]
  kp := fun b u h => by
    have : b ≠ p := fun e => by subst e; rw [hp] at h; cases h
    rw [upd_ne this]; exact h
def r2 (K : PySem.W.Frag) (g : PyData → PyData → Option PyData) : R2 := fun x y H Q => ∃ G d e r, Same G H ∧ Rp K G x d ∧ Rp K G y e ∧ g d e = some r ∧
  ∀ v H' G', Nw H G H' G' → Rp K G' v r → Q v H'
def rn (K : PySem.W.Frag) (g : List PyData → Option PyData) : List V → Hp → VK → Prop := fun xs H Q => ∃ G ds r, Same G H ∧ RpA K G xs ds ∧ g ds = some r ∧
  ∀ v H' G', Nw H G H' G' → Rp K G' v r → Q v H'
def ev2 (g : PyData → PyData → Option PyData) (a b : EvE) : EvE := fun Γ st => match a Γ st with
  | some (d, st1) => match b Γ st1 with
    | some (e, st2) => match g d e with
      | some r => some (r, st2)
      | none => none
    | none => none
  | none => none
section
variable {X : Cx} {F : Fz} {a b : Expr} {ea eb : EvE} {pos : Pos} {g : PyData → PyData → Option PyData}
theorem t2_of (hK : F.K = X.K) (σ : L2.St) (H : Hp) (Q : VK) (q : tE F (ev2 g ea eb) σ H Q) : tOp (r2 X.K g) (tE F ea) (tE F eb) σ H Q := by
  obtain ⟨G, Γ, st, d, st', R, hev, q⟩ := q
  unfold ev2 at hev
  cases h1 : ea Γ st with
  | none => rw [h1] at hev; cases hev
  | some p1 =>
    obtain ⟨d1, st1⟩ := p1
    rw [h1] at hev
    cases h2 : eb Γ st1 with
    | none => simp only [h2] at hev; cases hev
    | some p2 =>
      obtain ⟨d2, st2⟩ := p2
      simp only [h2] at hev
      cases h3 : g d1 d2 with
      | none => simp only [h3] at hev; cases hev
      | some r =>
        simp only [h3] at hev
        obtain ⟨rfl, rfl⟩ := Prod.mk.inj (Option.some.inj hev)
        refine ⟨G, Γ, st, d1, st1, R, h1, fun v1 H1 G1 E1 r1 => ?_⟩
        have R1 := R.step E1
        refine ⟨G1, Γ, st1, d2, st2, R1, h2, fun v2 H2 G2 E2 r2' => ?_⟩
        have R2 := R1.step E2
        refine ⟨G2, d1, d2, r, R2.le, ?_, ?_, h3, fun v3 H3 G3 m r3 => ?_⟩
        · rw [← hK]; exact Rp.mono E2.gg r1
        · rw [← hK]; exact r2'
        · have E12 := Ext.trans (fun p e => R1.pen.some_of e) E1 E2
          have E3 := Ext.trans (fun p e => R2.pen.some_of e) E12 (m.ext R2)
          exact q v3 H3 G3 E3 (by rw [hK]; exact r3)
theorem pe_bin (hK : F.K = X.K) {op : Operator} (ho : OpR X (binaryOp op) (r2 X.K g)) (ha : PE X a (tE F ea)) (hb : PE X b (tE F eb)) : PE X (.BinOp a op b pos) (tE F (ev2 g ea eb)) :=
  peC (pe_op ho ha hb) fun σ H Q q => t2_of hK σ H Q q
theorem pe_cmp2 (hK : F.K = X.K) {op : CmpOp} (ho : OpR X (compareOp op) (r2 X.K g)) (ha : PE X a (tE F ea)) (hb : PE X b (tE F eb)) (hm : behindInMarks op b = false) : PE X (.Compare a [op] [b] pos) (tE F (ev2 g ea eb)) :=
  peC (pe_cmpR ho ha hb hm) fun σ H Q q => t2_of hK σ H Q q
theorem pe_ix2 (hK : F.K = X.K) (ho : IxR X (r2 X.K g)) (ha : PE X a (tE F ea)) (hb : PE X b (tE F eb)) (hs : PlainIx b) : PE X (.Subscript a b pos) (tE F (ev2 g ea eb)) :=
  peC (pe_ix ho ha hb hs) fun σ H Q q => t2_of hK σ H Q q
end
end Mn
namespace Mn
open PySem PySem.Spec PyProof.Rows L2
/-! a tuple compared with the empty one -/
theorem teq_nil (l b : Addr) (its its2 : Array Value) (n n2 : Nat) (dd dd2 : Option Addr) (sl sl2 : Array (Option Value)) (he : its2 = #[]) :
    Meets (Builtin.«tuple.__eq__» ⟨[.ref l, .ref b], []⟩) (fun _ R s => s.heap.get? l = some { cls := .type "tuple", dict := dd, data := .seq its n, slots := sl } ∧ s.heap.get? b = some { cls := .type "tuple", dict := dd2, data := .seq its2 n2, slots := sl2 } ∧ R (.ok (.ret (.bool its.isEmpty))) s) :=
  .of_wp fun prog w A R s hyp => by
    obtain ⟨hh, gg, drw, tks, osx⟩ := s
    obtain ⟨at1, at2, go⟩ := hyp
    have su := AutoSeq1.sub_tuple_tuple
    subst he
    wp_walk using wpAny_loadPart' at1, wpAny_loadPart' at2, wpAny_forIn_list _ (fun rest b s' => b.1 = none ∧ s' = ⟨hh, gg, drw, tks, osx⟩ ∧ rest = []) _
    case turn =>
      rintro x rest b s' ⟨_, _, e⟩
      cases e
    case fin =>
      rintro ⟨b1, b2⟩ s' ⟨e1, rfl, _⟩
      simp only at e1
      subst e1
      wp_walk
      refine ⟨_, rfl, ?_⟩
      have e : Builtin.Tuple.tupleCompareSizes .Eq its.size 0 = .bool its.isEmpty := by
        unfold Builtin.Tuple.tupleCompareSizes
        simp
        rfl
      simpa [e] using go
    case h =>
      refine ⟨rfl, rfl, ?_⟩
      simp
section
variable {prog : Program} {w : World} {A : Around} {E : Value → Shared → Prop} {s : Shared}
theorem eq_tupNil {l b : Addr} {its : Array Value} {Q : Value → Shared → Prop} (h1 : IsTup s.heap l its) (h2 : IsTup s.heap b #[]) (hu : A.units < cLine) (q : Q (.bool its.isEmpty) s) : wpAny (model prog w) A (compareOp .Eq (.ref l) (.ref b)) Q E s := by
  obtain ⟨⟨c1, d1, x1, s1⟩, o1, e1, n1, f1⟩ := id h1
  obtain ⟨⟨c2, d2, x2, s2⟩, o2, e2, n2, f2⟩ := id h2
  simp only at e1 f1 e2 f2
  subst e1 f1 e2 f2
  exact richCompare_meets_room (op := .Eq) ⟨_, o1, rfl⟩ ⟨_, o2, rfl⟩ PySem.F.slot_tuple_eq PySem.F.entry_tuple_eq (PySem.F.args_tuple_eq_2 _ _) (teq_nil l b its #[] n1 n2 d1 d2 s1 s2 rfl)
    ⟨o1, o2, show Value.bool its.isEmpty ≠ Value.notImplemented ∧ Q (.bool its.isEmpty) s from ⟨(fun x => nomatch x), q⟩⟩ hu
end
def intsD : List PyData → Option (List Int)
  | [] => some []
  | .int b :: r => match intsD r with
    | some bs => some (b :: bs)
    | none => none
  | _ :: _ => none
theorem RpA.intsD {K : PySem.W.Frag} {G : Hp} : ∀ {vs : List V} {ds : List PyData} {bs : List Int}, RpA K G vs ds → intsD ds = some bs → vs = bs.map V.int
  | _, _, _, .nil, e => by cases e; rfl
  | _, _, _, .cons (d := d) (ds := ds) a b, e => by
    cases d with
    | int k =>
      simp only [Mn.intsD] at e
      cases h : Mn.intsD ds with
      | none => rw [h] at e; cases e
      | some bs =>
        rw [h] at e
        cases e
        cases a
        rw [RpA.intsD b h]
        rfl
    | _ => cases e
theorem intsD_map : ∀ ns : List Int, intsD (ns.map PyData.int) = some ns
  | [] => rfl
  | n :: ns => by simp only [List.map_cons, intsD, intsD_map ns]
/-! tuples of ints in order -/
theorem lexAt_shift (e r : Nat → Bool) (z : Bool) : ∀ k i, Ob.lexAt (fun j => e (j + 1)) (fun j => r (j + 1)) z i k = Ob.lexAt e r z (i + 1) k
  | 0, i => rfl
  | k + 1, i => by rw [Ob.lexAt_succ, Ob.lexAt_succ, lexAt_shift e r z k (i + 1)]
def lexB (f : Int → Int → Bool) (g : Nat → Nat → Bool) (ns ms : List Int) : Bool := Ob.lexAt (fun j => decide (ns.getD j 0 = ms.getD j 0)) (fun j => f (ns.getD j 0) (ms.getD j 0)) (g ns.length ms.length) 0 (min ns.length ms.length)
theorem lexB_cons (f : Int → Int → Bool) (g : Nat → Nat → Bool) (hg : ∀ a b, g (a + 1) (b + 1) = g a b) (x y : Int) (xs ys : List Int) : lexB f g (x :: xs) (y :: ys) = if x = y then lexB f g xs ys else f x y := by
  unfold lexB
  rw [List.length_cons, List.length_cons, Nat.add_min_add_right, Ob.lexAt_succ, hg]
  rw [← lexAt_shift (fun j => decide ((x :: xs).getD j 0 = (y :: ys).getD j 0)) (fun j => f ((x :: xs).getD j 0) ((y :: ys).getD j 0))]
  simp only [List.getD_cons_succ, List.getD_cons_zero, decide_eq_true_eq]
theorem lexB_nil (f : Int → Int → Bool) (g : Nat → Nat → Bool) (ns ms : List Int) (h : ns = [] ∨ ms = []) : lexB f g ns ms = g ns.length ms.length := by
  unfold lexB
  have : min ns.length ms.length = 0 := by
    rcases h with h | h <;> (subst h; simp)
  rw [this, Ob.lexAt_zero]
theorem lexLt_nil_right : ∀ ns : List Int, HT.lexLt ns [] = false
  | [] => rfl
  | _ :: _ => rfl
theorem lexLt_nil_left : ∀ ms : List Int, HT.lexLt [] ms = decide (0 < ms.length)
  | [] => rfl
  | _ :: ms => by rw [HT.lexLt_nil_cons]; exact (decide_eq_true (by simp)).symm
theorem lexB_le : ∀ ns ms : List Int, lexB (fun a b => decide (a ≤ b)) (fun a b => decide (a ≤ b)) ns ms = !HT.lexLt ms ns
  | [], ms => by rw [lexB_nil _ _ _ _ (.inl rfl), lexLt_nil_right]; simp
  | x :: xs, [] => by rw [lexB_nil _ _ _ _ (.inr rfl), lexLt_nil_left]; simp
  | x :: xs, y :: ys => by
    rw [lexB_cons _ _ (fun a b => by simp), HT.lexLt_cons, lexB_le xs ys]
    by_cases h : x = y
    · rw [if_pos h, if_pos h.symm]
    · rw [if_neg h, if_neg (Ne.symm h)]
      by_cases h2 : x ≤ y
      · rw [decide_eq_true h2, decide_eq_false (by omega)]; rfl
      · rw [decide_eq_false h2, decide_eq_true (by omega)]; rfl
theorem lexB_ge : ∀ ns ms : List Int, lexB (fun a b => decide (b ≤ a)) (fun a b => decide (a ≥ b)) ns ms = !HT.lexLt ns ms
  | [], ms => by rw [lexB_nil _ _ _ _ (.inl rfl), lexLt_nil_left]; cases ms <;> simp
  | x :: xs, [] => by rw [lexB_nil _ _ _ _ (.inr rfl), lexLt_nil_right]; simp
  | x :: xs, y :: ys => by
    rw [lexB_cons _ _ (fun a b => by simp), HT.lexLt_cons, lexB_ge xs ys]
    by_cases h : x = y
    · rw [if_pos h, if_pos h]
    · rw [if_neg h, if_neg h]
      by_cases h2 : x < y
      · rw [decide_eq_true h2, decide_eq_false (by omega)]; rfl
      · rw [decide_eq_false h2, decide_eq_true (by omega)]; rfl
theorem lexB_gt : ∀ ns ms : List Int, lexB (fun a b => decide (b < a)) (fun a b => decide (a > b)) ns ms = HT.lexLt ms ns
  | [], ms => by rw [lexB_nil _ _ _ _ (.inl rfl), lexLt_nil_right]; simp
  | x :: xs, [] => by rw [lexB_nil _ _ _ _ (.inr rfl), lexLt_nil_left]; simp
  | x :: xs, y :: ys => by
    rw [lexB_cons _ _ (fun a b => by simp), HT.lexLt_cons, lexB_gt xs ys]
    by_cases h : x = y
    · rw [if_pos h, if_pos h.symm]
    · rw [if_neg h, if_neg (Ne.symm h)]
section
variable {X : Cx} {pins : List (Addr × Obj)} {σ : L2.St} {H : Hp} {s : Shared}
/-- two tracked tuples of ints, met by the library's order rules -/
theorem tups_at {a b : Addr} {ns ms : List Int} (I : Inv X pins σ H s) (ha : SqT X.K H a (ns.map V.int)) (hb : SqT X.K H b (ms.map V.int)) (op : CmpOp) (f : Int → Int → Bool) (hf : ∀ (A : Around) (a b : Int) (t u : Tok), Ob.RcOp op A s (.int a t) (.int b u) (f a b)) :
    ∃ its its2 : Array Value, s.heap.IsTuple a its ∧ s.heap.IsTuple b its2 ∧ its.size = ns.length ∧ its2.size = ms.length ∧ (∀ A j (h1 : j < its.size) (h2 : j < its2.size), SeqAt.EqAt A s its[j] its2[j] (decide (ns.getD j 0 = ms.getD j 0))) ∧
      ∀ A j (h1 : j < its.size) (h2 : j < its2.size), Ob.RcOp op A s its[j] its2[j] (f (ns.getD j 0) (ms.getD j 0)) := by
  obtain ⟨l1, r1, p1, _⟩ := I.tuple ha
  obtain ⟨l2, r2, p2, _⟩ := I.tuple hb
  have i1 : IntsAre l1 ns := Vals.ints r1
  have i2 : IntsAre l2 ms := Vals.ints r2
  refine ⟨l1.toArray, l2.toArray, p1, p2, by rw [List.size_toArray]; exact i1.length, by rw [List.size_toArray]; exact i2.length, fun A j h1 h2 => ?_, fun A j h1 h2 => ?_⟩
  · obtain ⟨t, et⟩ : ∃ t, l1.toArray[j] = .int (ns.getD j 0) t := PyProof.Rows.IntsAre.int_at i1 j l1.toArray[j] (by simp)
    obtain ⟨u, eu⟩ : ∃ t, l2.toArray[j] = .int (ms.getD j 0) t := PyProof.Rows.IntsAre.int_at i2 j l2.toArray[j] (by simp)
    rw [et, eu, show decide (ns.getD j 0 = ms.getD j 0) = (ns.getD j 0 == ms.getD j 0) from rfl]
    exact SeqAt.EqAt.int_int _ _ _ _
  · obtain ⟨t, et⟩ : ∃ t, l1.toArray[j] = .int (ns.getD j 0) t := PyProof.Rows.IntsAre.int_at i1 j l1.toArray[j] (by simp)
    obtain ⟨u, eu⟩ : ∃ t, l2.toArray[j] = .int (ms.getD j 0) t := PyProof.Rows.IntsAre.int_at i2 j l2.toArray[j] (by simp)
    rw [et, eu]
    exact hf _ _ _ _ _
def rCmpT (K : PySem.W.Frag) (h : List Int → List Int → Bool) : R2 := fun x y H Q => ∃ (a b : Addr) (ns ms : List Int), x = .ref a ∧ y = .ref b ∧ SqT K H a (ns.map V.int) ∧ SqT K H b (ms.map V.int) ∧ Q (.bl (h ns ms)) H
theorem op_leTI (hu : X.A.units < cLine) : OpR X (compareOp .LtE) (rCmpT X.K fun ns ms => !HT.lexLt ms ns) := by
  intro pins s σ H x y v u Q I rx ry hh
  obtain ⟨a, b, ns, ms, rfl, rfl, ha, hb, q⟩ := hh
  cases rx
  cases ry
  obtain ⟨its, its2, p1, p2, e1, e2, he, hr⟩ := tups_at I ha hb .LtE (fun a b => decide (a ≤ b)) fun A => Ob.RcOp.le_int
  have R := Ob.RcOp.tuples_le (A := X.A) (s := s) (e := fun j => decide (ns.getD j 0 = ms.getD j 0)) (r := fun j => decide (ns.getD j 0 ≤ ms.getD j 0)) p1 p2 hu (he _) fun j h1 h2 _ => hr _ j h1 h2
  rw [e1, e2] at R
  dsimp only at q
  rw [← lexB_le] at q
  exact R X.prog X.w X.xe (EP X pins σ Q) ⟨.bl _, H, I, rfl, q⟩
theorem op_geTI (hu : X.A.units < cLine) : OpR X (compareOp .GtE) (rCmpT X.K fun ns ms => !HT.lexLt ns ms) := by
  intro pins s σ H x y v u Q I rx ry hh
  obtain ⟨a, b, ns, ms, rfl, rfl, ha, hb, q⟩ := hh
  cases rx
  cases ry
  obtain ⟨its, its2, p1, p2, e1, e2, he, hr⟩ := tups_at I ha hb .GtE (fun a b => decide (b ≤ a)) fun A => Ob.RcOp.ge_int
  have R := Ob.RcOp.tuples_ge (A := X.A) (s := s) (e := fun j => decide (ns.getD j 0 = ms.getD j 0)) (r := fun j => decide (ms.getD j 0 ≤ ns.getD j 0)) p1 p2 hu (he _) fun j h1 h2 _ => hr _ j h1 h2
  rw [e1, e2] at R
  dsimp only at q
  rw [← lexB_ge] at q
  exact R X.prog X.w X.xe (EP X pins σ Q) ⟨.bl _, H, I, rfl, q⟩
theorem op_gtTI (hu : X.A.units < cLine) : OpR X (compareOp .Gt) (rCmpT X.K fun ns ms => HT.lexLt ms ns) := by
  intro pins s σ H x y v u Q I rx ry hh
  obtain ⟨a, b, ns, ms, rfl, rfl, ha, hb, q⟩ := hh
  cases rx
  cases ry
  obtain ⟨its, its2, p1, p2, e1, e2, he, hr⟩ := tups_at I ha hb .Gt (fun a b => decide (b < a)) fun A => Ob.RcOp.gt_int
  have R := Ob.RcOp.tuples_gt (A := X.A) (s := s) (e := fun j => decide (ns.getD j 0 = ms.getD j 0)) (r := fun j => decide (ms.getD j 0 < ns.getD j 0)) p1 p2 hu (he _) fun j h1 h2 _ => hr _ j h1 h2
  rw [e1, e2] at R
  dsimp only at q
  rw [← lexB_gt] at q
  exact R X.prog X.w X.xe (EP X pins σ Q) ⟨.bl _, H, I, rfl, q⟩
end
end Mn
namespace Mn
open PySem PySem.Spec PyProof.Rows L2
abbrev LIM : Nat := 1000000
theorem lim_le {n : Nat} (h : n ≤ LIM) : n ≤ sizeLine := by rw [sizeLine_eq]; unfold LIM at h; omega
theorem lim_lt {n : Nat} (h : n ≤ LIM) : n < sizeLine := by rw [sizeLine_eq]; unfold LIM at h; omega
/-! reading data for the library's rules -/
/-- the table of modules stands in the base, and is no list -/
def SMb (b : Heap) : Prop := ∃ o es ep, b.get? sysModules = some o ∧ o.data = .dict es ep
def SM (X : Cx) : Prop := SMb X.base
section
variable {X : Cx} {pins : List (Addr × Obj)} {σ : L2.St} {H G : Hp} {s : Shared}
mutual
theorem Rp.reads (I : Inv X pins σ H s) (le : Same G H) : ∀ {d : PyData} {v : V} {u : Value}, Rp X.K G v d → RelV v u → ∃ as, Reads s.heap u d as ∧ (SM X → sysModules ∉ as)
  | _, _, _, .non, r => by cases r; exact ⟨_, Reads.none, fun _ z => nomatch z⟩
  | _, _, _, .bl b, r => by cases r; exact ⟨_, Reads.bool b, fun _ z => nomatch z⟩
  | _, _, _, .int i, r => by obtain ⟨t, rfl⟩ := r; exact ⟨_, Reads.int i t, fun _ z => nomatch z⟩
  | _, _, _, .str x, r => by obtain ⟨t, rfl⟩ := r; exact ⟨_, Reads.str x t, fun _ z => nomatch z⟩
  | _, _, _, .lst (a := a) h ra, r => by
    cases r
    obtain ⟨its, rv, ⟨o, n, ho, hc, _, hd⟩, _⟩ := I.list (SqL.of (le _ _ h))
    obtain ⟨as, hr, hm⟩ := RpA.reads I le ra rv
    refine ⟨_, Reads.list ho hc hd hr, fun sm z => ?_⟩
    rcases List.mem_cons.mp z with e | z
    · obtain ⟨o', es, ep, h1, h2⟩ := sm
      have h3 := I.bk _ _ h1
      rw [e, ho] at h3
      cases h3
      rw [hd] at h2
      cases h2
    · exact hm sm z
  | _, _, _, .tup h ra, r => by
    cases r
    obtain ⟨its, rv, ⟨o, ho, hc, n, hd⟩, _⟩ := I.tuple (SqT.of (le _ _ h))
    obtain ⟨as, hr, hm⟩ := RpA.reads I le ra rv
    exact ⟨_, Reads.tuple ho hc hd hr, hm⟩
  | _, _, _, .dict0 (a := a) h, r => by
    cases r
    obtain ⟨_, hs, vs, kv, o, es, ep, ho, hx, hd, _, hp, _⟩ := (show ObjOk X.prog X.w H s.heap a (.dK []) from I.hok a _ (le _ _ h))
    cases kv
    have he : es.toList = [] := by
      cases hp' : es.toList with
      | nil => rfl
      | cons e t => rw [hp'] at hp; cases hp
    refine ⟨_, Reads.dict (kvs := []) (as := []) (bs := []) ho hx.1 hd (by rw [he]; exact .nil) (by rw [he]; exact .nil), fun _ z => ?_⟩
    rcases List.mem_cons.mp z with e | z
    · rw [← e] at hs
      simp at hs
    · simp at z
theorem RpA.reads (I : Inv X pins σ H s) (le : Same G H) : ∀ {ds : List PyData} {vs : List V} {us : List Value}, RpA X.K G vs ds → Vals vs us → ∃ as, ReadsAll s.heap us ds as ∧ (SM X → sysModules ∉ as)
  | _, _, _, .nil, r => by cases r; exact ⟨_, ReadsAll.nil, fun _ z => nomatch z⟩
  | _, _, _, .cons a b, r => by
    cases r with
    | cons r1 r2 =>
      obtain ⟨as, q1, m1⟩ := Rp.reads I le a r1
      obtain ⟨bs, q2, m2⟩ := RpA.reads I le b r2
      exact ⟨_, ReadsAll.cons q1 q2, fun sm z => (List.mem_append.mp z).elim (m1 sm) (m2 sm)⟩
end
end
/-! operators over data -/
section
variable {X : Cx}
def gAdd : PyData → PyData → Option PyData
  | .int i, .int j => some (.int (i + j))
  | .list xs, .list ys => if xs.length + ys.length ≤ LIM then some (.list (xs ++ ys)) else none
  | .tuple xs, .tuple ys => if xs.length + ys.length ≤ LIM then some (.tuple (xs ++ ys)) else none
  | _, _ => none
theorem d_add : OpR X (binaryOp .Add) (r2 X.K gAdd) := by
  intro pins s σ H x y v u Q I rx ry h
  obtain ⟨G, d, e, r, le, hd, he, hg, q⟩ := h
  cases hd with
  | int i =>
    cases he with
    | int j =>
      cases hg
      exact op_add pins s σ H _ _ v u Q I rx ry ⟨i, j, rfl, rfl, q _ H G (Nw.refl le) (.int _)⟩
    | _ => cases hg
  | lst h1 a1 =>
    cases he with
    | lst h2 a2 =>
      simp only [gAdd] at hg
      split at hg
      · rename_i hz
        cases hg
        rw [← RpA.length a1, ← RpA.length a2] at hz
        exact op_cat pins s σ H _ _ v u Q I rx ry ⟨_, _, _, _, rfl, rfl, le _ _ h1, le _ _ h2, lim_le hz, fun p hp => q _ _ _ (Nw.new le hp)
          (.lst upd_same (RpA.append (RpA.mono (Nw.new le hp).gg a1) (RpA.mono (Nw.new le hp).gg a2)))⟩
      · cases hg
    | _ => cases hg
  | tup h1 a1 =>
    cases he with
    | tup h2 a2 =>
      simp only [gAdd] at hg
      split at hg
      · rename_i hz
        cases hg
        have l1 := RpA.length a1
        have l2 := RpA.length a2
        rw [← l1, ← l2] at hz
        refine op_catA pins s σ H _ _ v u Q I rx ry ⟨_, _, _, _, rfl, rfl, SqT.of (le _ _ h1), SqT.of (le _ _ h2), lim_le hz, fun e => ?_, fun _ e => ?_, fun _ _ p hp => q _ _ _ (Nw.new le hp)
          (.tup upd_same (RpA.append (RpA.mono (Nw.new le hp).gg a1) (RpA.mono (Nw.new le hp).gg a2)))⟩
        · subst e
          cases a1
          exact q _ H G (Nw.refl le) (.tup h2 (by simpa using a2))
        · subst e
          cases a2
          exact q _ H G (Nw.refl le) (.tup h1 (by simpa using a1))
      · cases hg
    | _ => cases hg
  | _ => cases he <;> cases hg
def gInt (C : Int → Int → Bool) (f : Int → Int → PyData) : PyData → PyData → Option PyData
  | .int i, .int j => if C i j then some (f i j) else none
  | _, _ => none
theorem r2_int {C : Int → Int → Bool} {f : Int → Int → PyData} {x y : V} {H : Hp} {Q : VK} (h : r2 X.K (gInt C f) x y H Q) :
    ∃ i j G, x = .int i ∧ y = .int j ∧ Same G H ∧ C i j = true ∧ ∀ v H' G', Nw H G H' G' → Rp X.K G' v (f i j) → Q v H' := by
  obtain ⟨G, d, e, r, le, hd, he, hg, q⟩ := h
  cases hd with
  | int i =>
    cases he with
    | int j =>
      simp only [gInt] at hg
      split at hg
      · rename_i hc
        cases hg
        exact ⟨i, j, G, rfl, rfl, le, hc, q⟩
      · cases hg
    | _ => cases hg
  | _ => cases he <;> cases hg
def gSub := gInt (fun _ _ => true) fun i j => .int (i - j)
theorem d_sub : OpR X (binaryOp .Sub) (r2 X.K gSub) := by
  intro pins s σ H x y v u Q I rx ry h
  obtain ⟨i, j, G, rfl, rfl, le, hc, q⟩ := r2_int h
  exact op_sub pins s σ H _ _ v u Q I rx ry ⟨i, j, rfl, rfl, q _ H G (Nw.refl le) (.int _)⟩
def gMod := gInt (fun _ j => decide (j ≠ 0)) fun i j => .int (i.fmod j)
theorem d_mod : OpR X (binaryOp .Mod) (r2 X.K gMod) := by
  intro pins s σ H x y v u Q I rx ry h
  obtain ⟨i, j, G, rfl, rfl, le, hc, q⟩ := r2_int h
  exact op_modN pins s σ H _ _ v u Q I rx ry ⟨i, j, rfl, rfl, of_decide_eq_true hc, q _ H G (Nw.refl le) (.int _)⟩
def gFdiv := gInt (fun _ j => decide (j ≠ 0 ∧ j.natAbs < 1073741824)) fun i j => .int (i.fdiv j)
theorem d_fdiv : OpR X (binaryOp .FloorDiv) (r2 X.K gFdiv) := by
  intro pins s σ H x y v u Q I rx ry h
  obtain ⟨i, j, G, rfl, rfl, le, hc, q⟩ := r2_int h
  exact op_fdivN pins s σ H _ _ v u Q I rx ry ⟨i, j, rfl, rfl, of_decide_eq_true (p := j ≠ 0 ∧ j.natAbs < 1073741824) hc, q _ H G (Nw.refl le) (.int _)⟩
def cmpT (f : List Int → List Int → Bool) (xs ys : List PyData) : Option PyData := match intsD xs with
  | some ns => match intsD ys with
    | some ms => some (.bool (f ns ms))
    | none => none
  | none => none
def gLt : PyData → PyData → Option PyData
  | .tuple xs, .tuple ys => cmpT (fun ns ms => HT.lexLt ns ms) xs ys
  | d, e => gInt (fun _ _ => true) (fun i j => .bool (decide (i < j))) d e
def gLe : PyData → PyData → Option PyData
  | .tuple xs, .tuple ys => cmpT (fun ns ms => !HT.lexLt ms ns) xs ys
  | d, e => gInt (fun _ _ => true) (fun i j => .bool (decide (i ≤ j))) d e
def gGt : PyData → PyData → Option PyData
  | .tuple xs, .tuple ys => cmpT (fun ns ms => HT.lexLt ms ns) xs ys
  | d, e => gInt (fun _ _ => true) (fun i j => .bool (decide (i > j))) d e
def gGe : PyData → PyData → Option PyData
  | .tuple xs, .tuple ys => cmpT (fun ns ms => !HT.lexLt ns ms) xs ys
  | d, e => gInt (fun _ _ => true) (fun i j => .bool (decide (i ≥ j))) d e
theorem cmpT_ok {op : CmpOp} {f : List Int → List Int → Bool} (ho : OpR X (compareOp op) (rCmpT X.K f)) {pins : List (Addr × Obj)} {s : Shared} {σ : L2.St} {H : Hp} {x y : V} {v u : Value} {Q : VK} (I : Inv X pins σ H s) (rx : RelV x v) (ry : RelV y u)
    {G : Hp} {xs ys : List PyData} {r : PyData} (le : Same G H) (hd : Rp X.K G x (.tuple xs)) (he : Rp X.K G y (.tuple ys)) (hg : cmpT f xs ys = some r) (q : ∀ v H' G', Nw H G H' G' → Rp X.K G' v r → Q v H') :
    wpAny (model X.prog X.w) X.A (compareOp op v u) (EP X pins σ Q) X.xe s := by
  unfold cmpT at hg
  cases h1 : intsD xs with
  | none => rw [h1] at hg; cases hg
  | some ns =>
    rw [h1] at hg
    cases h2 : intsD ys with
    | none => simp only [h2] at hg; cases hg
    | some ms =>
      simp only [h2] at hg
      cases hg
      cases hd with
      | tup g1 a1 =>
        cases he with
        | tup g2 a2 =>
          have e1 := RpA.intsD a1 h1
          have e2 := RpA.intsD a2 h2
          subst e1 e2
          exact ho pins s σ H _ _ v u Q I rx ry ⟨_, _, ns, ms, rfl, rfl, SqT.of (le _ _ g1), SqT.of (le _ _ g2), q _ H G (Nw.refl le) (.bl _)⟩
theorem op_ltTI {X : Cx} (hu : X.A.units < cLine) : OpR X (compareOp .Lt) (rCmpT X.K fun ns ms => HT.lexLt ns ms) := op_ltT hu
theorem d_lt (hu : X.A.units < cLine) : OpR X (compareOp .Lt) (r2 X.K gLt) := by
  intro pins s σ H x y v u Q I rx ry h
  obtain ⟨G, d, e, r, le, hd, he, hg, q⟩ := h
  by_cases ht : ∃ xs ys, d = .tuple xs ∧ e = .tuple ys
  · obtain ⟨xs, ys, rfl, rfl⟩ := ht
    exact cmpT_ok (op_ltTI hu) I rx ry le hd he hg q
  · have hg' : gInt (fun _ _ => true) (fun i j => .bool (decide (i < j))) d e = some r := by
      cases d <;> cases e <;> first | exact hg | (exact absurd ⟨_, _, rfl, rfl⟩ ht)
    obtain ⟨i, j, G, rfl, rfl, le, hc, q⟩ := r2_int (X := X) (x := x) (y := y) (H := H) (Q := Q) ⟨G, d, e, r, le, hd, he, hg', q⟩
    exact op_lt pins s σ H _ _ v u Q I rx ry ⟨i, j, rfl, rfl, q _ H G (Nw.refl le) (.bl _)⟩
theorem d_le (hu : X.A.units < cLine) : OpR X (compareOp .LtE) (r2 X.K gLe) := by
  intro pins s σ H x y v u Q I rx ry h
  obtain ⟨G, d, e, r, le, hd, he, hg, q⟩ := h
  by_cases ht : ∃ xs ys, d = .tuple xs ∧ e = .tuple ys
  · obtain ⟨xs, ys, rfl, rfl⟩ := ht
    exact cmpT_ok (op_leTI hu) I rx ry le hd he hg q
  · have hg' : gInt (fun _ _ => true) (fun i j => .bool (decide (i ≤ j))) d e = some r := by
      cases d <;> cases e <;> first | exact hg | (exact absurd ⟨_, _, rfl, rfl⟩ ht)
    obtain ⟨i, j, G, rfl, rfl, le, hc, q⟩ := r2_int (X := X) (x := x) (y := y) (H := H) (Q := Q) ⟨G, d, e, r, le, hd, he, hg', q⟩
    exact op_le pins s σ H _ _ v u Q I rx ry ⟨i, j, rfl, rfl, q _ H G (Nw.refl le) (.bl _)⟩
theorem d_gt (hu : X.A.units < cLine) : OpR X (compareOp .Gt) (r2 X.K gGt) := by
  intro pins s σ H x y v u Q I rx ry h
  obtain ⟨G, d, e, r, le, hd, he, hg, q⟩ := h
  by_cases ht : ∃ xs ys, d = .tuple xs ∧ e = .tuple ys
  · obtain ⟨xs, ys, rfl, rfl⟩ := ht
    exact cmpT_ok (op_gtTI hu) I rx ry le hd he hg q
  · have hg' : gInt (fun _ _ => true) (fun i j => .bool (decide (i > j))) d e = some r := by
      cases d <;> cases e <;> first | exact hg | (exact absurd ⟨_, _, rfl, rfl⟩ ht)
    obtain ⟨i, j, G, rfl, rfl, le, hc, q⟩ := r2_int (X := X) (x := x) (y := y) (H := H) (Q := Q) ⟨G, d, e, r, le, hd, he, hg', q⟩
    exact op_gt pins s σ H _ _ v u Q I rx ry ⟨i, j, rfl, rfl, q _ H G (Nw.refl le) (.bl _)⟩
theorem d_ge (hu : X.A.units < cLine) : OpR X (compareOp .GtE) (r2 X.K gGe) := by
  intro pins s σ H x y v u Q I rx ry h
  obtain ⟨G, d, e, r, le, hd, he, hg, q⟩ := h
  by_cases ht : ∃ xs ys, d = .tuple xs ∧ e = .tuple ys
  · obtain ⟨xs, ys, rfl, rfl⟩ := ht
    exact cmpT_ok (op_geTI hu) I rx ry le hd he hg q
  · have hg' : gInt (fun _ _ => true) (fun i j => .bool (decide (i ≥ j))) d e = some r := by
      cases d <;> cases e <;> first | exact hg | (exact absurd ⟨_, _, rfl, rfl⟩ ht)
    obtain ⟨i, j, G, rfl, rfl, le, hc, q⟩ := r2_int (X := X) (x := x) (y := y) (H := H) (Q := Q) ⟨G, d, e, r, le, hd, he, hg', q⟩
    exact op_ge pins s σ H _ _ v u Q I rx ry ⟨i, j, rfl, rfl, q _ H G (Nw.refl le) (.bl _)⟩
/-- == and != of data without dicts -/
def strs2 : PyData → PyData → Option (Str × Str)
  | .str x, .str y => some (x, y)
  | _, _ => none
theorem strs2_ok {K : PySem.W.Frag} {G : Hp} {v w : V} {d e : PyData} {p : Str × Str} (hd : Rp K G v d) (he : Rp K G w e) (h : strs2 d e = some p) : v = .str p.1 ∧ w = .str p.2 := by
  cases hd with
  | str x =>
    cases he with
    | str y => cases h; exact ⟨rfl, rfl⟩
    | _ => cases h
  | _ => cases h
def nilT : PyData → PyData → Option Bool
  | .tuple xs, .tuple [] => some xs.isEmpty
  | _, _ => none
theorem nilT_ok {K : PySem.W.Frag} {G : Hp} {v w : V} {d e : PyData} {k : Bool} (hd : Rp K G v d) (he : Rp K G w e) (h : nilT d e = some k) : ∃ a b vs, v = .ref a ∧ w = .ref b ∧ G a = some (.tup vs) ∧ G b = some (.tup []) ∧ k = vs.isEmpty := by
  cases hd with
  | tup h1 a1 =>
    cases he with
    | tup h2 a2 =>
      cases a2 with
      | nil =>
        cases h
        refine ⟨_, _, _, rfl, rfl, h1, h2, ?_⟩
        cases a1 <;> rfl
      | cons _ _ => cases h
    | _ => cases h
  | _ => cases h
def gEq (d e : PyData) : Option PyData := match strs2 d e with
  | some p => some (.bool (decide (p.1 = p.2)))
  | none => match nilT d e with
  | some k => some (.bool k)
  | none => if SeqAt.shaped d && SeqAt.shaped e then some (.bool (PyData.eqv d e)) else none
def gNe (d e : PyData) : Option PyData := match strs2 d e with
  | some p => some (.bool (!decide (p.1 = p.2)))
  | none => if SeqAt.shaped d && SeqAt.shaped e then some (.bool (!PyData.eqv d e)) else none
theorem d_eq (hu : X.A.units + 64 < cLine) : OpR X (compareOp .Eq) (r2 X.K gEq) := by
  intro pins s σ H x y v u Q I rx ry h
  obtain ⟨G, d, e, r, le, hd, he, hg, q⟩ := h
  unfold gEq at hg
  split at hg
  · rename_i p hp
    cases hg
    obtain ⟨e1, e2⟩ := strs2_ok hd he hp
    subst e1 e2
    exact op_eq pins s σ H _ _ v u Q I rx ry ⟨rfl, by rw [show decide (V.str p.1 = V.str p.2) = decide (p.1 = p.2) by simp]; exact q _ H G (Nw.refl le) (.bl _)⟩
  · split at hg
    · rename_i k hk
      cases hg
      obtain ⟨a, b, vs, rfl, rfl, g1, g2, rfl⟩ := nilT_ok hd he hk
      cases rx
      cases ry
      obtain ⟨its, r1, p1, _⟩ := I.tuple (SqT.of (le _ _ g1))
      obtain ⟨its2, r2, p2, _⟩ := I.tuple (SqT.of (le _ _ g2))
      cases r2
      refine eq_tupNil p1 p2 (by omega) ⟨.bl vs.isEmpty, H, I, ?_, q _ H G (Nw.refl le) (.bl _)⟩
      cases r1 <;> rfl
    split at hg
    · rename_i hs
      rw [Bool.and_eq_true] at hs
      cases hg
      obtain ⟨as, r1, _⟩ := Rp.reads I le hd rx
      obtain ⟨bs, r2, _⟩ := Rp.reads I le he ry
      exact SeqAt.compareEq_shaped r1 r2 hs.1 hs.2 hu ⟨.bl _, H, I, rfl, q _ H G (Nw.refl le) (.bl _)⟩
    · cases hg
theorem d_ne (hu : X.A.units + 64 < cLine) : OpR X (compareOp .NotEq) (r2 X.K gNe) := by
  intro pins s σ H x y v u Q I rx ry h
  obtain ⟨G, d, e, r, le, hd, he, hg, q⟩ := h
  unfold gNe at hg
  split at hg
  · rename_i p hp
    cases hg
    obtain ⟨e1, e2⟩ := strs2_ok hd he hp
    subst e1 e2
    exact op_ne pins s σ H _ _ v u Q I rx ry ⟨rfl, by rw [show decide (V.str p.1 = V.str p.2) = decide (p.1 = p.2) by simp]; exact q _ H G (Nw.refl le) (.bl _)⟩
  · split at hg
    · rename_i hs
      rw [Bool.and_eq_true] at hs
      cases hg
      obtain ⟨as, r1, _⟩ := Rp.reads I le hd rx
      obtain ⟨bs, r2, _⟩ := Rp.reads I le he ry
      exact SeqAt.compareNe_shaped r1 r2 hs.1 hs.2 hu ⟨.bl _, H, I, rfl, q _ H G (Nw.refl le) (.bl _)⟩
    · cases hg
/-- is None, is not None -/
def isN : PyData → Bool
  | .none => true
  | _ => false
def gIs : PyData → PyData → Option PyData
  | d, .none => some (.bool (isN d))
  | _, _ => none
def gIsNot : PyData → PyData → Option PyData
  | d, .none => some (.bool (!isN d))
  | _, _ => none
theorem isN_of {K : PySem.W.Frag} {G : Hp} {v : V} {d : PyData} (h : Rp K G v d) : decide (v = .non) = isN d := by
  cases h <;> first | rfl | (exact decide_eq_false (fun z => nomatch z))
theorem d_is : OpR X (compareOp .Is) (r2 X.K gIs) := by
  intro pins s σ H x y v u Q I rx ry h
  obtain ⟨G, d, e, r, le, hd, he, hg, q⟩ := h
  cases he with
  | non =>
    have e : r = .bool (isN d) := by cases d <;> (cases hg; rfl)
    subst e
    exact op_isN pins s σ H _ _ v u Q I rx ry ⟨rfl, q _ H G (Nw.refl le) (by rw [isN_of hd]; exact .bl _)⟩
  | _ => cases hd <;> cases hg
theorem d_isNot : OpR X (compareOp .IsNot) (r2 X.K gIsNot) := by
  intro pins s σ H x y v u Q I rx ry h
  obtain ⟨G, d, e, r, le, hd, he, hg, q⟩ := h
  cases he with
  | non =>
    have e : r = .bool (!isN d) := by cases d <;> (cases hg; rfl)
    subst e
    exact op_notN pins s σ H _ _ v u Q I rx ry ⟨rfl, q _ H G (Nw.refl le) (by rw [isN_of hd]; exact .bl _)⟩
  | _ => cases hd <;> cases hg
/-- x in xs, by == -/
def itemsD : PyData → Option (List PyData)
  | .list xs => some xs
  | .tuple xs => some xs
  | _ => none
def flatD : PyData → Bool
  | .none => true
  | .bool _ => true
  | .int _ => true
  | .str _ => true
  | _ => false
def memD (d : PyData) (xs : List PyData) : Bool := xs.any fun z => PyData.eqv z d
def gIn (d e : PyData) : Option PyData := match itemsD e with
  | some xs => if flatD d && xs.all flatD then some (.bool (memD d xs)) else if SeqAt.shaped d && SeqAt.shaped e then some (.bool (memD d xs)) else none
  | none => none
def gNotIn (d e : PyData) : Option PyData := match itemsD e with
  | some xs => if flatD d && xs.all flatD then some (.bool (!memD d xs)) else if SeqAt.shaped d && SeqAt.shaped e then some (.bool (!memD d xs)) else none
  | none => none
theorem flat_of {K : PySem.W.Frag} {G : Hp} {v : V} {d : PyData} (h : Rp K G v d) (f : flatD d = true) : flatV v = true := by
  cases h <;> first | rfl | cases f
theorem eqV_of {K : PySem.W.Frag} {G : Hp} {v w : V} {d e : PyData} (h : Rp K G v d) (h' : Rp K G w e) (f : flatD d = true) (f' : flatD e = true) : eqV v w = PyData.eqv d e := by
  cases h with
  | non => cases h' <;> first | rfl | cases f'
  | bl b => cases h' <;> first | (cases f'; done) | (simp only [eqV, PyData.eqv]; done) | (simp [eqV, PyData.eqv]; done) | rfl
  | int i => cases h' <;> first | (cases f'; done) | (simp only [eqV, PyData.eqv]; done) | (simp [eqV, PyData.eqv]; done) | rfl
  | str x => cases h' <;> first | (cases f'; done) | (simp only [eqV, PyData.eqv]; done) | (simp [eqV, PyData.eqv]; done) | rfl
  | _ => cases f
theorem inV_of {K : PySem.W.Frag} {G : Hp} {v : V} {d : PyData} (h : Rp K G v d) (f : flatD d = true) : ∀ {vs : List V} {ds : List PyData}, RpA K G vs ds → ds.all flatD = true → vs.all flatV = true ∧ inV v vs = memD d ds
  | _, _, .nil, _ => ⟨rfl, rfl⟩
  | _, _, .cons a b, g => by
    rw [List.all_cons, Bool.and_eq_true] at g
    obtain ⟨i1, i2⟩ := inV_of h f b g.2
    refine ⟨by rw [List.all_cons, flat_of a g.1, i1]; rfl, ?_⟩
    unfold inV memD at i2 ⊢
    rw [List.any_cons, List.any_cons, i2, eqV_of a h g.1 f]
theorem seq_of {K : PySem.W.Frag} {H G : Hp} (le : Same G H) {v : V} {d : PyData} {xs : List PyData} (h : Rp K G v d) (e : itemsD d = some xs) : ∃ p vs, v = .ref p ∧ (SqL K H p vs ∨ SqT K H p vs) ∧ RpA K G vs xs := by
  cases h with
  | lst h a => cases e; exact ⟨_, _, rfl, .inl (SqL.of (le _ _ h)), a⟩
  | tup h a => cases e; exact ⟨_, _, rfl, .inr (SqT.of (le _ _ h)), a⟩
  | _ => cases e
theorem d_in (hu : X.A.units + 65 < cLine) : OpR X (compareOp .In) (r2 X.K gIn) := by
  intro pins s σ H x y v u Q I rx ry h
  obtain ⟨G, d, e, r, le, hd, he, hg, q⟩ := h
  unfold gIn at hg
  cases hi : itemsD e with
  | none => rw [hi] at hg; cases hg
  | some xs =>
    rw [hi] at hg
    dsimp only at hg
    split at hg
    · rename_i hf
      rw [Bool.and_eq_true] at hf
      cases hg
      obtain ⟨p, vs, rfl, hs, ha⟩ := seq_of le he hi
      obtain ⟨f1, f2⟩ := inV_of hd hf.1 ha hf.2
      exact op_in_seq pins s σ H _ _ v u Q I rx ry ⟨p, vs, rfl, hs, flat_of hd hf.1, f1, q _ H G (Nw.refl le) (by rw [f2]; exact .bl _)⟩
    · split at hg
      · rename_i hs
        rw [Bool.and_eq_true] at hs
        cases hg
        obtain ⟨as, r1, _⟩ := Rp.reads I le hd rx
        obtain ⟨bs, r2, _⟩ := Rp.reads I le he ry
        have hdp := SeqAt.depth_of_shaped hs.1
        have room : X.A.units + 1 + min (PyData.depthAll xs) d.depth < cLine := by omega
        cases e with
        | list ys =>
          cases hi
          exact SeqAt.in_list_reads r2 r1 (SeqAt.canLay_of_shaped hs.2) (SeqAt.canLay_of_shaped hs.1) room ⟨.bl _, H, I, rfl, q _ H G (Nw.refl le) (.bl _)⟩
        | tuple ys =>
          cases hi
          exact SeqAt.in_tuple_reads r2 r1 (SeqAt.canLay_of_shaped hs.2) (SeqAt.canLay_of_shaped hs.1) room ⟨.bl _, H, I, rfl, q _ H G (Nw.refl le) (.bl _)⟩
        | _ => cases hi
      · cases hg
theorem d_notIn (hu : X.A.units + 65 < cLine) : OpR X (compareOp .NotIn) (r2 X.K gNotIn) := by
  intro pins s σ H x y v u Q I rx ry h
  obtain ⟨G, d, e, r, le, hd, he, hg, q⟩ := h
  unfold gNotIn at hg
  cases hi : itemsD e with
  | none => rw [hi] at hg; cases hg
  | some xs =>
    rw [hi] at hg
    dsimp only at hg
    split at hg
    · rename_i hf
      rw [Bool.and_eq_true] at hf
      cases hg
      obtain ⟨p, vs, rfl, hs, ha⟩ := seq_of le he hi
      obtain ⟨f1, f2⟩ := inV_of hd hf.1 ha hf.2
      exact op_notIn_seq pins s σ H _ _ v u Q I rx ry ⟨p, vs, rfl, hs, flat_of hd hf.1, f1, q _ H G (Nw.refl le) (by rw [f2]; exact .bl _)⟩
    · split at hg
      · rename_i hs
        rw [Bool.and_eq_true] at hs
        cases hg
        obtain ⟨as, r1, _⟩ := Rp.reads I le hd rx
        obtain ⟨bs, r2, _⟩ := Rp.reads I le he ry
        have hdp := SeqAt.depth_of_shaped hs.1
        have room : X.A.units + 1 + min (PyData.depthAll xs) d.depth < cLine := by omega
        cases e with
        | list ys =>
          cases hi
          exact SeqAt.notIn_list_reads r2 r1 (SeqAt.canLay_of_shaped hs.2) (SeqAt.canLay_of_shaped hs.1) room ⟨.bl _, H, I, rfl, q _ H G (Nw.refl le) (.bl _)⟩
        | tuple ys =>
          cases hi
          exact SeqAt.notIn_tuple_reads r2 r1 (SeqAt.canLay_of_shaped hs.2) (SeqAt.canLay_of_shaped hs.1) room ⟨.bl _, H, I, rfl, q _ H G (Nw.refl le) (.bl _)⟩
        | _ => cases hi
      · cases hg
/-- xs[i] -/
def gIx (d e : PyData) : Option PyData := match itemsD d, e with
  | some xs, .int i => atI xs i
  | _, _ => none
theorem atI_rp {K : PySem.W.Frag} {G : Hp} {vs : List V} {ds : List PyData} {i : Int} {d : PyData} (h : RpA K G vs ds) (e : atI ds i = some d) : ∃ v, atI vs i = some v ∧ Rp K G v d := by
  unfold atI at e ⊢
  rw [RpA.length h]
  cases hx : ixN ds.length i with
  | none => rw [hx] at e; cases e
  | some j =>
    rw [hx] at e
    exact RpA.get h e
theorem d_ix : IxR X (r2 X.K gIx) := by
  intro value slice pins s σ H x y v u Q I rx ry h hs
  obtain ⟨G, d, e, r, le, hd, he, hg, q⟩ := h
  unfold gIx at hg
  cases hi : itemsD d with
  | none => rw [hi] at hg; cases hg
  | some xs =>
    rw [hi] at hg
    cases he with
    | int i =>
      obtain ⟨p, vs, rfl, hsq, ha⟩ := seq_of le hd hi
      obtain ⟨w, hw, rw'⟩ := atI_rp ha hg
      rcases hsq with hsq | hsq
      · exact ix_list value slice pins s σ H _ _ v u Q I rx ry ⟨p, vs, i, w, rfl, rfl, hsq, hw, q _ H G (Nw.refl le) rw'⟩ hs
      · exact ix_tup value slice pins s σ H _ _ v u Q I rx ry ⟨p, vs, i, w, rfl, rfl, hsq, hw, q _ H G (Nw.refl le) rw'⟩ hs
    | _ => cases hg
end
end Mn
namespace Mn
open PySem PySem.Spec PyProof.Rows L2
/-! tests, arguments -/
def tT (F : Fz) (ev : EvE) : TT := fun σ H Q => ∃ G Γ st b st', Rel F σ H G Γ st ∧ ev Γ st = some (.bool b, st') ∧
  ∀ H' G', Ext F.K F.pn F.pc H G H' G' st' → Q b H'
/-- an expression as a value and as a test -/
structure Snd (X : Cx) (F : Fz) (e : Expr) (ev : EvE) : Prop where
  pe : PE X e (tE F ev)
  pt : PT X e (tT F ev)
abbrev EvA := Ev → Pn → Option (List PyData × Pn)
def tAs (F : Fz) (ev : EvA) : TA := fun σ H Q => ∃ G Γ st ds st', Rel F σ H G Γ st ∧ ev Γ st = some (ds, st') ∧
  ∀ vs H' G', Ext F.K F.pn F.pc H G H' G' st' → RpA F.K G' vs ds → Q vs H'
def evNil : EvA := fun _ st => some ([], st)
def evCons (a : EvE) (r : EvA) : EvA := fun Γ st => match a Γ st with
  | some (d, st1) => match r Γ st1 with
    | some (ds, st2) => some (d :: ds, st2)
    | none => none
  | none => none
theorem Ext.trans' {F : Fz} {σ : L2.St} {H G H1 G1 H2 G2 : Hp} {Γ : Ev} {st1 st2 : Pn} (a : Ext F.K F.pn F.pc H G H1 G1 st1) (b : Ext F.K F.pn F.pc H1 G1 H2 G2 st2) : Ext F.K F.pn F.pc H G H2 G2 st2 :=
  Ext.trans (fun p e => a.pen.some_of e) a b
section
variable {X : Cx} {F : Fz} {e a b c : Expr} {es : List Expr} {ev ea eb ec : EvE} {er : EvA} {pos : Pos}
theorem pt_of_pe (h : PE X e (tE F ev)) (he : ∀ whole, isTrue e X.env whole = (do let v ← whole; standAt e.pos; holding [v] (truthy v))) : PT X e (tT F ev) := by
  refine ptC (pt_val h he) fun σ H Q q => ?_
  obtain ⟨G, Γ, st, b, st', R, hev, q⟩ := q
  refine ⟨G, Γ, st, .bool b, st', R, hev, fun v H' G' E r => ?_⟩
  cases r
  exact ⟨b, rfl, q H' G' E⟩
theorem tE_true {σ : L2.St} {H : Hp} {Q : Bool → Hp → Prop} (q : tT F ev σ H Q) : tE F ev σ H (fun x H' => ∃ k, x = .bl k ∧ Q k H') := by
  obtain ⟨G, Γ, st, b, st', R, hev, q⟩ := q
  refine ⟨G, Γ, st, .bool b, st', R, hev, fun v H' G' E r => ?_⟩
  cases r
  exact ⟨b, rfl, q H' G' E⟩
theorem pa_nil' : PA X [] (tAs F evNil) := paC pa_nil fun σ H Q q => by
  obtain ⟨G, Γ, st, ds, st', R, hev, q⟩ := q
  obtain ⟨rfl, rfl⟩ := Prod.mk.inj (Option.some.inj hev)
  exact q [] H G (Ext.refl R) .nil
theorem pa_cons' (ha : PE X e (tE F ea)) (hr : PA X es (tAs F er)) (hs : starEach (e :: es) X.env = (false, eval e X.env) :: starEach es X.env) : PA X (e :: es) (tAs F (evCons ea er)) := paC (pa_cons ha hr hs) fun σ H Q q => by
  obtain ⟨G, Γ, st, ds, st', R, hev, q⟩ := q
  unfold evCons at hev
  cases h1 : ea Γ st with
  | none => rw [h1] at hev; cases hev
  | some p1 =>
    obtain ⟨d1, st1⟩ := p1
    rw [h1] at hev
    cases h2 : er Γ st1 with
    | none => simp only [h2] at hev; cases hev
    | some p2 =>
      obtain ⟨d2, st2⟩ := p2
      simp only [h2] at hev
      obtain ⟨rfl, rfl⟩ := Prod.mk.inj (Option.some.inj hev)
      refine ⟨G, Γ, st, d1, st1, R, h1, fun v1 H1 G1 E1 r1 => ?_⟩
      refine ⟨G1, Γ, st1, d2, st2, R.step E1, h2, fun vs H2 G2 E2 r2 => ?_⟩
      exact q _ H2 G2 (Ext.trans' (σ := σ) (Γ := Γ) E1 E2) (.cons (Rp.mono E2.gg r1) r2)
/-! constants, names -/
def evK (d : PyData) : EvE := fun _ st => some (d, st)
theorem sn_const {v : V} {d : PyData} (h : PE X e (tC v)) (r : ∀ G, Rp F.K G v d) : PE X e (tE F (evK d)) := peC h fun σ H Q q => by
  obtain ⟨G, Γ, st, d', st', R, hev, q⟩ := q
  obtain ⟨rfl, rfl⟩ := Prod.mk.inj (Option.some.inj hev)
  exact q v H G (Ext.refl R) (r G)
def evV (i : Nat) : EvE := fun Γ st => match Γ[i]? with
  | some (some (.d x)) => some (x, st)
  | _ => none
theorem sn_var {i : Nat} (h : PE X e (tVar i)) : PE X e (tE F (evV i)) := peC h fun σ H Q q => by
  obtain ⟨G, Γ, st, d', st', R, hev, q⟩ := q
  unfold evV at hev
  split at hev
  · rename_i x hx
    obtain ⟨rfl, rfl⟩ := Prod.mk.inj (Option.some.inj hev)
    obtain ⟨v, hv, r⟩ := R.slot i _ hx
    exact ⟨v, hv, q v H G (Ext.refl R) r⟩
  · cases hev
/-! displays -/
def evTup (er : EvA) : EvE := fun Γ st => match er Γ st with
  | some (ds, st1) => if ds.length ≤ LIM then some (.tuple ds, st1) else none
  | none => none
theorem sn_tup {k : Nat} (h : PA X es (tAs F er)) : PE X (.Tuple es k pos) (tE F (evTup er)) := peC (pe_tup h) fun σ H Q q => by
  obtain ⟨G, Γ, st, d', st', R, hev, q⟩ := q
  unfold evTup at hev
  cases h1 : er Γ st with
  | none => rw [h1] at hev; cases hev
  | some p1 =>
    obtain ⟨ds, st1⟩ := p1
    rw [h1] at hev
    dsimp only at hev
    split at hev
    · rename_i hz
      obtain ⟨rfl, rfl⟩ := Prod.mk.inj (Option.some.inj hev)
      refine ⟨G, Γ, st, ds, st1, R, h1, fun vs H1 G1 E1 r1 => ⟨lim_le (by rw [RpA.length r1]; exact hz), fun p hp => ?_⟩⟩
      have R1 := R.step E1
      have N := Nw.new R1.le (o := .tup vs) hp
      exact q _ _ _ (Ext.trans' (σ := σ) (Γ := Γ) E1 (N.ext R1)) (.tup upd_same (RpA.mono N.gg r1))
    · cases hev
/-- what makes a new list: the list's items, an unshared one -/
abbrev EvF := Ev → Pn → Option (List PyData × Pn)
def tF (F : Fz) (ev : EvF) : TE := fun σ H Q => ∃ G Γ st ds st', Rel F σ H G Γ st ∧ ev Γ st = some (ds, st') ∧
  ∀ p vs H' G', Ext F.K F.pn F.pc H G H' G' st' → H p = none → G' p = none → H' p = some (.lst vs) → RpA F.K G' vs ds → Q (.ref p) H'
def evFr (ev : EvF) : EvE := fun Γ st => match ev Γ st with
  | some (ds, st1) => some (.list ds, st1)
  | none => none
/-- put among the frozen ones -/
theorem Ext.freeze {F : Fz} {H G H' G' : Hp} {st : Pn} {p : Addr} {o : HO} (E : Ext F.K F.pn F.pc H G H' G' st) (hp : H p = none) (hg : G' p = none) (ho : H' p = some o) (hpn : some p ≠ F.pn) : Ext F.K F.pn F.pc H G H' (upd G' p o) st where
  gg := fun b u h => by
    have h' := E.gg b u h
    have : b ≠ p := fun e => by subst e; rw [hg] at h'; cases h'
    rw [upd_ne this]; exact h'
  gh := fun b u h => by
    by_cases e : b = p
    · subst e; rw [upd_same] at h; cases h; exact ho
    · rw [upd_ne e] at h; exact E.gh b u h
  fr := fun b u h => by
    have : b ≠ p := fun e => by subst e; rw [hp] at h; cases h
    rw [upd_ne this]; exact E.fr b u h
  kp := E.kp
  pen := by
    have P := E.pen
    revert P
    unfold PenOk
    cases hq : F.pn with
    | none => exact fun P => P
    | some q =>
      rintro ⟨h1, h2, h3⟩
      have n1 : q ≠ p := fun e => by subst e; exact hpn hq.symm
      have n2 : F.pc ≠ p := fun e => by rw [e, hg] at h3; cases h3
      exact ⟨by rw [upd_ne n1]; exact h1, h2, by rw [upd_ne n2]; exact h3⟩
theorem sn_fr (h : PE X e (tF F ev')) : PE X e (tE F (evFr ev')) := peC h fun σ H Q q => by
  obtain ⟨G, Γ, st, d', st', R, hev, q⟩ := q
  unfold evFr at hev
  cases h1 : ev' Γ st with
  | none => rw [h1] at hev; cases hev
  | some p1 =>
    obtain ⟨ds, st1⟩ := p1
    rw [h1] at hev
    obtain ⟨rfl, rfl⟩ := Prod.mk.inj (Option.some.inj hev)
    refine ⟨G, Γ, st, ds, st1, R, h1, fun p vs H' G' E hp hg ho r => ?_⟩
    have hpn : some p ≠ F.pn := fun e => by
      obtain ⟨o, h⟩ := R.pen.some_of e.symm
      rw [hp] at h; cases h
    have E' := E.freeze hp hg ho hpn
    refine q _ _ _ E' (.lst upd_same (RpA.mono ?_ r))
    intro b u hb
    have : b ≠ p := fun e => by subst e; rw [hg] at hb; cases hb
    rw [upd_ne this]; exact hb
/-- a fresh thing by a step of the heap that lays a list -/
theorem fresh_of {σ : L2.St} {Γ : Ev} {H G H1 G1 : Hp} {st st1 : Pn} {Q : VK} {vs : List V} {ds : List PyData} (R : Rel F σ H G Γ st) (E1 : Ext F.K F.pn F.pc H G H1 G1 st1) (r : RpA F.K G1 vs ds) {p : Addr} (hp : H1 p = none)
    (q : ∀ p vs H' G', Ext F.K F.pn F.pc H G H' G' st1 → H p = none → G' p = none → H' p = some (.lst vs) → RpA F.K G' vs ds → Q (.ref p) H') : Q (.ref p) (upd H1 p (.lst vs)) := by
  have R1 := R.step E1
  have hpH : H p = none := by
    cases hh : H p with
    | none => rfl
    | some o =>
      by_cases e : some p = F.pn
      · obtain ⟨o', h'⟩ := R1.pen.some_of e.symm
        rw [hp] at h'; cases h'
      · have := E1.kp p o hh e
        rw [hp] at this; cases this
  have hpG : G1 p = none := by
    cases hh : G1 p with
    | none => rfl
    | some o => have := E1.gh p o hh; rw [hp] at this; cases this
  exact q p vs _ G1 (Ext.trans' (σ := σ) (Γ := Γ) E1 (Ext.newH R1 hp)) hpH hpG upd_same r
def evLst (er : EvA) : EvF := fun Γ st => match er Γ st with
  | some (ds, st1) => if ds.length ≤ LIM then some (ds, st1) else none
  | none => none
theorem sn_lst (h : PA X es (tAs F er)) : PE X (.List es pos) (tF F (evLst er)) := peC (pe_lst h) fun σ H Q q => by
  obtain ⟨G, Γ, st, d', st', R, hev, q⟩ := q
  unfold evLst at hev
  cases h1 : er Γ st with
  | none => rw [h1] at hev; cases hev
  | some p1 =>
    obtain ⟨ds, st1⟩ := p1
    rw [h1] at hev
    dsimp only at hev
    split at hev
    · rename_i hz
      obtain ⟨rfl, rfl⟩ := Prod.mk.inj (Option.some.inj hev)
      exact ⟨G, Γ, st, ds, st1, R, h1, fun vs H1 G1 E1 r1 => ⟨lim_le (by rw [RpA.length r1]; exact hz), fun p hp => fresh_of R E1 r1 hp q⟩⟩
    · cases hev
/-! and, or, not, if -/
def evAnd (a b : EvE) : EvE := fun Γ st => match a Γ st with
  | some (.bool true, st1) => b Γ st1
  | some (.bool false, st1) => some (.bool false, st1)
  | _ => none
def evOr (a b : EvE) : EvE := fun Γ st => match a Γ st with
  | some (.bool true, st1) => some (.bool true, st1)
  | some (.bool false, st1) => b Γ st1
  | _ => none
def evNot (a : EvE) : EvE := fun Γ st => match a Γ st with
  | some (.bool k, st1) => some (.bool (!k), st1)
  | _ => none
def evIf (c a b : EvE) : EvE := fun Γ st => match c Γ st with
  | some (.bool true, st1) => a Γ st1
  | some (.bool false, st1) => b Γ st1
  | _ => none
/-- a bool comes first -/
theorem first_bool {k : Bool → Pn → Option (PyData × Pn)} {o : Option (PyData × Pn)} {r : PyData × Pn} (h : (match o with
  | some (.bool true, st1) => k true st1
  | some (.bool false, st1) => k false st1
  | _ => none) = some r) : ∃ c st1, o = some (.bool c, st1) ∧ k c st1 = some r := by
  split at h
  · exact ⟨true, _, rfl, h⟩
  · exact ⟨false, _, rfl, h⟩
  · cases h
theorem sn_and {rest : List Expr} (ha : Snd X F a ea) (hb : PE X (.BoolOp .And (b :: rest) pos) (tE F eb)) : PE X (.BoolOp .And (a :: b :: rest) pos) (tE F (evAnd ea eb)) := peC (pe_and ha.pe hb) fun σ H Q q => by
  obtain ⟨G, Γ, st, d', st', R, hev, q⟩ := q
  obtain ⟨c, st1, h1, h2⟩ := first_bool (k := fun c s => if c then eb Γ s else some (.bool false, s)) (by unfold evAnd at hev; exact hev)
  refine ⟨G, Γ, st, _, st1, R, h1, fun v H1 G1 E1 r1 => ?_⟩
  cases r1
  refine ⟨c, rfl, ?_⟩
  cases c with
  | true => exact iteT ⟨G1, Γ, st1, d', st', R.step E1, h2, fun v H2 G2 E2 r2 => q v H2 G2 (Ext.trans' (σ := σ) (Γ := Γ) E1 E2) r2⟩
  | false =>
    obtain ⟨rfl, rfl⟩ := Prod.mk.inj (Option.some.inj h2)
    exact iteF (q _ H1 G1 E1 (.bl false))
theorem sn_or {rest : List Expr} (ha : Snd X F a ea) (hb : PE X (.BoolOp .Or (b :: rest) pos) (tE F eb)) : PE X (.BoolOp .Or (a :: b :: rest) pos) (tE F (evOr ea eb)) := peC (pe_or ha.pe hb) fun σ H Q q => by
  obtain ⟨G, Γ, st, d', st', R, hev, q⟩ := q
  obtain ⟨c, st1, h1, h2⟩ := first_bool (k := fun c s => if c then some (.bool true, s) else eb Γ s) (by unfold evOr at hev; exact hev)
  refine ⟨G, Γ, st, _, st1, R, h1, fun v H1 G1 E1 r1 => ?_⟩
  cases r1
  refine ⟨c, rfl, ?_⟩
  cases c with
  | false => exact iteF ⟨G1, Γ, st1, d', st', R.step E1, h2, fun v H2 G2 E2 r2 => q v H2 G2 (Ext.trans' (σ := σ) (Γ := Γ) E1 E2) r2⟩
  | true =>
    obtain ⟨rfl, rfl⟩ := Prod.mk.inj (Option.some.inj h2)
    exact iteT (q _ H1 G1 E1 (.bl true))
theorem pw_and' {rest : List Expr} (ha : Snd X F a ea) (hb : PW X (.BoolOp .And (b :: rest) pos) (tT F eb)) : PW X (.BoolOp .And (a :: b :: rest) pos) (tT F (evAnd ea eb)) := by
  refine ⟨fun wh pins s σ H Q I q => (pw_and ha.pt hb).run wh pins s σ H Q I ?_⟩
  obtain ⟨G, Γ, st, k, st', R, hev, q⟩ := q
  obtain ⟨c, st1, h1, h2⟩ := first_bool (k := fun c s => if c then eb Γ s else some (.bool false, s)) (by unfold evAnd at hev; exact hev)
  refine ⟨G, Γ, st, c, st1, R, h1, fun H1 G1 E1 => ?_⟩
  cases c with
  | true => exact iteT ⟨G1, Γ, st1, k, st', R.step E1, h2, fun H2 G2 E2 => q H2 G2 (Ext.trans' (σ := σ) (Γ := Γ) E1 E2)⟩
  | false =>
    have e := Prod.mk.inj (Option.some.inj h2)
    have e1 : false = k := PyData.bool.inj e.1
    subst e1
    rw [← e.2] at q
    exact iteF (q H1 G1 E1)
theorem pw_or' {rest : List Expr} (ha : Snd X F a ea) (hb : PW X (.BoolOp .Or (b :: rest) pos) (tT F eb)) : PW X (.BoolOp .Or (a :: b :: rest) pos) (tT F (evOr ea eb)) := by
  refine ⟨fun wh pins s σ H Q I q => (pw_or ha.pt hb).run wh pins s σ H Q I ?_⟩
  obtain ⟨G, Γ, st, k, st', R, hev, q⟩ := q
  obtain ⟨c, st1, h1, h2⟩ := first_bool (k := fun c s => if c then some (.bool true, s) else eb Γ s) (by unfold evOr at hev; exact hev)
  refine ⟨G, Γ, st, c, st1, R, h1, fun H1 G1 E1 => ?_⟩
  cases c with
  | false => exact iteF ⟨G1, Γ, st1, k, st', R.step E1, h2, fun H2 G2 E2 => q H2 G2 (Ext.trans' (σ := σ) (Γ := Γ) E1 E2)⟩
  | true =>
    have e := Prod.mk.inj (Option.some.inj h2)
    have e1 : true = k := PyData.bool.inj e.1
    subst e1
    rw [← e.2] at q
    exact iteT (q H1 G1 E1)
theorem sn_not (ha : Snd X F a ea) : Snd X F (.UnaryOp .Not a pos) (evNot ea) := by
  have dec : ∀ {Γ : Ev} {st : Pn} {r : PyData × Pn}, evNot ea Γ st = some r → ∃ c st1, ea Γ st = some (.bool c, st1) ∧ r = (.bool (!c), st1) := fun {Γ st r} h => by
    unfold evNot at h
    split at h
    · rename_i c st1 h1
      exact ⟨c, st1, h1, (Option.some.inj h).symm⟩
    · cases h
  constructor
  · refine peC (pe_not ha.pe) fun σ H Q q => ?_
    obtain ⟨G, Γ, st, d', st', R, hev, q⟩ := q
    obtain ⟨c, st1, h1, h2⟩ := dec hev
    obtain ⟨rfl, rfl⟩ := Prod.mk.inj h2
    refine ⟨G, Γ, st, _, st', R, h1, fun v H1 G1 E1 r1 => ?_⟩
    cases r1
    exact ⟨c, rfl, q _ H1 G1 E1 (.bl _)⟩
  · refine ptC (pt_not ha.pt) fun σ H Q q => ?_
    obtain ⟨G, Γ, st, k, st', R, hev, q⟩ := q
    obtain ⟨c, st1, h1, h2⟩ := dec hev
    have e := Prod.mk.inj h2
    have e1 : k = !c := PyData.bool.inj e.1
    subst e1
    have e2 := e.2
    subst e2
    exact ⟨G, Γ, st, c, st', R, h1, fun H1 G1 E1 => q H1 G1 E1⟩
theorem sn_if (hc : Snd X F c ec) (ha : PE X a (tE F ea)) (hb : PE X b (tE F eb)) : PE X (.IfExp c a b pos) (tE F (evIf ec ea eb)) := peC (pe_ifExp hc.pt ha hb) fun σ H Q q => by
  obtain ⟨G, Γ, st, d', st', R, hev, q⟩ := q
  obtain ⟨k, st1, h1, h2⟩ := first_bool (k := fun c s => if c then ea Γ s else eb Γ s) (by unfold evIf at hev; exact hev)
  refine ⟨G, Γ, st, k, st1, R, h1, fun H1 G1 E1 => ?_⟩
  cases k with
  | true => exact iteT ⟨G1, Γ, st1, d', st', R.step E1, h2, fun v H2 G2 E2 r2 => q v H2 G2 (Ext.trans' (σ := σ) (Γ := Γ) E1 E2) r2⟩
  | false => exact iteF ⟨G1, Γ, st1, d', st', R.step E1, h2, fun v H2 G2 E2 r2 => q v H2 G2 (Ext.trans' (σ := σ) (Γ := Γ) E1 E2) r2⟩
/-! comparisons -/
variable {g g' : PyData → PyData → Option PyData}
theorem sn_cmp (hK : F.K = X.K) {op : CmpOp} (ho : OpR X (compareOp op) (r2 X.K g)) (ha : PE X a (tE F ea)) (hb : PE X b (tE F eb)) (hm : behindInMarks op b = false) : Snd X F (.Compare a [op] [b] pos) (ev2 g ea eb) :=
  ⟨pe_cmp2 hK ho ha hb hm, ptC (pt_cmpR ho ha hb hm) fun σ H Q q => t2_of hK σ H _ (tE_true q)⟩
/-- a op b op' c: b is asked once -/
def evCh (g g' : PyData → PyData → Option PyData) (a b c : EvE) : EvE := fun Γ st => match a Γ st with
  | some (d, st1) => match b Γ st1 with
    | some (e, st2) => match g d e with
      | some (.bool true) => match c Γ st2 with
        | some (f, st3) => match g' e f with
          | some r => some (r, st3)
          | none => none
        | none => none
      | some (.bool false) => some (.bool false, st2)
      | _ => none
    | none => none
  | none => none
theorem tCh_of (hK : F.K = X.K) {σ : L2.St} {H : Hp} {Q : VK} (q : tE F (evCh g g' ea eb ec) σ H Q) : tChain (r2 X.K g) (r2 X.K g') (tE F ea) (tE F eb) (tE F ec) σ H Q := by
  obtain ⟨G, Γ, st, d, st', R, hev, q⟩ := q
  unfold evCh at hev
  cases h1 : ea Γ st with
  | none => rw [h1] at hev; cases hev
  | some p1 =>
    obtain ⟨d1, st1⟩ := p1
    rw [h1] at hev
    cases h2 : eb Γ st1 with
    | none => simp only [h2] at hev; cases hev
    | some p2 =>
      obtain ⟨d2, st2⟩ := p2
      simp only [h2] at hev
      refine ⟨G, Γ, st, d1, st1, R, h1, fun v1 H1 G1 E1 r1 => ?_⟩
      have R1 := R.step E1
      refine ⟨G1, Γ, st1, d2, st2, R1, h2, fun v2 H2 G2 E2 r2' => ?_⟩
      have R2 := R1.step E2
      have E12 := Ext.trans' (σ := σ) (Γ := Γ) E1 E2
      cases h3 : g d1 d2 with
      | none => simp only [h3] at hev; cases hev
      | some r =>
        simp only [h3] at hev
        refine ⟨G2, d1, d2, r, R2.le, by rw [← hK]; exact Rp.mono E2.gg r1, by rw [← hK]; exact r2', h3, fun v3 H3 G3 m r3 => ?_⟩
        have E3 := Ext.trans' (σ := σ) (Γ := Γ) E12 (m.ext R2)
        have R3 := R.step E3
        cases r with
        | bool k =>
          cases r3
          refine ⟨k, rfl, ?_⟩
          cases k with
          | false =>
            obtain ⟨rfl, rfl⟩ := Prod.mk.inj (Option.some.inj hev)
            exact iteF (q _ H3 G3 E3 (.bl _))
          | true =>
            refine iteT ?_
            dsimp only at hev
            cases h4 : ec Γ st2 with
            | none => simp only [h4] at hev; cases hev
            | some p4 =>
              obtain ⟨d4, st4⟩ := p4
              simp only [h4] at hev
              cases h5 : g' d2 d4 with
              | none => simp only [h5] at hev; cases hev
              | some r5 =>
                simp only [h5] at hev
                obtain ⟨rfl, rfl⟩ := Prod.mk.inj (Option.some.inj hev)
                refine ⟨G3, Γ, st2, d4, st4, R3, h4, fun v4 H4 G4 E4 r4 => ?_⟩
                have R4 := R3.step E4
                refine ⟨G4, d2, d4, r5, R4.le, by rw [← hK]; exact Rp.mono E4.gg (Rp.mono m.gg r2'), by rw [← hK]; exact r4, h5, fun v5 H5 G5 m5 r5' => ?_⟩
                exact q _ H5 G5 (Ext.trans' (σ := σ) (Γ := Γ) (Ext.trans' (σ := σ) (Γ := Γ) E3 E4) (m5.ext R4)) (by rw [hK]; exact r5')
        | _ => cases hev
theorem sn_chain (hK : F.K = X.K) {op op' : CmpOp} (ho : OpR X (compareOp op) (r2 X.K g)) (ho' : OpR X (compareOp op') (r2 X.K g')) (ha : PE X a (tE F ea)) (hb : PE X b (tE F eb)) (hc : PE X c (tE F ec)) (hm : lastMarks [op, op'] [b, c] = false) :
    Snd X F (.Compare a [op, op'] [b, c] pos) (evCh g g' ea eb ec) :=
  ⟨peC (pe_chain ho ho' ha hb hc hm) fun σ H Q q => tCh_of hK q, ptC (pt_chain ho ho' ha hb hc hm) fun σ H Q q => tCh_of hK (tE_true q)⟩
/-! calls of what is built in -/
def evCall (g : List PyData → Option PyData) (er : EvA) : EvE := fun Γ st => match er Γ st with
  | some (ds, st1) => match g ds with
    | some r => some (r, st1)
    | none => none
  | none => none
theorem tCB_of (hK : F.K = X.K) {g : List PyData → Option PyData} {σ : L2.St} {H : Hp} {Q : VK} (q : tE F (evCall g er) σ H Q) : tCB (rn X.K g) (tAs F er) σ H Q := by
  obtain ⟨G, Γ, st, d, st', R, hev, q⟩ := q
  unfold evCall at hev
  cases h1 : er Γ st with
  | none => rw [h1] at hev; cases hev
  | some p1 =>
    obtain ⟨ds, st1⟩ := p1
    rw [h1] at hev
    cases h3 : g ds with
    | none => simp only [h3] at hev; cases hev
    | some r =>
      simp only [h3] at hev
      obtain ⟨rfl, rfl⟩ := Prod.mk.inj (Option.some.inj hev)
      refine ⟨G, Γ, st, ds, st1, R, h1, fun vs H1 G1 E1 r1 => ?_⟩
      have R1 := R.step E1
      exact ⟨G1, ds, r, R1.le, by rw [← hK]; exact r1, h3, fun v H2 G2 m r2' => q v H2 G2 (Ext.trans' (σ := σ) (Γ := Γ) E1 (m.ext R1)) (by rw [hK]; exact r2')⟩
/-- .. that makes a new list -/
def rf (K : PySem.W.Frag) (g : List PyData → Option (List PyData)) : List V → Hp → VK → Prop := fun xs H Q => ∃ G ds r, Same G H ∧ RpA K G xs ds ∧ g ds = some r ∧
  ∀ p vs, H p = none → RpA K G vs r → Q (.ref p) (upd H p (.lst vs))
def evCallF (g : List PyData → Option (List PyData)) (er : EvA) : EvF := fun Γ st => match er Γ st with
  | some (ds, st1) => match g ds with
    | some r => some (r, st1)
    | none => none
  | none => none
theorem tCBF_of (hK : F.K = X.K) {g : List PyData → Option (List PyData)} {σ : L2.St} {H : Hp} {Q : VK} (q : tF F (evCallF g er) σ H Q) : tCB (rf X.K g) (tAs F er) σ H Q := by
  obtain ⟨G, Γ, st, d, st', R, hev, q⟩ := q
  unfold evCallF at hev
  cases h1 : er Γ st with
  | none => rw [h1] at hev; cases hev
  | some p1 =>
    obtain ⟨ds, st1⟩ := p1
    rw [h1] at hev
    cases h3 : g ds with
    | none => simp only [h3] at hev; cases hev
    | some r =>
      simp only [h3] at hev
      obtain ⟨rfl, rfl⟩ := Prod.mk.inj (Option.some.inj hev)
      refine ⟨G, Γ, st, ds, st1, R, h1, fun vs H1 G1 E1 r1 => ?_⟩
      have R1 := R.step E1
      exact ⟨G1, ds, _, R1.le, by rw [← hK]; exact r1, h3, fun p vs hp r2' => fresh_of R E1 (by rw [hK]; exact r2') hp q⟩
end
end Mn
namespace Mn
open PySem PySem.Spec PyProof.Rows L2
/-! sorted of tuples of ints of any lengths (none empty) -/
section
variable {prog : Program} {w : World} {A : Around} {E : Value → Shared → Prop} {s : Shared}
theorem lexU {Q : Bool → Shared → Prop} {b : Bool} {xs ys : List Value} {ns ms : List Int} (i : Nat) (hx : IntsAre xs ns) (hy : IntsAre ys ms) (f : Bool) (hf : ∀ (n m : Nat), f = decide (n + ns.length < n + ms.length))
    (h : Q (HT.lexLt ns ms) s) : PySem.W.KatLex prog w A b f Q (xs.zip ys) i s := by
  induction hx generalizing ys ms i with
  | nil =>
    cases hy with
    | nil =>
      rw [HT.lexLt_nil_nil] at h
      have e : f = false := by rw [hf 0 0]; exact decide_eq_false (by simp)
      rw [e]
      exact PySem.W.kat_nil h
    | cons q u hy =>
      rw [HT.lexLt_nil_cons] at h
      have e : f = true := by rw [hf 0 0]; exact decide_eq_true (by simp)
      rw [e]
      exact PySem.W.kat_nil h
  | @cons p t xs ns hx ih =>
    cases hy with
    | nil =>
      rw [HT.lexLt_cons_nil] at h
      have e : f = false := by rw [hf 0 0]; exact decide_eq_false (by simp)
      rw [e]
      exact PySem.W.kat_nil h
    | @cons q u ys ms hy =>
      rw [HT.lexLt_cons] at h
      show PySem.W.KatLex prog w A b f Q ((Value.int p t, Value.int q u) :: xs.zip ys) i s
      refine PySem.W.kat_cons (wpAny_eqBool_int ?_)
      by_cases e : p = q
      · subst e
        rw [if_pos rfl] at h
        rw [beq_self_eq_true]
        refine PySem.W.kat_yes ?_
        refine ih (i + 1) hy (fun n m => ?_) h
        rw [hf (n + 1) m]
        simp only [List.length_cons]
        refine decide_eq_decide.mpr ?_
        omega
      · rw [if_neg e] at h
        rw [show (p == q) = false from beq_eq_false_iff_ne.mpr e]
        exact PySem.W.kat_no (TS.oneLt_ints _ h)
/-- v is a tuple of these ints, one at least -/
def TupN (h : Heap) (v : Value) (ns : List Int) : Prop := TS.TupInts h v ns ∧ ns ≠ []
theorem firstsU {h : Heap} {k : Value → List Int} : ∀ vs : List Value, (∀ v ∈ vs, TupN h v (k v)) → ∃ fs, PySem.W.KatTups h vs fs ∧ fs.length = vs.length ∧ ∀ f ∈ fs, ∃ n t, f = Value.int n t
  | [], _ => ⟨[], PySem.W.KatTups.nil, rfl, fun f z => nomatch z⟩
  | v :: vs, x => by
    obtain ⟨fs, ht, hl, hi⟩ := firstsU vs fun u hu => x u (List.mem_cons_of_mem _ hu)
    obtain ⟨⟨a, xs, e, ⟨o, ho, hc, n, hd⟩, i⟩, ne⟩ := x v (List.mem_cons_self ..)
    generalize hk : k v = ns at i ne
    cases hx : xs.toList with
    | nil =>
      rw [hx] at i
      cases i
      exact absurd rfl ne
    | cons y ys =>
      obtain ⟨m, t, hy⟩ := i.all y (by rw [hx]; exact List.mem_cons_self ..)
      subst e
      refine ⟨y :: fs, PySem.W.KatTups.cons ho hc hd ?_ ht, by rw [List.length_cons, List.length_cons, hl], fun f hf => ?_⟩
      · have z := congrArg (fun l : List Value => l[0]?) hx
        simpa using z
      · rcases List.mem_cons.mp hf with rfl | hf
        · exact ⟨m, t, hy⟩
        · exact hi f hf
theorem tupsU {a : Addr} {vs : List Value} {k : Value → List Int} (h0 : 0 < vs.length) (hv : ∀ v ∈ vs, TupN s.heap v (k v)) (ha : ∀ o, s.heap.get? a = some o → o.cls ≠ .type "tuple") : SrtO.SortableO prog w A s a vs fun v u => HT.lexLt (k v) (k u) := by
  intro h' keep
  have hv' : ∀ v ∈ vs, TupN h' v (k v) := fun v hm => ⟨(hv v hm).1.keeps fun b o e c => keep b o (fun z => by subst z; exact ha o e c) e, (hv v hm).2⟩
  obtain ⟨fs, h1, h2, h3⟩ := firstsU vs hv'
  have e : (Value.type "int" != Value.type "tuple") = true := by first | decide +kernel | rfl | decide
  refine ⟨tuples' true, fun Q E hq => ?_, fun p q hp hq => ?_⟩
  · refine PySem.W.kat_kind (s := { s with heap := h' }) (T := .type "int") h1 (by omega) (fun f hm => ?_) (by rfl) (by rw [e]; exact hq)
    obtain ⟨x, t, rfl⟩ := h3 f hm
    exact PySem.W.Looks.of_pure rfl
  · obtain ⟨a1, xs, e1, ⟨o, ho, hc, n, hdt⟩, i1⟩ := (hv' _ hp).1
    obtain ⟨a2, ys, e2, ⟨o2, ho2, hc2, n2, hdt2⟩, i2⟩ := (hv' _ hq).1
    rw [e1, e2]
    refine PySem.W.kat_lt (s := { s with heap := h' }) ho hdt ho2 hdt2 ?_
    refine lexU 0 i1 i2 _ (fun n m => ?_) ?_
    · have l1 := i1.length
      have l2 := i2.length
      rw [Array.length_toList] at l1 l2
      refine decide_eq_decide.mpr ?_
      omega
    · exact ⟨rfl, rfl⟩
theorem sorted_tupsU {l : Addr} {vs : List Value} {k : Value → List Int} {Q : Value → Shared → Prop} (hl : s.heap.IsList l vs.toArray) (hz : vs.length ≤ sizeLine) (hv : ∀ v ∈ vs, TupN s.heap v (k v))
    (h : ∀ out : List Value, out.Perm vs → out.Pairwise (fun u v => HT.lexLt (k v) (k u) = false) → Q (.ref (s.heap.objs.size + 1)) { s with heap := sortedAll s.heap vs out.toArray }) :
    wpAny (model prog w) A (call (.builtin "sorted") [.ref l]) Q E s := by
  refine SrtO.sorted_ord (NtL.swo_lexL k) hl hz (fun h2 h₁ a ha kk => ?_) fun out hs hb => h out hb.perm hs
  refine tupsU (s := { s with heap := h₁ }) (by omega) (fun v hm => ⟨(hv v hm).1.keeps fun b o e _ => (kk b o e).2, (hv v hm).2⟩) fun o e c => ?_
  have e2 : some o = some (seqObj "list" vs.toArray 0) := e.symm.trans ha
  cases e2
  exact absurd (Value.type.inj c) (by decide)
end
section
variable {X : Cx}
def rSortL (K : PySem.W.Frag) : List V → Hp → VK → Prop := fun vs H Q => ∃ (a : Addr) (xs : List V), vs = [V.ref a] ∧ SqL K H a xs ∧ (∀ x ∈ xs, ∃ ns, TupI K H x ns ∧ ns ≠ []) ∧
  ∀ (ys : List V) (p : Addr), ys.Perm xs → ys.Pairwise (fun x y => ∀ n m, TupI K H x n → TupI K H y m → HT.lexLt m n = false) → H p = none → Q (.ref p) (upd H p (.lst ys))
theorem cr_sortL : CallR X (.builtin "sorted") (rSortL X.K) := by
  intro pins s σ H vs us Q I r h
  obtain ⟨a, xs, rfl, hs, hx, q⟩ := h
  obtain ⟨its, rv, hl, hz⟩ := I.list hs
  rw [Vals.ref1 r]
  obtain ⟨e1, e2⟩ := bkV_refs rv fun x m => by
    obtain ⟨ns, ⟨t, e, _⟩, _⟩ := hx x m
    exact ⟨t, e⟩
  have key : ∀ u ∈ its, ∃ t ns, u = .ref t ∧ SqT X.K H t (ns.map V.int) ∧ ns ≠ [] := fun v hv => by
    obtain ⟨t, rfl⟩ := e2 v hv
    have hm : V.ref t ∈ xs := by
      rw [e1]
      exact List.mem_map.mpr ⟨_, hv, rfl⟩
    obtain ⟨ns, ⟨t', e, ht⟩, hn⟩ := hx _ hm
    cases e
    exact ⟨t, ns, rfl, ht, hn⟩
  refine sorted_tupsU (k := TS.intsOf s.heap) hl.isList (by rw [← rv.length]; exact hz) (fun v hv => ?_) fun out h1 h2 => ?_
  · obtain ⟨t, ns, rfl, ht, hn⟩ := key v hv
    have z := tupI_raw I ht
    rw [TupN, z.ints]
    exact ⟨z, hn⟩
  · obtain ⟨ep, he'⟩ := PyProof.Rows.sortedAll_at s.heap its out.toArray
    have h3 : ∀ u ∈ out, ∃ a, u = Value.ref a := fun u hu => e2 u (h1.mem_iff.mp hu)
    have hp : (out.map bkV).Perm xs := by
      rw [e1]
      exact h1.map bkV
    have hlen : (out.map bkV).length ≤ sizeLine := by
      rw [hp.length_eq]
      exact hz
    refine ⟨.ref _, upd H (s.heap.objs.size + 1) (.lst (out.map bkV)), I.laid (t' := s.toks) (fun _ _ => PyProof.Rows.sortedAll_old) (Nat.le_succ _) ⟨hlen, out, ep, bkV_vals h3, he'⟩, rfl, q _ _ hp ?_ (I.hok.fresh (Nat.le_succ _))⟩
    rw [List.pairwise_map]
    refine List.Pairwise.imp (fun {u v} huv n m hn hm => ?_) h2
    obtain ⟨t, et, ht⟩ := hn
    obtain ⟨t', et', ht'⟩ := hm
    have i1 : TS.intsOf s.heap u = n := by
      rw [bkV_ref et]
      exact (tupI_raw I ht).ints
    have i2 : TS.intsOf s.heap v = m := by
      rw [bkV_ref et']
      exact (tupI_raw I ht').ints
    rw [← i1, ← i2]
    exact huv
end
end Mn
namespace Mn
open PySem PySem.Spec PyProof.Rows L2
/-! what is built in, over data -/
def lenD (d : PyData) : Option Nat := match d with
  | .list xs => some xs.length
  | .tuple xs => some xs.length
  | .str z => if z.length ≤ LIM then some z.length else none
  | _ => none
def gLen : List PyData → Option PyData
  | [d] => match lenD d with
    | some n => some (.int (n : Nat))
    | none => none
  | _ => none
def gListF : List PyData → Option (List PyData)
  | [d] => itemsD d
  | _ => none
def gTuple : List PyData → Option PyData
  | [d] => match itemsD d with
    | some xs => some (.tuple xs)
    | none => none
  | _ => none
def boolsD : List PyData → Option (List Bool)
  | [] => some []
  | .bool b :: r => match boolsD r with
    | some bs => some (b :: bs)
    | none => none
  | _ :: _ => none
def gAll : List PyData → Option PyData
  | [.list xs] => match boolsD xs with
    | some bs => some (.bool (bs.all id))
    | none => none
  | _ => none
def gAny : List PyData → Option PyData
  | [.list xs] => match boolsD xs with
    | some bs => some (.bool (bs.any id))
    | none => none
  | _ => none
def insI (k : Int) : List Int → List Int
  | [] => [k]
  | x :: xs => if k ≤ x then k :: x :: xs else x :: insI k xs
def srtI : List Int → List Int
  | [] => []
  | x :: xs => insI x (srtI xs)
/-! tuples of ints, by the library's number of them -/
def tupI : PyData → Option (List Int)
  | .tuple xs => intsD xs
  | _ => none
def tupsD : List PyData → Option (List (List Int))
  | [] => some []
  | x :: xs => match tupI x with
    | some k => match tupsD xs with
      | some ks => some (k :: ks)
      | none => none
    | none => none
abbrev dTup (k : List Int) : PyData := .tuple (k.map PyData.int)
abbrev TB : Int := 2000
def insT (k : List Int) : List (List Int) → List (List Int)
  | [] => [k]
  | x :: xs => if TS.code TB k ≤ TS.code TB x then k :: x :: xs else x :: insT k xs
def srtT : List (List Int) → List (List Int)
  | [] => []
  | x :: xs => insT x (srtT xs)
/-! in the order of tuples -/
abbrev LeL (a b : List Int) : Prop := HT.lexLt b a = false
theorem lexSwo : SrtO.Swo fun a b : List Int => HT.lexLt a b := NtL.swo_lexL id
theorem lex_anti : ∀ {a b : List Int}, HT.lexLt a b = false → HT.lexLt b a = false → a = b
  | [], [], _, _ => rfl
  | [], b :: bs, h, _ => by rw [HT.lexLt_nil_cons] at h; cases h
  | a :: as, [], _, h => by rw [HT.lexLt_nil_cons] at h; cases h
  | a :: as, b :: bs, h1, h2 => by
    rw [HT.lexLt_cons] at h1 h2
    by_cases e : a = b
    · subst e
      rw [if_pos rfl] at h1 h2
      rw [lex_anti h1 h2]
    · rw [if_neg e] at h1
      rw [if_neg fun z => e z.symm] at h2
      have h1 := of_decide_eq_false h1
      have h2 := of_decide_eq_false h2
      omega
def insL (k : List Int) : List (List Int) → List (List Int)
  | [] => [k]
  | x :: xs => if HT.lexLt x k = true then x :: insL k xs else k :: x :: xs
def srtL : List (List Int) → List (List Int)
  | [] => []
  | x :: xs => insL x (srtL xs)
theorem insL_perm (k : List Int) : ∀ xs, (insL k xs).Perm (k :: xs)
  | [] => List.Perm.refl _
  | x :: xs => by
    unfold insL
    split
    · exact ((insL_perm k xs).cons x).trans (List.Perm.swap k x xs)
    · exact List.Perm.refl _
theorem srtL_perm : ∀ xs, (srtL xs).Perm xs
  | [] => List.Perm.refl _
  | x :: xs => (insL_perm x (srtL xs)).trans ((srtL_perm xs).cons x)
theorem insL_sorted (k : List Int) : ∀ xs, xs.Pairwise LeL → (insL k xs).Pairwise LeL
  | [], _ => List.pairwise_singleton _ _
  | x :: xs, h => by
    unfold insL
    have hx := List.pairwise_cons.mp h
    split
    · rename_i hk
      refine List.pairwise_cons.mpr ⟨fun y hy => ?_, insL_sorted k xs hx.2⟩
      rcases List.mem_cons.mp ((insL_perm k xs).mem_iff.mp hy) with e | hy
      · subst e; exact lexSwo.asym _ _ hk
      · exact hx.1 y hy
    · rename_i hk
      have hk : HT.lexLt x k = false := by simpa using hk
      refine List.pairwise_cons.mpr ⟨fun y hy => ?_, h⟩
      rcases List.mem_cons.mp hy with e | hy
      · subst e; exact hk
      · exact lexSwo.tr _ _ _ hk (hx.1 y hy)
theorem srtL_sorted : ∀ xs, (srtL xs).Pairwise LeL
  | [] => List.Pairwise.nil
  | x :: xs => insL_sorted x _ (srtL_sorted xs)
theorem srtL_one {xs ys : List (List Int)} (p : xs.Perm ys) (h1 : xs.Pairwise LeL) : xs = srtL ys :=
  (p.trans (srtL_perm ys).symm).eq_of_pairwise (fun a b _ _ x y => lex_anti y x) h1 (srtL_sorted ys)
def bdB (ns : List Int) : Bool := ns.all fun m => decide (0 ≤ m ∧ m < TB)
def len1 : List (List Int) → Nat
  | [] => 0
  | k :: _ => k.length
def tupsOk (ks : List (List Int)) : Bool := decide (ks.length < 64) && (decide (1 ≤ len1 ks) && ks.all fun k => decide (k.length = len1 ks) && bdB k)
theorem bdB_ok {ns : List Int} (h : bdB ns = true) : TS.Bd TB ns := fun m hm => of_decide_eq_true (List.all_eq_true.mp h m hm)
theorem tupsOk_ok {ks : List (List Int)} (h : tupsOk ks = true) : ks.length < 64 ∧ 1 ≤ len1 ks ∧ ∀ k ∈ ks, k.length = len1 ks ∧ TS.Bd TB k := by
  simp only [tupsOk, Bool.and_eq_true, decide_eq_true_eq, List.all_eq_true] at h
  exact ⟨h.1, h.2.1, fun k hk => ⟨(h.2.2 k hk).1, bdB_ok (h.2.2 k hk).2⟩⟩
theorem code_inj {B : Int} : ∀ {a b : List Int}, a.length = b.length → TS.Bd B a → TS.Bd B b → TS.code B a = TS.code B b → a = b
  | [], [], _, _, _, _ => rfl
  | [], _ :: _, h, _, _, _ => by cases h
  | _ :: _, [], h, _, _, _ => by cases h
  | x :: a, y :: b, h, h1, h2, e => by
    have hl : a.length = b.length := Nat.succ.inj h
    have hxy : x = y := by
      rcases Int.lt_trichotomy x y with c | c | c
      · have := TS.code_lt hl h1.tail h2.tail c; omega
      · exact c
      · have := TS.code_lt hl.symm h2.tail h1.tail c; omega
    subst hxy
    have e2 : TS.code B a = TS.code B b := by
      rcases Int.lt_trichotomy (TS.code B a) (TS.code B b) with c | c | c
      · have := (TS.code_same (B := B) (d := x) hl).mpr c; omega
      · exact c
      · have := (TS.code_same (B := B) (d := x) hl.symm).mpr c; omega
    rw [code_inj hl h1.tail h2.tail e2]
theorem insT_perm (k : List Int) : ∀ xs, (insT k xs).Perm (k :: xs)
  | [] => List.Perm.refl _
  | x :: xs => by
    unfold insT
    split
    · exact List.Perm.refl _
    · exact ((insT_perm k xs).cons x).trans (List.Perm.swap k x xs)
theorem srtT_perm : ∀ xs, (srtT xs).Perm xs
  | [] => List.Perm.refl _
  | x :: xs => (insT_perm x (srtT xs)).trans ((srtT_perm xs).cons x)
abbrev LeT (a b : List Int) : Prop := TS.code TB a ≤ TS.code TB b
theorem insT_sorted (k : List Int) : ∀ xs, xs.Pairwise LeT → (insT k xs).Pairwise LeT
  | [], _ => List.pairwise_singleton _ _
  | x :: xs, h => by
    unfold insT
    have hx := List.pairwise_cons.mp h
    split
    · rename_i hk
      refine List.pairwise_cons.mpr ⟨fun y hy => ?_, h⟩
      rcases List.mem_cons.mp hy with e | hy
      · subst e; exact hk
      · exact Int.le_trans hk (hx.1 y hy)
    · rename_i hk
      refine List.pairwise_cons.mpr ⟨fun y hy => ?_, insT_sorted k xs hx.2⟩
      rcases List.mem_cons.mp ((insT_perm k xs).mem_iff.mp hy) with e | hy
      · subst e; show TS.code TB x ≤ TS.code TB _; omega
      · exact hx.1 y hy
theorem srtT_sorted : ∀ xs, (srtT xs).Pairwise LeT
  | [] => List.Pairwise.nil
  | x :: xs => insT_sorted x _ (srtT_sorted xs)
theorem srtT_one {xs ys : List (List Int)} {d : Nat} (hd : ∀ k ∈ ys, k.length = d ∧ TS.Bd TB k) (p : xs.Perm ys) (h1 : xs.Pairwise LeT) : xs = srtT ys := by
  have p2 := p.trans (srtT_perm ys).symm
  refine p2.eq_of_pairwise (fun a b ha hb x y => ?_) h1 (srtT_sorted ys)
  have h3 := hd a (p.mem_iff.mp ha)
  have h4 := hd b ((srtT_perm ys).mem_iff.mp hb)
  exact code_inj (h3.1.trans h4.1.symm) h3.2 h4.2 (Int.le_antisymm x y)
theorem intsD_of : ∀ {xs : List PyData} {k : List Int}, intsD xs = some k → xs = k.map PyData.int
  | [], _, e => by cases e; rfl
  | d :: xs, k, e => by
    cases d with
    | int i =>
      simp only [intsD] at e
      cases h : intsD xs with
      | none => rw [h] at e; cases e
      | some bs => rw [h] at e; cases e; rw [intsD_of h]; rfl
    | _ => cases e
/-- the places and the numbers of tracked tuples -/
theorem RpA.tups {K : PySem.W.Frag} {G : Hp} : ∀ {vs : List V} {ds : List PyData} {ks : List (List Int)}, RpA K G vs ds → tupsD ds = some ks → ∃ ps : List (Addr × List Int), vs = ps.map (fun p => V.ref p.1) ∧ ks = ps.map (·.2) ∧ (∀ p ∈ ps, Rp K G (.ref p.1) (dTup p.2)) ∧ ∀ p ∈ ps, G p.1 = some (.tup (p.2.map V.int))
  | _, _, _, .nil, e => by cases e; exact ⟨[], rfl, rfl, (fun p h => nomatch h), fun p h => nomatch h⟩
  | _, _, _, .cons (d := d) (ds := ds) a b, e => by
    simp only [tupsD] at e
    cases h1 : tupI d with
    | none => rw [h1] at e; cases e
    | some k =>
      rw [h1] at e
      cases h2 : tupsD ds with
      | none => simp only [h2] at e; cases e
      | some ks =>
        simp only [h2] at e
        cases e
        obtain ⟨ps, rfl, rfl, h3, h4⟩ := RpA.tups b h2
        cases d with
        | tuple xs =>
          have hi : Mn.intsD xs = some k := h1
          cases a with
          | tup g ra =>
            rename_i t us
            have e1 := RpA.intsD ra hi
            subst e1
            have e2 := intsD_of hi
            subst e2
            refine ⟨(t, k) :: ps, rfl, rfl, fun p hp => ?_, fun p hp => ?_⟩
            · rcases List.mem_cons.mp hp with rfl | hp
              · exact .tup g ra
              · exact h3 p hp
            · rcases List.mem_cons.mp hp with rfl | hp
              · exact g
              · exact h4 p hp
        | _ => cases h1
theorem RpA.ofTups {K : PySem.W.Frag} {G : Hp} : ∀ {ps : List (Addr × List Int)}, (∀ p ∈ ps, Rp K G (.ref p.1) (dTup p.2)) → RpA K G (ps.map fun p => V.ref p.1) ((ps.map (·.2)).map dTup)
  | [], _ => .nil
  | p :: ps, h => .cons (h p (List.mem_cons_self ..)) (RpA.ofTups fun q hq => h q (List.mem_cons_of_mem _ hq))
theorem perm_refs {ps : List (Addr × List Int)} {ys : List V} (p : ys.Perm (ps.map fun p => V.ref p.1)) : ∃ qs : List (Addr × List Int), qs.Perm ps ∧ ys = qs.map fun p => V.ref p.1 := by
  generalize hz : ps.map (fun p => V.ref p.1) = zs at p
  replace p := p.symm
  induction p generalizing ps with
  | nil =>
    have : ps = [] := List.map_eq_nil_iff.mp hz
    subst this
    exact ⟨[], List.Perm.refl _, rfl⟩
  | cons x _ ih =>
    cases ps with
    | nil => cases hz
    | cons q ps =>
      obtain ⟨e1, e2⟩ := List.cons.inj hz
      obtain ⟨qs, h1, h2⟩ := ih e2
      exact ⟨q :: qs, h1.cons q, by rw [h2, ← e1]; rfl⟩
  | swap x y l =>
    match ps, hz with
    | q :: r :: ps, hz =>
      obtain ⟨e1, e2⟩ := List.cons.inj hz
      obtain ⟨e2, e3⟩ := List.cons.inj e2
      exact ⟨r :: q :: ps, List.Perm.swap q r ps, by rw [← e1, ← e2, ← e3]; rfl⟩
    | [q], hz => cases (List.cons.inj hz).2
    | [], hz => cases hz
  | trans _ _ ih1 ih2 =>
    obtain ⟨qs, h1, h2⟩ := ih1 hz
    obtain ⟨rs, h3, h4⟩ := ih2 h2.symm
    exact ⟨rs, h3.trans h1, h4⟩
def gSortF : List PyData → Option (List PyData)
  | [.list xs] => match intsD xs with
    | some ns => some ((srtI ns).map PyData.int)
    | none => match tupsD xs with
      | some ks => if (ks.all fun k => !k.isEmpty) = true then some ((srtL ks).map dTup) else none
      | none => none
  | _ => none
def gMin2 : List PyData → Option PyData
  | [.int i, .int j] => some (.int (if j < i then j else i))
  | _ => none
def gMax2 : List PyData → Option PyData
  | [.int i, .int j] => some (.int (if j > i then j else i))
  | _ => none
def gInt1 : List PyData → Option PyData
  | [.int i] => some (.int i)
  | [.bool k] => some (.int (if k then 1 else 0))
  | _ => none
def okShow (d : PyData) : Bool := d.showable && d.leavesShort 22 && decide (d.bulk ≤ 600000) && decide (d.depth ≤ 60)
def gRepr : List PyData → Option PyData
  | [d] => if okShow d then some (.str d.shown) else none
  | _ => none
theorem insI_perm (k : Int) : ∀ xs : List Int, (insI k xs).Perm (k :: xs)
  | [] => List.Perm.refl _
  | x :: xs => by
    unfold insI
    split
    · exact List.Perm.refl _
    · exact ((insI_perm k xs).cons x).trans (List.Perm.swap k x xs)
theorem srtI_perm : ∀ xs : List Int, (srtI xs).Perm xs
  | [] => List.Perm.refl _
  | x :: xs => (insI_perm x (srtI xs)).trans ((srtI_perm xs).cons x)
theorem insI_sorted (k : Int) : ∀ xs : List Int, xs.Pairwise (· ≤ ·) → (insI k xs).Pairwise (· ≤ ·)
  | [], _ => List.pairwise_singleton _ _
  | x :: xs, h => by
    unfold insI
    have hx := List.pairwise_cons.mp h
    split
    · rename_i hk
      refine List.pairwise_cons.mpr ⟨fun y hy => ?_, h⟩
      rcases List.mem_cons.mp hy with e | hy
      · subst e; exact hk
      · exact Int.le_trans hk (hx.1 y hy)
    · rename_i hk
      refine List.pairwise_cons.mpr ⟨fun y hy => ?_, insI_sorted k xs hx.2⟩
      rcases List.mem_cons.mp ((insI_perm k xs).mem_iff.mp hy) with e | hy
      · subst e; omega
      · exact hx.1 y hy
theorem srtI_sorted : ∀ xs : List Int, (srtI xs).Pairwise (· ≤ ·)
  | [] => List.Pairwise.nil
  | x :: xs => insI_sorted x _ (srtI_sorted xs)
theorem sorted_one {xs ys : List Int} (p : xs.Perm ys) (h1 : xs.Pairwise (· ≤ ·)) (h2 : ys.Pairwise (· ≤ ·)) : xs = ys :=
  p.eq_of_pairwise (fun a b _ _ x y => Int.le_antisymm x y) h1 h2
theorem RpA.boolsD {K : PySem.W.Frag} {G : Hp} : ∀ {vs : List V} {ds : List PyData} {bs : List Bool}, RpA K G vs ds → boolsD ds = some bs → vs = bs.map V.bl
  | _, _, _, .nil, e => by cases e; rfl
  | _, _, _, .cons (d := d) (ds := ds) a b, e => by
    cases d with
    | bool k =>
      simp only [Mn.boolsD] at e
      cases h : Mn.boolsD ds with
      | none => rw [h] at e; cases e
      | some bs =>
        rw [h] at e
        cases e
        cases a
        rw [RpA.boolsD b h]
        rfl
    | _ => cases e
theorem boolsD_map : ∀ ns : List Bool, boolsD (ns.map PyData.bool) = some ns
  | [] => rfl
  | n :: ns => by simp only [List.map_cons, boolsD, boolsD_map ns]
section
variable {X : Cx}
theorem d_len : CallR X (.builtin "len") (rn X.K gLen) := by
  intro pins s σ H xs us Q I r h
  obtain ⟨G, ds, d, le, hr, hg, q⟩ := h
  cases hr with
  | nil => cases hg
  | cons a b =>
    cases b with
    | cons _ _ => cases hg
    | nil =>
      cases a with
      | lst h a =>
        cases hg
        exact call_len pins s σ H _ us Q I r ⟨_, _, rfl, .inl ⟨_, SqL.of (le _ _ h), rfl⟩, q _ H G (Nw.refl le) (by rw [RpA.length a]; exact .int _)⟩
      | tup h a =>
        cases hg
        exact call_len pins s σ H _ us Q I r ⟨_, _, rfl, .inr ⟨_, SqT.of (le _ _ h), rfl⟩, q _ H G (Nw.refl le) (by rw [RpA.length a]; exact .int _)⟩
      | str z =>
        simp only [gLen, lenD] at hg
        by_cases hz : z.length ≤ LIM
        · rw [if_pos hz] at hg
          cases hg
          exact call_len pins s σ H _ us Q I r ⟨_, _, rfl, ⟨lim_le hz, rfl⟩, q _ H G (Nw.refl le) (.int _)⟩
        · rw [if_neg hz] at hg
          cases hg
      | _ => cases hg
theorem d_list : CallR X (.type "list") (rf X.K gListF) := by
  intro pins s σ H xs us Q I r h
  obtain ⟨G, ds, d, le, hr, hg, q⟩ := h
  cases hr with
  | nil => cases hg
  | cons a b =>
    cases b with
    | cons _ _ => cases hg
    | nil =>
      obtain ⟨p, vs, rfl, hs, ha⟩ := seq_of le a hg
      exact call_list_of pins s σ H _ us Q I r ⟨p, vs, rfl, hs, fun l hl => q l vs hl ha⟩
theorem d_tuple : CallR X (.type "tuple") (rn X.K gTuple) := by
  intro pins s σ H xs us Q I r h
  obtain ⟨G, ds, d, le, hr, hg, q⟩ := h
  cases hr with
  | nil => cases hg
  | cons a b =>
    cases b with
    | cons _ _ => cases hg
    | nil =>
      cases a with
      | lst h a =>
        cases hg
        exact call_tuple_of pins s σ H _ us Q I r ⟨_, _, rfl, .inl ⟨SqL.of (le _ _ h), fun l hl => q _ _ _ (Nw.new le hl) (.tup upd_same (RpA.mono (Nw.new le hl).gg a))⟩⟩
      | tup h a =>
        cases hg
        exact call_tuple_of pins s σ H _ us Q I r ⟨_, _, rfl, .inr ⟨SqT.of (le _ _ h), q _ H G (Nw.refl le) (.tup h a)⟩⟩
      | _ => cases hg
theorem d_all (hc : X.calm = true) : CallR X (.builtin "all") (rn X.K gAll) := by
  intro pins s σ H xs us Q I r h
  obtain ⟨G, ds, d, le, hr, hg, q⟩ := h
  cases hr with
  | nil => cases hg
  | cons a b =>
    cases b with
    | cons _ _ => cases a <;> cases hg
    | nil =>
      cases a with
      | lst h a =>
        rename_i ds
        simp only [gAll] at hg
        cases hb : boolsD ds with
        | none => rw [hb] at hg; cases hg
        | some bs =>
          rw [hb] at hg
          cases hg
          have e := RpA.boolsD a hb
          subst e
          exact cr_all hc pins s σ H _ us Q I r ⟨_, bs, rfl, SqL.of (le _ _ h), q _ H G (Nw.refl le) (.bl _)⟩
      | _ => cases hg
theorem d_any (hc : X.calm = true) : CallR X (.builtin "any") (rn X.K gAny) := by
  intro pins s σ H xs us Q I r h
  obtain ⟨G, ds, d, le, hr, hg, q⟩ := h
  cases hr with
  | nil => cases hg
  | cons a b =>
    cases b with
    | cons _ _ => cases a <;> cases hg
    | nil =>
      cases a with
      | lst h a =>
        rename_i ds
        simp only [gAny] at hg
        cases hb : boolsD ds with
        | none => rw [hb] at hg; cases hg
        | some bs =>
          rw [hb] at hg
          cases hg
          have e := RpA.boolsD a hb
          subst e
          exact cr_any hc pins s σ H _ us Q I r ⟨_, bs, rfl, SqL.of (le _ _ h), q _ H G (Nw.refl le) (.bl _)⟩
      | _ => cases hg
theorem d_sorted : CallR X (.builtin "sorted") (rf X.K gSortF) := by
  intro pins s σ H xs us Q I r h
  obtain ⟨G, ds, d, le, hr, hg, q⟩ := h
  cases hr with
  | nil => cases hg
  | cons a b =>
    cases b with
    | cons _ _ => cases a <;> cases hg
    | nil =>
      cases a with
      | lst h a =>
        rename_i ds
        simp only [gSortF] at hg
        cases hb : intsD ds with
        | none =>
          rw [hb] at hg
          dsimp only at hg
          cases hk : tupsD ds with
          | none => rw [hk] at hg; cases hg
          | some ks =>
            rw [hk] at hg
            dsimp only at hg
            split at hg
            · rename_i hok
              cases hg
              obtain ⟨ps, rfl, rfl, h3, h4⟩ := RpA.tups a hk
              have tI : ∀ p ∈ ps, SqT X.K H p.1 (p.2.map V.int) := fun p hp => SqT.of (le _ _ (h4 p hp))
              refine cr_sortL pins s σ H _ us Q I r ⟨_, _, rfl, SqL.of (le _ _ h), fun x hx => ?_, fun ys p hp hs hn => ?_⟩
              · obtain ⟨q, hq, rfl⟩ := List.mem_map.mp hx
                have := List.all_eq_true.mp hok q.2 (List.mem_map.mpr ⟨q, hq, rfl⟩)
                exact ⟨q.2, ⟨q.1, rfl, tI q hq⟩, fun e => by rw [e] at this; cases this⟩
              · obtain ⟨qs, pq, rfl⟩ := perm_refs hp
                have hsort : (qs.map (·.2)).Pairwise LeL := by
                  rw [List.pairwise_map] at hs ⊢
                  refine List.Pairwise.imp_of_mem (fun {x y} hx hy z => ?_) hs
                  exact z x.2 y.2 ⟨x.1, rfl, tI x (pq.mem_iff.mp hx)⟩ ⟨y.1, rfl, tI y (pq.mem_iff.mp hy)⟩
                have e := srtL_one (pq.map (·.2)) hsort
                rw [← e] at q
                exact q p _ hn (RpA.ofTups fun p hp => h3 p (pq.mem_iff.mp hp))
            · cases hg
        | some ns =>
          rw [hb] at hg
          cases hg
          have e := RpA.intsD a hb
          subst e
          refine cr_sortedI pins s σ H _ us Q I r ⟨_, ns, rfl, SqL.of (le _ _ h), fun ns' p hp hs hn => ?_⟩
          have e : ns' = srtI ns := sorted_one (hp.trans (srtI_perm ns).symm) hs (srtI_sorted ns)
          subst e
          exact q p _ hn (RpA.ofInts _)
      | _ => cases hg
theorem d_min2 (hc : X.calm = true) : CallR X (.builtin "min") (rn X.K gMin2) := by
  intro pins s σ H xs us Q I r h
  obtain ⟨G, ds, d, le, hr, hg, q⟩ := h
  cases hr with
  | nil => cases hg
  | cons a b =>
    cases b with
    | nil => cases a <;> cases hg
    | cons b c =>
      cases c with
      | cons _ _ => cases a <;> cases b <;> cases hg
      | nil =>
        cases a with
        | int i =>
          cases b with
          | int j =>
            cases hg
            exact call_min2 hc pins s σ H _ us Q I r ⟨i, j, rfl, q _ H G (Nw.refl le) (.int _)⟩
          | _ => cases hg
        | _ => cases b <;> cases hg
theorem d_max2 (hc : X.calm = true) : CallR X (.builtin "max") (rn X.K gMax2) := by
  intro pins s σ H xs us Q I r h
  obtain ⟨G, ds, d, le, hr, hg, q⟩ := h
  cases hr with
  | nil => cases hg
  | cons a b =>
    cases b with
    | nil => cases a <;> cases hg
    | cons b c =>
      cases c with
      | cons _ _ => cases a <;> cases b <;> cases hg
      | nil =>
        cases a with
        | int i =>
          cases b with
          | int j =>
            cases hg
            exact call_max2 hc pins s σ H _ us Q I r ⟨i, j, rfl, q _ H G (Nw.refl le) (.int _)⟩
          | _ => cases hg
        | _ => cases b <;> cases hg
theorem d_int1 : CallR X (.type "int") (rn X.K gInt1) := by
  intro pins s σ H xs us Q I r h
  obtain ⟨G, ds, d, le, hr, hg, q⟩ := h
  cases hr with
  | nil => cases hg
  | cons a b =>
    cases b with
    | cons _ _ => cases a <;> cases hg
    | nil =>
      cases a with
      | int i =>
        cases hg
        exact call_int1 pins s σ H _ us Q I r (.inl ⟨i, rfl, q _ H G (Nw.refl le) (.int _)⟩)
      | bl k =>
        cases hg
        exact call_int1 pins s σ H _ us Q I r (.inr ⟨k, rfl, q _ H G (Nw.refl le) (.int _)⟩)
      | _ => cases hg
theorem d_repr (hu : X.A.units + 70 < cLine) (hgd : X.A.guards = some []) (sm : SM X) : CallR X (.builtin "repr") (rn X.K gRepr) := by
  intro pins s σ H xs us Q I r h
  obtain ⟨G, ds, d, le, hr, hg, q⟩ := h
  cases hr with
  | nil => cases hg
  | cons a b =>
    cases b with
    | cons _ _ => cases hg
    | nil =>
      rename_i d
      simp only [gRepr] at hg
      by_cases ho : okShow d = true
      · rw [if_pos ho] at hg
        cases hg
        have hsz : d.shown.length ≤ sizeLine ∧ d.showable = true ∧ d.depth ≤ 60 := by
          unfold okShow at ho
          simp only [Bool.and_eq_true, decide_eq_true_eq] at ho
          have hlen := PyData.shown_le_bulk 22 (by decide) d ho.1.1.2
          have hbulk := ho.1.2
          exact ⟨by rw [sizeLine_eq]; omega, ho.1.1.1, ho.2⟩
        obtain ⟨u, rfl, rx⟩ := vals1 r
        obtain ⟨as, hrd, hsm⟩ := Rp.reads I le a rx
        have heap : ∀ {p : Addr}, u = .ref p → wpAny (model X.prog X.w) X.A (call (.builtin "repr") [u]) (EP X pins σ Q) X.xe s := fun {p} e => by
          subst e
          exact repr_of_reads' hrd hsz.2.1 (fun _ => hsm sm) hgd (by have := hsz.2.2; omega) (fun _ _ z => z) (fun h' u tk k => ⟨.str _, H, I.kept k, ⟨_, rfl⟩, q _ H G (Nw.refl le) (.str _)⟩) hsz.1
        cases a with
        | non =>
          cases rx
          exact PySem.P.repr_of_none ⟨.str _, H, I.tok _, ⟨_, rfl⟩, q _ H G (Nw.refl le) (.str _)⟩
        | bl k =>
          cases rx
          refine PySem.P.repr_of_bool ⟨.str _, H, I.tok _, ⟨_, rfl⟩, q _ H G (Nw.refl le) ?_⟩
          cases k <;> exact .str _
        | int i =>
          obtain ⟨t, rfl⟩ := rx
          have hz : i.natAbs.log2 < 1920 := by
            have := hsz.2.1
            simp only [PyData.showable, decide_eq_true_eq] at this
            exact this
          exact PySem.P.repr_of_int hz ⟨.str _, H, I.tok _, ⟨_, rfl⟩, q _ H G (Nw.refl le) (.str _)⟩
        | str x =>
          obtain ⟨t, rfl⟩ := rx
          exact PySem.P.repr_of_str ⟨.str _, H, I.tok _, ⟨_, rfl⟩, q _ H G (Nw.refl le) (.str _)⟩ hsz.1
        | lst h a => exact heap rx
        | tup h a => exact heap rx
        | dict0 h => exact heap rx
      · rw [if_neg ho] at hg
        cases hg
end
/-! slices -/
def cutL {α : Type} (xs : List α) (lo hi : Option Int) : List α := (xs.drop (HT.sIx xs.length 0 lo)).take (HT.sIx xs.length xs.length hi - HT.sIx xs.length 0 lo)
abbrev EvO := Ev → Pn → Option (Option Int × Pn)
def tOp1 (F : Fz) (ev : EvO) : TO := fun σ H Q => ∃ G Γ st o st', Rel F σ H G Γ st ∧ ev Γ st = some (o, st') ∧ ∀ H' G', Ext F.K F.pn F.pc H G H' G' st' → Q o H'
def evO0 : EvO := fun _ st => some (none, st)
def evO1 (a : EvE) : EvO := fun Γ st => match a Γ st with
  | some (.int i, st1) => some (some i, st1)
  | _ => none
def evSl (a : EvE) (l h : EvO) : EvE := fun Γ st => match a Γ st with
  | some (d, st1) => match l Γ st1 with
    | some (lo, st2) => match h Γ st2 with
      | some (hi, st3) => match d with
        | .list xs => some (.list (cutL xs lo hi), st3)
        | .tuple xs => some (.tuple (cutL xs lo hi), st3)
        | _ => none
      | none => none
    | none => none
  | none => none
theorem PO.conv' {X : Cx} {e : Option Expr} {t t' : TO} (h : PO X e t) (f : ∀ σ H Q, t' σ H Q → t σ H Q) : PO X e t' := ⟨fun pins s σ H Q I q => h.run pins s σ H Q I (f σ H Q q)⟩
theorem cut_rp {K : PySem.W.Frag} {G : Hp} {vs : List V} {ds : List PyData} (h : RpA K G vs ds) (lo hi : Option Int) : RpA K G (cutV vs lo hi) (cutL ds lo hi) := by
  unfold cutV cutL
  rw [RpA.length h]
  exact RpA.take _ (RpA.drop _ h)
theorem cut_whole {α : Type} {xs : List α} {lo hi : Option Int} (h1 : HT.sIx xs.length 0 lo = 0) (h2 : HT.sIx xs.length xs.length hi = xs.length) : cutL xs lo hi = xs := by
  unfold cutL
  rw [h1, h2]
  simp
section
variable {X : Cx} {F : Fz} {e : Expr} {lo hi : Option Expr} {ea : EvE} {el eh : EvO} {pos p2 : Pos}
theorem po0 : PO X none (tOp1 F evO0) := PO.conv' po_none fun σ H Q q => by
  obtain ⟨G, Γ, st, o, st', R, hev, q⟩ := q
  obtain ⟨rfl, rfl⟩ := Prod.mk.inj (Option.some.inj hev)
  exact q H G (Ext.refl R)
theorem po1 (h : PE X e (tE F ea)) : PO X (some e) (tOp1 F (evO1 ea)) := PO.conv' (po_some h) fun σ H Q q => by
  obtain ⟨G, Γ, st, o, st', R, hev, q⟩ := q
  unfold evO1 at hev
  split at hev
  · rename_i i st1 h1
    obtain ⟨rfl, rfl⟩ := Prod.mk.inj (Option.some.inj hev)
    refine ⟨G, Γ, st, _, _, R, h1, fun v H1 G1 E1 r1 => ?_⟩
    cases r1
    exact ⟨i, rfl, q H1 G1 E1⟩
  · cases hev
theorem sn_slice (hK : F.K = X.K) (ha : PE X e (tE F ea)) (hl : PO X lo (tOp1 F el)) (hh : PO X hi (tOp1 F eh)) : PE X (.Subscript e (.Slice lo hi none p2) pos) (tE F (evSl ea el eh)) := peC (pe_slice (SlR.or sl_list sl_tupA) ha hl hh) fun σ H Q q => by
  obtain ⟨G, Γ, st, d', st', R, hev, q⟩ := q
  unfold evSl at hev
  cases h1 : ea Γ st with
  | none => rw [h1] at hev; cases hev
  | some p1 =>
    obtain ⟨d, st1⟩ := p1
    rw [h1] at hev
    cases h2 : el Γ st1 with
    | none => simp only [h2] at hev; cases hev
    | some p2 =>
      obtain ⟨lo, st2⟩ := p2
      simp only [h2] at hev
      cases h3 : eh Γ st2 with
      | none => simp only [h3] at hev; cases hev
      | some p3 =>
        obtain ⟨hi, st3⟩ := p3
        simp only [h3] at hev
        refine ⟨G, Γ, st, d, st1, R, h1, fun v1 H1 G1 E1 r1 => ?_⟩
        refine ⟨G1, Γ, st1, lo, st2, R.step E1, h2, fun H2 G2 E2 => ?_⟩
        refine ⟨G2, Γ, st2, hi, st3, (R.step E1).step E2, h3, fun H3 G3 E3 => ?_⟩
        have E := Ext.trans' (σ := σ) (Γ := Γ) (Ext.trans' (σ := σ) (Γ := Γ) E1 E2) E3
        have R3 := R.step E
        have r3 := Rp.mono E3.gg (Rp.mono E2.gg r1)
        rw [hK] at r3
        cases r3 with
        | lst h a =>
          obtain ⟨rfl, rfl⟩ := Prod.mk.inj (Option.some.inj hev)
          rename_i vs ds
          refine .inl ⟨_, _, rfl, SqL.of (E3.gh _ _ h), fun p hp => ?_⟩
          have N := Nw.new R3.le (o := .lst (cutV vs lo hi)) hp
          exact q _ _ _ (Ext.trans' (σ := σ) (Γ := Γ) E (N.ext R3)) (by rw [hK]; exact .lst upd_same (RpA.mono N.gg (cut_rp a lo hi)))
        | tup h a =>
          obtain ⟨rfl, rfl⟩ := Prod.mk.inj (Option.some.inj hev)
          rename_i vs ds
          refine .inr ⟨_, _, rfl, SqT.of (E3.gh _ _ h), fun w => ?_, fun _ p hp => ?_⟩
          · rw [RpA.length a] at w
            rw [cut_whole w.1 w.2] at q
            exact q _ H3 G3 E (by rw [hK]; exact .tup h a)
          · have N := Nw.new R3.le (o := .tup (cutV vs lo hi)) hp
            exact q _ _ _ (Ext.trans' (σ := σ) (Γ := Γ) E (N.ext R3)) (by rw [hK]; exact .tup upd_same (RpA.mono N.gg (cut_rp a lo hi)))
        | _ => cases hev
end
/-! kinds -/
def tyD : PyData → String
  | .none => "NoneType"
  | .bool _ => "bool"
  | .int _ => "int"
  | .str _ => "str"
  | .list _ => "list"
  | .tuple _ => "tuple"
  | .dict _ => "dict"
theorem tyOf_rp {K : PySem.W.Frag} {H G : Hp} (le : Same G H) {v : V} {d : PyData} (h : Rp K G v d) : TyOf K H v (.type (tyD d)) := by
  cases h with
  | non => exact .non
  | bl b => exact .bl b
  | int i => exact .int i
  | str x => exact .str x
  | lst h a => exact .lst (le _ _ h)
  | tup h a => exact .tup (le _ _ h)
  | dict0 h => exact .dK (le _ _ h)
end Mn
namespace Mn
open PySem PySem.Spec PyProof.Rows L2
/-! whatever the frame's facts are -/
def Sn (X : Cx) (e : Expr) (ev : EvE) : Prop := ∀ F : Fz, F.K = X.K → Snd X F e ev
def SnE (X : Cx) (e : Expr) (ev : EvE) : Prop := ∀ F : Fz, F.K = X.K → PE X e (tE F ev)
def SnF (X : Cx) (e : Expr) (ev : EvF) : Prop := ∀ F : Fz, F.K = X.K → PE X e (tF F ev)
def SnA (X : Cx) (es : List Expr) (ev : EvA) : Prop := ∀ F : Fz, F.K = X.K → PA X es (tAs F ev)
theorem Sn.e {X : Cx} {e : Expr} {ev : EvE} (h : Sn X e ev) : SnE X e ev := fun F hF => (h F hF).pe
/-- an expression whose test is its value -/
theorem Sn.plain {X : Cx} {e : Expr} {ev : EvE} (h : SnE X e ev) (he : ∀ whole, isTrue e X.env whole = (do let v ← whole; standAt e.pos; holding [v] (truthy v))) : Sn X e ev :=
  fun F hF => ⟨h F hF, pt_of_pe (h F hF) he⟩
/-! isinstance(e, T), type(e) is T -/
def isaD (d : PyData) (T : String) : Option Bool := kitB (tyD d) T
def evIsa (a : EvE) (T : String) : EvE := fun Γ st => match a Γ st with
  | some (d, st1) => match isaD d T with
    | some b => some (.bool b, st1)
    | none => none
  | none => none
def evTyIs (a : EvE) (T : String) (neg : Bool) : EvE := fun Γ st => match a Γ st with
  | some (d, st1) => some (.bool (if neg then !decide (tyD d = T) else decide (tyD d = T)), st1)
  | none => none
theorem tyB_rp {K : PySem.W.Frag} {H G : Hp} (le : Same G H) {v : V} {d : PyData} (h : Rp K G v d) : TyB K H v (tyD d) := by
  cases h with
  | non => exact .non
  | bl b => exact .bl b
  | int i => exact .int i
  | str x => exact .str x
  | lst h a => exact .lst (SqL.of (le _ _ h))
  | tup h a => exact .tup (SqT.of (le _ _ h))
  | dict0 h => exact .dK (le _ _ h)
section
variable {X : Cx} {e : Expr} {ea : EvE} {pos p p2 : Pos} {T : String} {x : Str}
theorem sn_isa (hg : Gl X "isinstance") (hm : X.mg "isinstance" = none) (hgT : Gl X x) (hmT : X.mg x = none) (hT : bootBuiltins x = some (.type T)) (hn : x ≠ "__name__") (hd : (x == ("__debug__" : Str)) = false) (ha : SnE X e ea)
    (h1 : starEach (e :: [.Name x p2]) X.env = (false, eval e X.env) :: starEach [.Name x p2] X.env) : SnE X (.Call (.Name "isinstance" p) [e, .Name x p2] [] pos) (evIsa ea T) := fun F hK => by
  have hty : PE X (.Name x p2) (tC (.ty T)) := pe_bltn hgT hmT hT rfl hn hd
  refine peC (pe_callB call_isi hg hm boot_isinstance (pa_cons (ha F hK) (pa_cons hty pa_nil) h1) (he := h1)) fun σ H Q q => ?_
  obtain ⟨G, Γ, st, d', st', R, hev, q⟩ := q
  unfold evIsa at hev
  cases h1 : ea Γ st with
  | none => rw [h1] at hev; cases hev
  | some p1 =>
    obtain ⟨d, st1⟩ := p1
    rw [h1] at hev
    cases h2 : isaD d T with
    | none => simp only [h2] at hev; cases hev
    | some b =>
      simp only [h2] at hev
      obtain ⟨rfl, rfl⟩ := Prod.mk.inj (Option.some.inj hev)
      refine ⟨G, Γ, st, d, _, R, h1, fun v1 H1 G1 E1 r1 => ?_⟩
      have R1 := R.step E1
      rw [hK] at r1
      exact ⟨v1, .ty T, .type (tyD d), .type T, b, rfl, .ty T, .base (tyOf_rp R1.le r1), kit_ty h2, q _ H1 G1 E1 (.bl _)⟩
theorem sn_tyIs (neg : Bool) (hg : Gl X "type") (hm : X.mg "type" = none) (hgT : Gl X x) (hmT : X.mg x = none) (hT : bootBuiltins x = some (.type T)) (hn : x ≠ "__name__") (hd : (x == ("__debug__" : Str)) = false) (ha : SnE X e ea)
    (h1 : starEach (e :: []) X.env = (false, eval e X.env) :: starEach [] X.env) {p3 : Pos} : Sn X (.Compare (.Call (.Name "type" p) [e] [] p3) [if neg then .IsNot else .Is] [.Name x p2] pos) (evTyIs ea T neg) := fun F hK => by
  have hty : PE X (.Name x p2) (tC (.ty T)) := pe_bltn hgT hmT hT rfl hn hd
  have hcall := pe_callTy (p := p) (pos := p3) call_type1 hg hm (by decide +kernel) (pa_cons (ha F hK) pa_nil h1) (he := h1)
  have red : ∀ {σ : L2.St} {H : Hp} {Q : VK}, tE F (evTyIs ea T neg) σ H Q → tCB (rTyp X.K) (tCons (tE F ea) tNil) σ H fun x H1 => tC (.ty T) σ H1 fun y H2 => ∃ a b, x = .ty a ∧ y = .ty b ∧ Q (.bl (if neg then !decide (a = b) else decide (a = b))) H2 := fun {σ H Q} q => by
    obtain ⟨G, Γ, st, d', st', R, hev, q⟩ := q
    unfold evTyIs at hev
    cases h1 : ea Γ st with
    | none => rw [h1] at hev; cases hev
    | some p1 =>
      obtain ⟨d, st1⟩ := p1
      rw [h1] at hev
      obtain ⟨rfl, rfl⟩ := Prod.mk.inj (Option.some.inj hev)
      refine ⟨G, Γ, st, d, _, R, h1, fun v1 H1 G1 E1 r1 => ?_⟩
      have R1 := R.step E1
      rw [hK] at r1
      exact ⟨v1, tyD d, rfl, tyB_rp R1.le r1, tyD d, T, rfl, rfl, q _ H1 G1 E1 (.bl _)⟩
  cases neg with
  | false =>
    exact ⟨peC (pe_cmpR op_isTyB hcall hty (nomark _)) fun σ H Q q => red q, ptC (pt_cmpR op_isTyB hcall hty (nomark _)) fun σ H Q q => red (tE_true q)⟩
  | true =>
    exact ⟨peC (pe_cmpR op_notTyB hcall hty (nomark _)) fun σ H Q q => red q, ptC (pt_cmpR op_notTyB hcall hty (nomark _)) fun σ H Q q => red (tE_true q)⟩
end
/-! calls of defs -/
inductive Arg where
  | d (x : PyData)
  | pen
abbrev Fn := List Arg → Pn → Option (PyData × Pn)
def ArgOk (K : PySem.W.Frag) (pn : Option Addr) (G : Hp) (v : V) : Arg → Prop
  | .d x => Rp K G v x
  | .pen => ∃ p, pn = some p ∧ v = .ref p
inductive ArgsOk (K : PySem.W.Frag) (pn : Option Addr) (G : Hp) : List V → List Arg → Prop
  | nil : ArgsOk K pn G [] []
  | cons {v : V} {vs : List V} {a : Arg} {as : List Arg} : ArgOk K pn G v a → ArgsOk K pn G vs as → ArgsOk K pn G (v :: vs) (a :: as)
theorem ArgsOk.length {K : PySem.W.Frag} {pn : Option Addr} {G : Hp} {vs : List V} {as : List Arg} (h : ArgsOk K pn G vs as) : vs.length = as.length := by
  induction h with
  | nil => rfl
  | cons _ _ ih => rw [List.length_cons, List.length_cons, ih]
def spF (K : PySem.W.Frag) (n : Nat) (f : Fn) : Sp := fun vs H Q _ => vs.length = n ∧ ∃ pn pc G args st d st', Same G H ∧ PenOk K pn pc G H st ∧ ArgsOk K pn G vs args ∧ f args st = some (d, st') ∧
  ∀ v H' G', Ext K pn pc H G H' G' st' → Rp K G' v d → Q v H'
abbrev EvG := Ev → Pn → Option (List Arg × Pn)
def tAg (F : Fz) (ev : EvG) : TA := fun σ H Q => ∃ G Γ st ds st', Rel F σ H G Γ st ∧ ev Γ st = some (ds, st') ∧
  ∀ vs H' G', Ext F.K F.pn F.pc H G H' G' st' → ArgsOk F.K F.pn G' vs ds → Q vs H'
def SnG (X : Cx) (es : List Expr) (ev : EvG) : Prop := ∀ F : Fz, F.K = X.K → PA X es (tAg F ev)
def evGN : EvG := fun _ st => some ([], st)
def evGD (a : EvE) (r : EvG) : EvG := fun Γ st => match a Γ st with
  | some (d, st1) => match r Γ st1 with
    | some (ds, st2) => some (.d d :: ds, st2)
    | none => none
  | none => none
def evGP (i : Nat) (r : EvG) : EvG := fun Γ st => match Γ[i]? with
  | some (some .pen) => match r Γ st with
    | some (ds, st2) => some (.pen :: ds, st2)
    | none => none
  | _ => none
def evFn (f : Fn) (r : EvG) : EvE := fun Γ st => match r Γ st with
  | some (as, st1) => f as st1
  | none => none
theorem ArgOk.mono {K : PySem.W.Frag} {pn : Option Addr} {G G' : Hp} (s : Same G G') {v : V} {a : Arg} (h : ArgOk K pn G v a) : ArgOk K pn G' v a := by
  cases a with
  | d x => exact Rp.mono s h
  | pen => exact h
section
variable {X : Cx} {e : Expr} {es : List Expr} {ea : EvE} {er : EvG} {pos p : Pos} {x : Str} {i : Nat} {f : Fn}
theorem sg_nil : SnG X [] evGN := fun F hK => paC pa_nil fun σ H Q q => by
  obtain ⟨G, Γ, st, ds, st', R, hev, q⟩ := q
  obtain ⟨rfl, rfl⟩ := Prod.mk.inj (Option.some.inj hev)
  exact q [] H G (Ext.refl R) .nil
theorem sg_cons (ha : SnE X e ea) (hr : SnG X es er) (hs : starEach (e :: es) X.env = (false, eval e X.env) :: starEach es X.env) : SnG X (e :: es) (evGD ea er) := fun F hK => paC (pa_cons (ha F hK) (hr F hK) hs) fun σ H Q q => by
  obtain ⟨G, Γ, st, ds, st', R, hev, q⟩ := q
  unfold evGD at hev
  cases h1 : ea Γ st with
  | none => rw [h1] at hev; cases hev
  | some p1 =>
    obtain ⟨d1, st1⟩ := p1
    rw [h1] at hev
    cases h2 : er Γ st1 with
    | none => simp only [h2] at hev; cases hev
    | some p2 =>
      obtain ⟨d2, st2⟩ := p2
      simp only [h2] at hev
      obtain ⟨rfl, rfl⟩ := Prod.mk.inj (Option.some.inj hev)
      refine ⟨G, Γ, st, d1, st1, R, h1, fun v1 H1 G1 E1 r1 => ?_⟩
      refine ⟨G1, Γ, st1, d2, st2, R.step E1, h2, fun vs H2 G2 E2 r2 => ?_⟩
      exact q _ H2 G2 (Ext.trans' (σ := σ) (Γ := Γ) E1 E2) (.cons (Rp.mono E2.gg r1) r2)
theorem sg_pen (hv : PE X e (tVar i)) (hr : SnG X es er) (hs : starEach (e :: es) X.env = (false, eval e X.env) :: starEach es X.env) : SnG X (e :: es) (evGP i er) := fun F hK => paC (pa_cons hv (hr F hK) hs) fun σ H Q q => by
  obtain ⟨G, Γ, st, ds, st', R, hev, q⟩ := q
  unfold evGP at hev
  split at hev
  · rename_i hp
    cases h2 : er Γ st with
    | none => simp only [h2] at hev; cases hev
    | some p2 =>
      obtain ⟨d2, st2⟩ := p2
      simp only [h2] at hev
      obtain ⟨rfl, rfl⟩ := Prod.mk.inj (Option.some.inj hev)
      obtain ⟨v, hv, hs⟩ := R.slot i _ hp
      refine ⟨v, hv, G, Γ, st, d2, st2, R, h2, fun vs H2 G2 E2 r2 => ?_⟩
      exact q _ H2 G2 E2 (.cons hs r2)
  · cases hev
theorem tCall_of {σ : L2.St} {H : Hp} {Q : VK} {F : Fz} (hK : F.K = X.K) {n : Nat} (hn : ∀ as st r, f as st = some r → as.length = n) (q : tE F (evFn f er) σ H Q) : tCall (spF X.K n f) [] (fun _ _ _ => False) (tAg F er) σ H Q := by
  obtain ⟨G, Γ, st, d, st', R, hev, q⟩ := q
  unfold evFn at hev
  cases h1 : er Γ st with
  | none => rw [h1] at hev; cases hev
  | some p1 =>
    obtain ⟨as, st1⟩ := p1
    simp only [h1] at hev
    refine ⟨G, Γ, st, as, st1, R, h1, fun vs H1 G1 E1 r1 => ?_⟩
    have R1 := R.step E1
    show spF X.K n f (vs ++ []) H1 Q _
    rw [List.append_nil]
    refine ⟨r1.length.trans (hn _ _ _ hev), F.pn, F.pc, G1, as, st1, d, st', R1.le, by rw [← hK]; exact R1.pen, by rw [← hK]; exact r1, hev, fun v H2 G2 E2 r2 => ?_⟩
    rw [← hK] at E2 r2
    exact q v H2 G2 (Ext.trans' (σ := σ) (Γ := Γ) E1 E2) r2
end
/-- a def that may be called -/
structure Cal (X : Cx) (x : Str) (f : Fn) : Prop where
  ex : ∃ (fa : Addr) (fd : FuncData) (ps : List Str) (k n : Nat) (CX : CXT), FnOk X.prog X.w X.K X.mg X.base CX k fa fd ps (spF X.K n f) ∧ Room k X.A ∧ X.mg x = some (.ref fa) ∧ PySem.W.keepIn X.K (.ref fa) = true ∧ Binds X.K fd ps [] ∧
    (∀ outer H s e s', CX outer H s (fun _ _ _ => False) e s' → False) ∧ ∀ as st r, f as st = some r → as.length = n
theorem sn_call {X : Cx} {e : Expr} {es : List Expr} {er : EvG} {pos p : Pos} {x : Str} {f : Fn} (c : Cal X x f) (hg : Gl X x) (hr : SnG X (e :: es) er) (hdb : (x == ("__debug__" : Str)) = false)
    (he : starEach (e :: es) X.env = (false, eval e X.env) :: starEach es X.env) (hpl : (backTo pos (starEach es X.env)).any (·.1) = false) : SnE X (.Call (.Name x p) (e :: es) [] pos) (evFn f er) := fun F hK => by
  obtain ⟨fa, fd, ps, k, n, CX, ok, room, hm, hk, hb, hx, hn⟩ := c.ex
  exact peC (pe_call ok room hg hm hk hb .nil (fun pins σ H s e s' _ h => (hx _ _ _ _ _ h).elim) (hr F hK) hdb he hpl) fun σ H Q q => tCall_of hK hn q
end Mn
namespace Mn
open PySem PySem.Spec PyProof.Rows L2
/-! enumerate(t), t a tuple -/
abbrev eIt (t : Addr) : Obj := { cls := .type "tuple_iterator", data := .fields #[.ref t, .int 0 0] }
abbrev eOb (i : Addr) : Obj := { cls := .type "enumerate", data := .fields #[.none, .bool false, .ref i, rawInt 0, .none, .none] }
set_option maxHeartbeats 1000000 in
theorem enum_newT (t : Addr) (items : Array Value) :
    Meets (Builtin.«enumerate.__new__» ⟨[.type "enumerate", .ref t], []⟩)
      (fun _ R s => s.heap.IsTuple t items ∧ R (.ok (.ret (.ref (s.heap.push (eIt t)).objs.size))) { s with heap := (s.heap.push (eIt t)).push (eOb s.heap.objs.size) }) := by
  refine .of_wp fun prog w A R s h => ?_
  obtain ⟨hp, g, dr, tk, os⟩ := s
  obtain ⟨h1, h⟩ := h
  have hsub := sub_enumerate
  have go : ∀ {A' : Around} {E Q : Value → Shared → Prop}, Q (.ref hp.objs.size) ⟨hp.push (eIt t), g, dr, tk, os⟩ → wpAny (model prog w) A' (pyIter (.ref t)) Q E ⟨hp, g, dr, tk, os⟩ :=
    fun q => (begins_tuple t items).iter prog w _ _ ⟨hp, g, dr, tk, os⟩ _ h1 q
  wp_walk using go
  refine wpAny_stack_any fun st => ?_
  refine wpAny_pure ?_
  split
  next c _ _ _ _ _ =>
    cases (c == Value.type "enumerate") <;>
    · wp_walk using go
      exact ⟨_, rfl, h⟩
  next =>
    wp_walk using go
    exact ⟨_, rfl, h⟩
theorem enum_ofT {prog : Program} {w : World} {A : Around} {E : Value → Shared → Prop} {s : Shared} {t : Addr} {items : Array Value} {Q : Value → Shared → Prop} (h1 : s.heap.IsTuple t items)
    (h : ∀ h', IsEnum h' (s.heap.objs.size + 1) s.heap.objs.size 0 .none → h'.IsTupleIter s.heap.objs.size t 0 → (∀ b o, s.heap.get? b = some o → h'.get? b = some o) → Q (.ref (s.heap.objs.size + 1)) { s with heap := h' }) :
    wpAny (model prog w) A (call (.type "enumerate") [.ref t]) Q E s := by
  refine callType_new F.called_enumerate (by decide) (F.typeCall_enumerate_1 _) (F.newCall_enumerate_1 _) (fun ob => F.args_object_init_2 ob _) F.entry_enumerate_new (enum_newT t items) ⟨h1, ?_⟩
  have hz : (s.heap.push (eIt t)).objs.size = s.heap.objs.size + 1 := Heap.size_push ..
  show _ ∧ _
  rw [hz]
  have he : IsEnum ((s.heap.push (eIt t)).push (eOb s.heap.objs.size)) (s.heap.objs.size + 1) s.heap.objs.size 0 .none := by
    have q := Heap.get?_push_size (s.heap.push (eIt t)) (o := eOb s.heap.objs.size) rfl
    rw [hz] at q
    exact q
  exact ⟨⟨_, he, rfl⟩, h _ he ⟨_, Heap.get?_push_of_some _ (Heap.get?_push_size _ rfl), rfl, rfl⟩ fun b o x => Heap.get?_push_of_some _ (Heap.get?_push_of_some _ x)⟩
def IteT (K : PySem.W.Frag) (a : Addr) : It where
  go := fun i H => ∃ (xs : List V) (x : V), SqT K H a xs ∧ xs[i]? = some x
  yld := fun i H v H' => ∃ T x, v = .ref T ∧ H T = none ∧ H' = upd H T (.tup [.int (i : Nat), x]) ∧ ∀ xs, SqT K H a xs → xs[i]? = some x
  stop := fun i H => ∃ xs : List V, SqT K H a xs ∧ xs.length ≤ i
theorem turn_enumT {P : Program} {w : World} {K : PySem.W.Frag} {elts : List Expr} {kk : Nat} {tpos : Pos} (a e it : Addr) (hai : a ≠ it) (hea : e ≠ a) :
    Turn P w K (.Tuple elts kk tpos) (IteT K a) [e, it] e (fun i h => (∃ old, IsEnum h e it ((i : Nat) : Int) old) ∧ h.IsTupleIter it a i ∧ e ≠ it) where
  mem := List.mem_cons_self
  obj := fun i h st b hb => by
    obtain ⟨⟨old, he⟩, ⟨o, ho, hc, hd⟩, _⟩ := st
    rcases List.mem_cons.mp hb with rfl | hb
    · exact ⟨_, he, fun v q => nomatch q⟩
    · rw [List.mem_singleton.mp hb]
      refine ⟨o, ho, fun v q => ?_⟩
      rw [hd] at q
      cases q
  keep := fun i h h' st k => by
    obtain ⟨⟨old, he⟩, hi, hne⟩ := st
    exact ⟨⟨old, k e List.mem_cons_self _ he⟩, hi.at fun o q => k it (List.mem_cons_of_mem _ List.mem_cons_self) o q, hne⟩
  item := by
    intro X hP hw hK hc i pins s σ H E I hf st hg
    subst hP hw hK
    obtain ⟨⟨old, he⟩, hit, hne⟩ := st
    obtain ⟨xs, x, hq, hx⟩ := hg
    obtain ⟨its, rv, p, hz⟩ := I.tuple hq
    obtain ⟨u, hu, ru⟩ := rv.get hx
    have hel := Heap.lt_size he
    have hil : it < s.heap.objs.size := by
      obtain ⟨_, q, _⟩ := hit
      exact Heap.lt_size q
    have hi : i < its.toArray.size := by
      rw [List.size_toArray]
      exact (List.getElem?_eq_some_iff.mp hu).1
    have hef : e ∉ [it, a] := fun z => by
      rcases List.mem_cons.mp z with z | z
      · exact hne z
      · exact hea (List.mem_singleton.mp z)
    have D := Draws.tuple (prog := X.prog) (w := X.w) (A := X.A.in1) (show X.A.in1.handled = none from I.ok.hd hc) it a hai its.toArray
    refine wpAny_pyNext_enum_itemD D he ⟨hit, p⟩ hi hne hef fun z h' tk hP ho hst hT hsz hk => ?_
    have ez : z = u := by
      rw [List.getElem?_toArray] at hP
      exact Option.some.inj (hP.symm.trans hu)
    subst ez
    refine ⟨_, rfl, wpAny_letOwnedTupleGo_enum (s := { s with heap := h', toks := tk + 1 }) ho fun h'' he' sb => ?_⟩
    have hT2 := (sb.2 _ (Nat.ne_of_gt hel)).trans hT
    have new : ObjOk X.prog X.w (upd H s.heap.objs.size (.tup [.int (i : Nat), x])) h'' s.heap.objs.size (.tup [.int (i : Nat), x]) := by
      refine ⟨by show 2 ≤ sizeLine; decide, [.int i tk, z], .cons ⟨_, rfl⟩ (.cons ru .nil), ?_⟩
      exact ⟨_, hT2, rfl, _, rfl⟩
    have kk2 : ∀ b ob, b ∉ [e, it] → s.heap.get? b = some ob → h''.get? b = some ob := fun b ob hb q => by
      have n1 : b ≠ e := fun z => hb (by rw [z]; exact List.mem_cons_self)
      have n2 : b ≠ it := fun z => hb (by rw [z]; exact List.mem_cons_of_mem _ List.mem_cons_self)
      exact (sb.2 b n1).trans (hk b ob n1 n2 q)
    have I1 := I.turnedNew (t' := tk + 1) (ch := [e, it]) kk2 hf (Nat.le_refl _) new
    refine ⟨.ref s.heap.objs.size, _, I1, rfl, ⟨_, x, rfl, I.hok.fresh (Nat.le_refl _), rfl, fun ys hy => by rw [I.tuple_inj hy hq]; exact hx⟩, ⟨⟨z, ?_⟩, hst.1.at fun o q => (sb.2 it (Ne.symm hne)).trans q, hne⟩, fun b hb => ?_⟩
    · have e1 : ((i + 1 : Nat) : Int) = (i : Int) + 1 := Int.natCast_succ i
      rw [e1]
      exact he'
    · have hb' : b < s.heap.objs.size := by
        rcases List.mem_cons.mp hb with rfl | hb
        · exact hel
        · rw [List.mem_singleton.mp hb]; exact hil
      rw [upd_ne (Nat.ne_of_lt hb')]
      exact (hf b hb).1
  done := by
    intro X hP hw hK hc i pins s σ H E I hf st hg
    subst hP hw hK
    obtain ⟨⟨old, he⟩, hit, hne⟩ := st
    obtain ⟨xs, hq, hx⟩ := hg
    obtain ⟨its, rv, p, hz⟩ := I.tuple hq
    obtain ⟨f0, f1, f2, f3, f4, f5⟩ := hf it (List.mem_cons_of_mem _ List.mem_cons_self)
    have hl := rv.length
    have D := Draws.tuple (prog := X.prog) (w := X.w) (A := X.A.in1) (show X.A.in1.handled = none from I.ok.hd hc) it a hai (its.toArray.extract 0 its.toArray.size)
    have end1 : wpAny (model X.prog X.w) X.A.in1 (Builtin.SmallTypes.nextOf (.ref it)) (fun _ _ => False) (fun x s' => ∃ h', Heap.ExtBut it s.heap h' ∧ s' = { s with heap := h' } ∧ ∃ o, x = .ref o ∧ ∃ ob, h'.get? o = some ob ∧ ob.cls = .type "StopIteration") s :=
      wpAny_nextOf_tuple_end (show X.A.in1.handled = none from I.ok.hd hc) hit p (by simp; omega) fun h' ex q1 q2 => ⟨h', q1, rfl, ex, rfl, q2⟩
    have D2 : Draws X.prog X.w X.A.in1 it [it, a] i (fun _ _ => False) (fun j h => j = i ∧ h.IsTupleIter it a i ∧ h.IsTuple a its.toArray) := by
      refine ⟨fun _ _ st => let ⟨o, ho, _⟩ := st.2.1; ⟨o, ho⟩, fun _ _ _ st hk => ⟨st.1, st.2.1.at fun o e => hk it List.mem_cons_self o e, st.2.2.at fun o e => hk a (List.mem_cons_of_mem _ List.mem_cons_self) o e⟩, fun j s Q E hj st _ => ?_, fun s Q E st hE => ?_⟩
      · exact absurd st.1 (Nat.ne_of_lt hj)
      · exact wpAny_nextOf_tuple_end (show X.A.in1.handled = none from I.ok.hd hc) st.2.1 st.2.2 (by simp; omega) hE
    exact wpAny_pyNext_enum_endD D2 he ⟨rfl, hit, p⟩ fun h' eb => ⟨rfl, I.turned (t' := s.toks) (fun b o hb q => eb b o hb q) f0 f1 f3 f4 f5⟩
  self := fun A i s Q E st h => by
    obtain ⟨⟨_, he⟩, _⟩ := st
    exact wpAny_pyIter_enum he h
/-- enumerate of a list or a tuple -/
def iEnA (K : PySem.W.Frag) (ta : TA) : TI := fun σ H R => ta σ H fun vs H1 => ∃ a xs, vs = [.ref a] ∧ ((SqL K H1 a xs ∧ R (Ite K a) H1) ∨ (SqT K H1 a xs ∧ R (IteT K a) H1))
theorem pi_enumA {X : Cx} {e : Expr} {ta : TA} {p pos tpos : Pos} {elts : List Expr} {kk : Nat} (hg : Gl X "enumerate") (hm : X.mg "enumerate" = none) (ha : PA X [e] ta) (hs : starEach [e] X.env = [(false, eval e X.env)]) :
    PI X (.Tuple elts kk tpos) (.Call (.Name "enumerate" p) [e] [] pos) (iEnA X.K ta) := by
  refine ⟨fun pins s σ H R I h => ?_⟩
  have fin : ∀ {a : Addr} {H1 : Hp} {s1 : Shared}, Inv X pins σ H1 s1 → ∀ b ∈ [s1.heap.objs.size + 1, s1.heap.objs.size], s1.heap.objs.size ≤ b := fun {a H1 s1} I1 b hb => by
    rcases List.mem_cons.mp hb with rfl | hb
    · exact Nat.le_add_right _ _
    · rw [List.mem_singleton.mp hb]; exact Nat.le_refl _
  refine Call_ (ld_blt I hg hm boot_enumerate (callWith_type1 (thn (ha.run pos pins s σ H _ I h) fun us s1 q0 => ?_) hs rfl))
  obtain ⟨vs, H1, I1, r1, a, xs, ex, q⟩ := q0
  subst ex
  cases r1 with
  | cons r rr =>
    cases rr
    cases r
    rcases q with ⟨hq, q⟩ | ⟨hq, q⟩
    · obtain ⟨its, rv, p', hz⟩ := I1.list hq
      refine call_enumerate_list p'.isList fun h' he hit hsz hk => ?_
      refine wpAny_pyIter_enum he ?_
      have I2 := I1.kept (t' := s1.toks) hk
      exact ⟨s1.heap.objs.size + 1, [s1.heap.objs.size + 1, s1.heap.objs.size], _, _, H1, rfl, I2, turn_enum a _ _, ⟨⟨.none, he⟩, hit, Nat.succ_ne_self _⟩, fun b hb => I1.fpOk (fin (a := a) I1 b hb) (I1.hok.fresh (fin (a := a) I1 b hb)), q⟩
    · obtain ⟨its, rv, p', hz⟩ := I1.tuple hq
      have hal : a < s1.heap.objs.size := p'.lt
      refine enum_ofT p' fun h' he hit hk => ?_
      refine wpAny_pyIter_enum he ?_
      have I2 := I1.kept (t' := s1.toks) hk
      exact ⟨s1.heap.objs.size + 1, [s1.heap.objs.size + 1, s1.heap.objs.size], _, _, H1, rfl, I2, turn_enumT a _ _ (Nat.ne_of_lt hal) (Nat.ne_of_gt (Nat.lt_succ_of_lt hal)), ⟨⟨.none, he⟩, hit, Nat.succ_ne_self _⟩, fun b hb => I1.fpOk (fin (a := a) I1 b hb) (I1.hok.fresh (fin (a := a) I1 b hb)), q⟩
theorem walk_enumT {K : PySem.W.Frag} {a : Addr} {xs : List V} : Walk (IteT K a) xs.length (fun H => SqT K H a xs) (YPair (fun i => some (.int (i : Nat))) (fun i => xs[i]?)) := by
  refine ⟨fun i _ hi q => ⟨xs, xs[i], q, List.getElem?_eq_getElem hi⟩, fun _ q => ⟨xs, q, Nat.le_refl _⟩, fun i H v H' _ q y => ?_⟩
  obtain ⟨T, x, h1, h2, h3, h4⟩ := y
  exact ⟨T, .int (i : Nat), x, h1, h2, h3, rfl, h4 xs q⟩
end Mn
namespace Mn
open PySem PySem.Spec PyProof.Rows L2
/-! slots are stored -/
theorem Rel.set {F : Fz} {σ : L2.St} {H G : Hp} {Γ : Ev} {st : Pn} (R : Rel F σ H G Γ st) (i : Nat) {v : V} {d : PyData} (h : Rp F.K G v d) : Rel F (σ.set i (some v)) H G (Γ.set i (some (.d d))) st where
  le := R.le
  g0 := R.g0
  fresh := R.fresh
  keep := R.keep
  pen := R.pen
  slot := fun j s e => by
    rw [List.getElem?_set] at e ⊢
    by_cases hij : i = j
    · rw [if_pos hij] at e ⊢
      subst hij
      by_cases hl : i < Γ.length
      · rw [if_pos hl] at e
        rw [if_pos (by rw [← R.len]; exact hl)]
        cases e
        exact ⟨v, rfl, h⟩
      · rw [if_neg hl] at e
        cases e
    · rw [if_neg hij] at e ⊢
      exact R.slot j s e
  disj := fun j k xs ys w hjk e1 e2 f1 f2 => by
    rw [List.getElem?_set] at e1 e2 f1 f2
    by_cases h1 : i = j
    · rw [if_pos h1] at e1
      split at e1 <;> cases e1
    · rw [if_neg h1] at e1 f1
      by_cases h2 : i = k
      · rw [if_pos h2] at e2
        split at e2 <;> cases e2
      · rw [if_neg h2] at e2 f2
        exact R.disj j k xs ys w hjk e1 e2 f1 f2
  len := by rw [List.length_set, List.length_set]; exact R.len
/-- a new list of one's own -/
theorem Rel.setOwn {F : Fz} {σ : L2.St} {H G : Hp} {Γ : Ev} {st : Pn} (R : Rel F σ H G Γ st) (i : Nat) {a : Addr} {vs : List V} {xs : List PyData} (h0 : F.H0 a = none) (hp : some a ≠ F.pn) (hg : G a = none) (hh : H a = some (.lst vs)) (r : RpA F.K G vs xs)
    (ha : ∀ (j : Nat) (ys : List PyData), Γ[j]? = some (some (Sl.own ys)) → σ[j]? = some (some (V.ref a)) → False) : Rel F (σ.set i (some (.ref a))) H G (Γ.set i (some (.own xs))) st where
  le := R.le
  g0 := R.g0
  fresh := R.fresh
  keep := R.keep
  pen := R.pen
  slot := fun j s e => by
    rw [List.getElem?_set] at e ⊢
    by_cases hij : i = j
    · rw [if_pos hij] at e ⊢
      subst hij
      by_cases hl : i < Γ.length
      · rw [if_pos hl] at e
        rw [if_pos (by rw [← R.len]; exact hl)]
        cases e
        exact ⟨_, rfl, a, vs, rfl, h0, hp, hg, hh, r⟩
      · rw [if_neg hl] at e
        cases e
    · rw [if_neg hij] at e ⊢
      exact R.slot j s e
  disj := fun j k xs' ys w hjk e1 e2 f1 f2 => by
    rw [List.getElem?_set] at e1 e2 f1 f2
    by_cases h1 : i = j
    · subst h1
      rw [if_pos rfl] at e1 f1
      by_cases hl : i < Γ.length
      · rw [if_pos (by rw [← R.len]; exact hl)] at f1
        cases f1
        rw [if_neg hjk] at e2 f2
        exact ha k ys e2 f2
      · rw [if_neg hl] at e1
        cases e1
    · rw [if_neg h1] at e1 f1
      by_cases h2 : i = k
      · subst h2
        rw [if_pos rfl] at e2 f2
        by_cases hl : i < Γ.length
        · rw [if_pos (by rw [← R.len]; exact hl)] at f2
          cases f2
          exact ha j xs' e1 f1
        · rw [if_neg hl] at e2
          cases e2
      · rw [if_neg h2] at e2 f2
        exact R.disj j k xs' ys w hjk e1 e2 f1 f2
  len := by rw [List.length_set, List.length_set]; exact R.len
/-- a slot is forgotten -/
theorem Rel.drop {F : Fz} {σ : L2.St} {H G : Hp} {Γ : Ev} {st : Pn} (R : Rel F σ H G Γ st) (i : Nat) : Rel F (σ.set i none) H G (Γ.set i none) st where
  le := R.le
  g0 := R.g0
  fresh := R.fresh
  keep := R.keep
  pen := R.pen
  slot := fun j s e => by
    rw [List.getElem?_set] at e ⊢
    by_cases hij : i = j
    · rw [if_pos hij] at e
      split at e <;> cases e
    · rw [if_neg hij] at e ⊢
      exact R.slot j s e
  disj := fun j k xs ys w hjk e1 e2 f1 f2 => by
    rw [List.getElem?_set] at e1 e2 f1 f2
    by_cases h1 : i = j
    · rw [if_pos h1] at e1
      split at e1 <;> cases e1
    · rw [if_neg h1] at e1 f1
      by_cases h2 : i = k
      · rw [if_pos h2] at e2
        split at e2 <;> cases e2
      · rw [if_neg h2] at e2 f2
        exact R.disj j k xs ys w hjk e1 e2 f1 f2
  len := by rw [List.length_set, List.length_set]; exact R.len
def wipeE (Γ : Ev) : List Nat → Ev
  | [] => Γ
  | v :: vs => (wipeE Γ vs).set v none
theorem Rel.wipe {F : Fz} {σ : L2.St} {H G : Hp} {Γ : Ev} {st : Pn} (R : Rel F σ H G Γ st) : ∀ vs : List Nat, Rel F (L2.wipe σ vs) H G (wipeE Γ vs) st
  | [] => R
  | v :: vs => (Rel.wipe R vs).drop v
/-! targets -/
inductive Tg where
  | nm (i : Nat)
  | tup (ts : List Tg)
mutual
def asT : Tg → PyData → Ev → Option Ev
  | .nm i, d, Γ => some (Γ.set i (some (.d d)))
  | .tup ts, .tuple ds, Γ => asTs ts ds Γ
  | .tup _, _, _ => none
def asTs : List Tg → List PyData → Ev → Option Ev
  | [], [], Γ => some Γ
  | t :: ts, d :: ds, Γ => match asT t d Γ with
    | some Γ1 => asTs ts ds Γ1
    | none => none
  | _, _, _ => none
end
mutual
def tgS : Tg → List Nat
  | .nm i => [i]
  | .tup ts => tgSs ts
def tgSs : List Tg → List Nat
  | [] => []
  | t :: ts => tgS t ++ tgSs ts
end
def Off (L : List Nat) (σ σ' : L2.St) : Prop := σ'.length = σ.length ∧ ∀ j, j ∉ L → σ'[j]? = σ[j]?
def tGt (F : Fz) (tg : Tg) : TG := fun v σ H Q => ∃ G Γ st d Γ', Rel F σ H G Γ st ∧ Rp F.K G v d ∧ asT tg d Γ = some Γ' ∧ ∀ σ', Rel F σ' H G Γ' st → Off (tgS tg) σ σ' → Q σ' H
def tGts (F : Fz) (ts : List Tg) : TGs := fun vs σ H Q => ∃ G Γ st ds Γ', Rel F σ H G Γ st ∧ RpA F.K G vs ds ∧ asTs ts ds Γ = some Γ' ∧ ∀ σ', Rel F σ' H G Γ' st → Off (tgSs ts) σ σ' → Q σ' H
def SnT (X : Cx) (e : Expr) (tg : Tg) : Prop := ∀ F : Fz, F.K = X.K → PG X e (tGt F tg)
structure SnTs (X : Cx) (es : List Expr) (ts : List Tg) : Prop where
  run : ∀ F : Fz, F.K = X.K → PGs X es (tGts F ts)
  each : assignEach es X.env = es.map fun e => (false, assign e X.env)
  len : es.length = ts.length
theorem pgC {X : Cx} {e : Expr} {t t' : TG} (h : PG X e t) (f : ∀ v σ H Q, t' v σ H Q → t v σ H Q) : PG X e t' := ⟨fun pins s σ H v u Q I r q => h.run pins s σ H v u Q I r (f v σ H Q q)⟩
theorem pgsC {X : Cx} {e : List Expr} {t t' : TGs} (h : PGs X e t) (f : ∀ v σ H Q, t' v σ H Q → t v σ H Q) : PGs X e t' := ⟨fun pins s σ H v u Q I r q => h.run pins s σ H v u Q I r (f v σ H Q q)⟩
section
variable {X : Cx} {e : Expr} {es : List Expr} {t : Tg} {ts : List Tg} {pos : Pos} {x : Str} {i k : Nat}
theorem st_name (hN : X.N.Nodup) (hi : X.N[i]? = some x) (hx : Loc X.env.scope x) (hf : X.fn x = true ∨ X.env.scope.names.lookup x = some .local) : SnT X (.Name x pos) (.nm i) := fun F hK =>
  pgC (pg_name hN hi hx hf) fun v σ H Q q => by
    obtain ⟨G, Γ, st, d, Γ', R, r, hev, q⟩ := q
    simp only [asT] at hev
    cases hev
    refine q _ (R.set i r) ⟨List.length_set, fun j hj => ?_⟩
    have : i ≠ j := fun z => hj (by rw [z]; exact List.mem_singleton_self _)
    rw [List.getElem?_set_ne this]
theorem sts_nil : SnTs X [] [] := ⟨fun F hK => pgsC pgs_nil fun v σ H Q q => by
  obtain ⟨G, Γ, st, d, Γ', R, r, hev, q⟩ := q
  cases r with
  | nil =>
    simp only [asTs] at hev
    cases hev
    exact ⟨rfl, q σ R ⟨rfl, fun _ _ => rfl⟩⟩
  | cons _ _ => simp [asTs] at hev, rfl, rfl⟩
theorem sts_cons (h1 : SnT X e t) (h2 : SnTs X es ts) (hs : assignEach (e :: es) X.env = (false, assign e X.env) :: assignEach es X.env) : SnTs X (e :: es) (t :: ts) := by
  refine ⟨fun F hK => pgsC (pgs_cons (h1 F hK) (h2.run F hK) (by rw [hs]; rfl)) fun v σ H Q q => ?_, by rw [hs, h2.each]; rfl, by rw [List.length_cons, List.length_cons, h2.len]⟩
  obtain ⟨G, Γ, st, ds, Γ', R, r, hev, q⟩ := q
  cases r with
  | nil => simp [asTs] at hev
  | cons ra rb =>
    rename_i v vs d ds
    simp only [asTs] at hev
    cases h3 : asT t d Γ with
    | none => rw [h3] at hev; cases hev
    | some Γ1 =>
      rw [h3] at hev
      refine ⟨_, _, rfl, G, Γ, st, d, Γ1, R, ra, h3, fun σ1 R1 o1 => ?_⟩
      refine ⟨G, Γ1, st, ds, Γ', R1, rb, hev, fun σ2 R2 o2 => q σ2 R2 ⟨o2.1.trans o1.1, fun j hj => ?_⟩⟩
      simp only [tgSs, List.mem_append, not_or] at hj
      rw [o2.2 j hj.2, o1.2 j hj.1]
theorem st_tup (hc : X.calm = true) (h : SnTs X es ts) : SnT X (.Tuple es k pos) (.tup ts) := fun F hK => by
  have hl : (assignEach es X.env).length = es.length := by rw [h.each, List.length_map]
  have hf : (assignEach es X.env).findIdx? (·.1) = none := by
    rw [h.each, List.findIdx?_eq_none_iff]
    intro y hy
    obtain ⟨z, _, rfl⟩ := List.mem_map.mp hy
    rfl
  have hlen : ∀ (es : List Expr) (ts : List Tg) (ds : List PyData) (Γ Γ' : Ev), es.length = ts.length → asTs ts ds Γ = some Γ' → ds.length = es.length := by
    intro es ts
    induction ts generalizing es with
    | nil =>
      intro ds Γ Γ' e h
      cases ds with
      | nil => exact e.symm
      | cons _ _ => simp [asTs] at h
    | cons t ts ih =>
      intro ds Γ Γ' e h
      cases ds with
      | nil => simp [asTs] at h
      | cons d ds =>
        cases es with
        | nil => simp at e
        | cons e0 es =>
          simp only [asTs] at h
          cases h3 : asT t d Γ with
          | none => rw [h3] at h; cases h
          | some Γ1 =>
            rw [h3] at h
            have := ih es ds Γ1 Γ' (by simpa using e) h
            simp [this]
  refine pgC (pg_tup (n := es.length) hc (h.run F hK) hl hf) fun v σ H Q q => ?_
  obtain ⟨G, Γ, st, d, Γ', R, r, hev, q⟩ := q
  cases r with
  | tup ht ha =>
    rename_i vs ds
    simp only [asT] at hev
    refine ⟨_, _, rfl, by rw [← hK]; exact SqT.of (R.le _ _ ht), ?_, G, Γ, st, _, Γ', R, ha, hev, fun σ' R' o => q σ' R' o⟩
    rw [RpA.length ha]
    exact hlen es ts ds Γ Γ' h.len hev
  | _ => simp [asT] at hev
end
/-! what is walked -/
structure Wk (K : PySem.W.Frag) (G : Hp) (J : It) (ds : List PyData) : Prop where
  w : Walk J ds.length (fun H => Same G H) (fun i H v H' => ∃ d, ds[i]? = some d ∧ ∀ G1, Same G G1 → Same G1 H → ∃ G2, Nw H G1 H' G2 ∧ Rp K G2 v d)
abbrev EvI := Ev → Pn → Option (List PyData × Pn)
def tIt (F : Fz) (ev : EvI) : TI := fun σ H R => ∃ G Γ st ds st', Rel F σ H G Γ st ∧ ev Γ st = some (ds, st') ∧ ∀ J H' G', Ext F.K F.pn F.pc H G H' G' st' → Wk F.K G' J ds → R J H'
def SnI (X : Cx) (tg it : Expr) (ev : EvI) : Prop := ∀ F : Fz, F.K = X.K → PI X tg it (tIt F ev)
theorem piC {X : Cx} {tg e : Expr} {t t' : TI} (h : PI X tg e t) (f : ∀ σ H Q, t' σ H Q → t σ H Q) : PI X tg e t' := ⟨fun pins s σ H R I q => h.run pins s σ H R I (f σ H R q)⟩
theorem piOr {X : Cx} {tg e : Expr} {t t' : TI} (h : PI X tg e t) (h' : PI X tg e t') : PI X tg e (fun σ H R => t σ H R ∨ t' σ H R) := ⟨fun pins s σ H R I q => q.elim (h.run pins s σ H R I) (h'.run pins s σ H R I)⟩
theorem wk_list {K : PySem.W.Frag} {G : Hp} {a : Addr} {vs : List V} {ds : List PyData} (h : G a = some (.lst vs)) (r : RpA K G vs ds) : Wk K G (Itl K a) ds := by
  refine ⟨?_⟩
  rw [← RpA.length r]
  refine walk_list.mono (fun H s => SqL.of (s _ _ h)) fun i H v H' hi s y => ?_
  obtain ⟨d, e, rd⟩ := RpA.getV r y.2
  exact ⟨d, e, fun G1 s1 s2 => ⟨G1, by rw [y.1]; exact Nw.refl s2, Rp.mono s1 rd⟩⟩
theorem wk_tup {K : PySem.W.Frag} {G : Hp} {a : Addr} {vs : List V} {ds : List PyData} (h : G a = some (.tup vs)) (r : RpA K G vs ds) : Wk K G (Itt K a) ds := by
  refine ⟨?_⟩
  rw [← RpA.length r]
  refine walk_tup.mono (fun H s => SqT.of (s _ _ h)) fun i H v H' hi s y => ?_
  obtain ⟨d, e, rd⟩ := RpA.getV r y.2
  exact ⟨d, e, fun G1 s1 s2 => ⟨G1, by rw [y.1]; exact Nw.refl s2, Rp.mono s1 rd⟩⟩
def rngD (lo : Int) (n : Nat) : List PyData := (List.range n).map fun i => .int (lo + (i : Nat))
theorem wk_rng {K : PySem.W.Frag} {G : Hp} {lo : Int} {n : Nat} : Wk K G (Itr lo n) (rngD lo n) := by
  refine ⟨?_⟩
  have hl : (rngD lo n).length = n := by unfold rngD; rw [List.length_map, List.length_range]
  rw [hl]
  refine walk_range.mono (fun H s => trivial) fun i H v H' hi s y => ?_
  refine ⟨.int (lo + (i : Nat)), ?_, fun G1 s1 s2 => ⟨G1, by rw [y.1]; exact Nw.refl s2, by rw [y.2]; exact .int _⟩⟩
  unfold rngD
  rw [List.getElem?_map, List.getElem?_range hi]
  rfl
def zipD : Nat → List PyData → List PyData
  | _, [] => []
  | k, d :: ds => .tuple [.int (k : Nat), d] :: zipD (k + 1) ds
theorem zipD_length : ∀ (k : Nat) (ds : List PyData), (zipD k ds).length = ds.length
  | _, [] => rfl
  | k, d :: ds => by simp [zipD, zipD_length]
theorem zipD_get : ∀ (k : Nat) (ds : List PyData) (i : Nat) (d : PyData), ds[i]? = some d → (zipD k ds)[i]? = some (.tuple [.int ((k + i : Nat)), d])
  | _, [], _, _, h => by simp at h
  | k, d :: ds, 0, _, h => by simp at h; subst h; simp [zipD]
  | k, d :: ds, i + 1, e, h => by
    have := zipD_get (k + 1) ds i e (by simpa using h)
    simp only [zipD, List.getElem?_cons_succ, this]
    congr 3
    rw [show k + 1 + i = k + (i + 1) by omega]
theorem pair_new {K : PySem.W.Frag} {H H' G1 : Hp} {T : Addr} {x y : V} {c d : PyData} (hT : H T = none) (e : H' = upd H T (.tup [x, y])) (s : Same G1 H) (rx : Rp K G1 x c) (ry : Rp K G1 y d) : ∃ G2, Nw H G1 H' G2 ∧ Rp K G2 (.ref T) (.tuple [c, d]) := by
  subst e
  have N := Nw.new s (o := .tup [x, y]) hT
  exact ⟨_, N, .tup upd_same (.cons (Rp.mono N.gg rx) (.cons (Rp.mono N.gg ry) .nil))⟩
theorem wk_enL {K : PySem.W.Frag} {G : Hp} {a : Addr} {vs : List V} {ds : List PyData} (h : G a = some (.lst vs)) (r : RpA K G vs ds) : Wk K G (Ite K a) (zipD 0 ds) := by
  refine ⟨?_⟩
  rw [zipD_length, ← RpA.length r]
  refine walk_enum.mono (fun H s => SqL.of (s _ _ h)) fun i H v H' hi s y => ?_
  obtain ⟨T, x, z, rfl, hT, e, hx, hz⟩ := y
  obtain ⟨d, ed, rd⟩ := RpA.getV r hz
  cases hx
  refine ⟨_, zipD_get 0 ds i d ed, fun G1 s1 s2 => pair_new hT e s2 ?_ (Rp.mono s1 rd)⟩
  rw [Nat.zero_add]
  exact .int _
theorem wk_enT {K : PySem.W.Frag} {G : Hp} {a : Addr} {vs : List V} {ds : List PyData} (h : G a = some (.tup vs)) (r : RpA K G vs ds) : Wk K G (IteT K a) (zipD 0 ds) := by
  refine ⟨?_⟩
  rw [zipD_length, ← RpA.length r]
  refine walk_enumT.mono (fun H s => SqT.of (s _ _ h)) fun i H v H' hi s y => ?_
  obtain ⟨T, x, z, rfl, hT, e, hx, hz⟩ := y
  obtain ⟨d, ed, rd⟩ := RpA.getV r hz
  cases hx
  refine ⟨_, zipD_get 0 ds i d ed, fun G1 s1 s2 => pair_new hT e s2 ?_ (Rp.mono s1 rd)⟩
  rw [Nat.zero_add]
  exact .int _
def evIt (a : EvE) : EvI := fun Γ st => match a Γ st with
  | some (d, st1) => match itemsD d with
    | some xs => some (xs, st1)
    | none => none
  | none => none
def evRng1 (a : EvE) : EvI := fun Γ st => match a Γ st with
  | some (.int j, st1) => if -(2 ^ 62) ≤ j ∧ j < 2 ^ 62 then some (rngD 0 j.toNat, st1) else none
  | _ => none
def evRng2 (a b : EvE) : EvI := fun Γ st => match a Γ st with
  | some (.int i, st1) => match b Γ st1 with
    | some (.int j, st2) => if -(2 ^ 62) ≤ i ∧ i < 2 ^ 62 ∧ -(2 ^ 62) ≤ j ∧ j < 2 ^ 62 then some (rngD i (j - i).toNat, st2) else none
    | _ => none
  | _ => none
def evEnum (a : EvE) : EvI := fun Γ st => match a Γ st with
  | some (d, st1) => match itemsD d with
    | some xs => some (zipD 0 xs, st1)
    | none => none
  | none => none
section
variable {X : Cx} {tg e e2 : Expr} {ea eb : EvE} {pos p : Pos}
theorem si_seq (h : SnE X e ea) : SnI X tg e (evIt ea) := fun F hK => piC (piOr (pi_list (h F hK)) (pi_tup (h F hK))) fun σ H Q q => by
  obtain ⟨G, Γ, st, ds, st', R, hev, q⟩ := q
  unfold evIt at hev
  cases h1 : ea Γ st with
  | none => rw [h1] at hev; cases hev
  | some p1 =>
    obtain ⟨d, st1⟩ := p1
    simp only [h1] at hev
    cases d with
    | list xs =>
      obtain ⟨rfl, rfl⟩ := Prod.mk.inj (Option.some.inj hev)
      refine .inl ⟨G, Γ, st, _, _, R, h1, fun v H1 G1 E1 r1 => ?_⟩
      cases r1 with
      | lst h a => exact ⟨_, rfl, ⟨_, SqL.of (E1.gh _ _ h)⟩, by rw [← hK]; exact q _ H1 G1 E1 (wk_list h a)⟩
    | tuple xs =>
      obtain ⟨rfl, rfl⟩ := Prod.mk.inj (Option.some.inj hev)
      refine .inr ⟨G, Γ, st, _, _, R, h1, fun v H1 G1 E1 r1 => ?_⟩
      cases r1 with
      | tup h a => exact ⟨_, rfl, ⟨_, SqT.of (E1.gh _ _ h)⟩, by rw [← hK]; exact q _ H1 G1 E1 (wk_tup h a)⟩
    | _ => cases hev
theorem si_rng1 (hg : Gl X "range") (hm : X.mg "range" = none) (ha : SnE X e ea) (hs : starEach [e] X.env = [(false, eval e X.env)]) : SnI X tg (.Call (.Name "range" p) [e] [] pos) (evRng1 ea) := fun F hK =>
  piC (pi_range1 hg hm (pa_cons (ha F hK) pa_nil hs) hs) fun σ H Q q => by
    obtain ⟨G, Γ, st, ds, st', R, hev, q⟩ := q
    unfold evRng1 at hev
    split at hev
    · rename_i j st1 h1
      split at hev
      · rename_i hb
        obtain ⟨rfl, rfl⟩ := Prod.mk.inj (Option.some.inj hev)
        refine ⟨G, Γ, st, _, _, R, h1, fun v H1 G1 E1 r1 => ?_⟩
        cases r1
        exact ⟨j, rfl, hb.1, hb.2, q _ H1 G1 E1 wk_rng⟩
      · cases hev
    · cases hev
theorem si_rng2 (hg : Gl X "range") (hm : X.mg "range" = none) (ha : SnE X e ea) (hb : SnE X e2 eb) (hs : starEach [e, e2] X.env = [(false, eval e X.env), (false, eval e2 X.env)]) (hs2 : starEach [e2] X.env = [(false, eval e2 X.env)]) : SnI X tg (.Call (.Name "range" p) [e, e2] [] pos) (evRng2 ea eb) := fun F hK =>
  piC (pi_range2 hg hm (pa_cons (ha F hK) (pa_cons (hb F hK) pa_nil hs2) (by rw [hs, hs2])) hs hs2) fun σ H Q q => by
    obtain ⟨G, Γ, st, ds, st', R, hev, q⟩ := q
    unfold evRng2 at hev
    split at hev
    · rename_i i st1 h1
      split at hev
      · rename_i j st2 h2
        split at hev
        · rename_i hb
          obtain ⟨rfl, rfl⟩ := Prod.mk.inj (Option.some.inj hev)
          refine ⟨G, Γ, st, _, _, R, h1, fun v H1 G1 E1 r1 => ?_⟩
          cases r1
          refine ⟨G1, Γ, st1, _, _, R.step E1, h2, fun v H2 G2 E2 r2 => ?_⟩
          cases r2
          exact ⟨i, j, rfl, hb, q _ H2 G2 (Ext.trans' (σ := σ) (Γ := Γ) E1 E2) wk_rng⟩
        · cases hev
      · cases hev
    · cases hev
theorem si_enum {elts : List Expr} {kk : Nat} {tpos : Pos} (hg : Gl X "enumerate") (hm : X.mg "enumerate" = none) (ha : SnE X e ea) (hs : starEach [e] X.env = [(false, eval e X.env)]) : SnI X (.Tuple elts kk tpos) (.Call (.Name "enumerate" p) [e] [] pos) (evEnum ea) := fun F hK =>
  piC (pi_enumA hg hm (pa_cons (ha F hK) pa_nil hs) hs) fun σ H Q q => by
    obtain ⟨G, Γ, st, ds, st', R, hev, q⟩ := q
    unfold evEnum at hev
    cases h1 : ea Γ st with
    | none => rw [h1] at hev; cases hev
    | some p1 =>
      obtain ⟨d, st1⟩ := p1
      simp only [h1] at hev
      refine ⟨G, Γ, st, d, st1, R, h1, fun v H1 G1 E1 r1 => ?_⟩
      cases d with
      | list xs =>
        obtain ⟨rfl, rfl⟩ := Prod.mk.inj (Option.some.inj hev)
        cases r1 with
        | lst h a => exact ⟨_, _, rfl, .inl ⟨SqL.of (E1.gh _ _ h), by rw [← hK]; exact q _ H1 G1 E1 (wk_enL h a)⟩⟩
      | tuple xs =>
        obtain ⟨rfl, rfl⟩ := Prod.mk.inj (Option.some.inj hev)
        cases r1 with
        | tup h a => exact ⟨_, _, rfl, .inr ⟨SqT.of (E1.gh _ _ h), by rw [← hK]; exact q _ H1 G1 E1 (wk_enT h a)⟩⟩
      | _ => cases hev
end
end Mn
namespace Mn
open PySem PySem.Spec PyProof.Rows L2
/-! lists of one's own, read -/
def frz1 : Option Sl → Option Sl
  | some (.own xs) => some (.d (.list xs))
  | s => s
def frzBy (sel : Nat → Bool) (k : Nat) : Ev → Ev
  | [] => []
  | s :: r => (if sel k then frz1 s else s) :: frzBy sel (k + 1) r
theorem frzBy_length (sel : Nat → Bool) : ∀ (k : Nat) (Γ : Ev), (frzBy sel k Γ).length = Γ.length
  | _, [] => rfl
  | k, s :: r => by simp [frzBy, frzBy_length]
theorem frzBy_get (sel : Nat → Bool) : ∀ (k i : Nat) (Γ : Ev), (frzBy sel k Γ)[i]? = (Γ[i]?).map fun s => if sel (k + i) then frz1 s else s
  | _, _, [] => by simp [frzBy]
  | k, 0, s :: r => by simp [frzBy]
  | k, i + 1, s :: r => by
    simp only [frzBy, List.getElem?_cons_succ, frzBy_get sel (k + 1) i r]
    rw [show k + 1 + i = k + (i + 1) by omega]
open Classical in
/-- the frozen heap with the chosen lists -/
noncomputable def frzG (sel : Nat → Bool) (σ : L2.St) (H G : Hp) (Γ : Ev) : Hp := fun b =>
  if (∃ (i : Nat) (xs : List PyData), sel i = true ∧ Γ[i]? = some (some (Sl.own xs)) ∧ σ[i]? = some (some (V.ref b))) then H b else G b
theorem Rel.frz {F : Fz} {σ : L2.St} {H G : Hp} {Γ : Ev} {st : Pn} (R : Rel F σ H G Γ st) (sel : Nat → Bool) : Same G (frzG sel σ H G Γ) ∧ Rel F σ H (frzG sel σ H G Γ) (frzBy sel 0 Γ) st := by
  have own : ∀ {i : Nat} {xs : List PyData} {b : Addr}, Γ[i]? = some (some (Sl.own xs)) → σ[i]? = some (some (V.ref b)) → F.H0 b = none ∧ some b ≠ F.pn ∧ G b = none ∧ ∃ vs, H b = some (.lst vs) ∧ RpA F.K G vs xs := fun {i xs b} h1 h2 => by
    obtain ⟨v, hv, a, vs, e, q0, q1, q2, q3, q4⟩ := R.slot i _ h1
    rw [h2] at hv
    cases hv
    cases e
    exact ⟨q0, q1, q2, vs, q3, q4⟩
  have inn : ∀ {b : Addr}, (∃ (i : Nat) (xs : List PyData), sel i = true ∧ Γ[i]? = some (some (Sl.own xs)) ∧ σ[i]? = some (some (V.ref b))) → frzG sel σ H G Γ b = H b := fun h => if_pos h
  have out : ∀ {b : Addr}, ¬ (∃ (i : Nat) (xs : List PyData), sel i = true ∧ Γ[i]? = some (some (Sl.own xs)) ∧ σ[i]? = some (some (V.ref b))) → frzG sel σ H G Γ b = G b := fun h => if_neg h
  have notin : ∀ {b : Addr}, (F.H0 b ≠ none ∨ some b = F.pn ∨ G b ≠ none) → frzG sel σ H G Γ b = G b := fun {b} h => out fun ⟨i, xs, _, h1, h2⟩ => by
    obtain ⟨q0, q1, q2, _⟩ := own h1 h2
    rcases h with h | h | h
    · exact h q0
    · exact q1 h
    · exact h q2
  have sm : Same G (frzG sel σ H G Γ) := fun b o h => by rw [notin (.inr (.inr (by rw [h]; simp)))]; exact h
  refine ⟨sm, ?_⟩
  refine ⟨fun b o h => ?_, fun b o h => sm b o (R.g0 b o h), fun b o h => by rw [notin (.inl (by rw [h]; simp))]; exact R.fresh b o h, R.keep, ?_, fun i s h => ?_, fun i j xs ys v hij h1 h2 f1 f2 => ?_, by rw [frzBy_length]; exact R.len⟩
  · by_cases hb : ∃ (i : Nat) (xs : List PyData), sel i = true ∧ Γ[i]? = some (some (Sl.own xs)) ∧ σ[i]? = some (some (V.ref b))
    · rw [inn hb] at h; exact h
    · rw [out hb] at h; exact R.le b o h
  · have P := R.pen
    revert P
    unfold PenOk
    cases hpn : F.pn with
    | none => exact fun P => P
    | some q =>
      rintro ⟨h1, h2, h3⟩
      exact ⟨by rw [notin (.inr (.inl hpn.symm))]; exact h1, h2, sm _ _ h3⟩
  · rw [frzBy_get] at h
    cases hg : Γ[i]? with
    | none => rw [hg] at h; cases h
    | some s0 =>
      rw [hg] at h
      simp only [Option.map_some, Nat.zero_add, Option.some.injEq] at h
      cases s0 with
      | none =>
        simp only [frz1] at h
        split at h <;> cases h
      | some s1 =>
        obtain ⟨v, hv, q⟩ := R.slot i _ hg
        refine ⟨v, hv, ?_⟩
        cases s1 with
        | d x =>
          have e : s = .d x := by
            simp only [frz1] at h
            split at h <;> exact (Option.some.inj h).symm
          subst e
          exact Rp.mono sm q
        | pen =>
          have e : s = .pen := by
            simp only [frz1] at h
            split at h <;> exact (Option.some.inj h).symm
          subst e
          exact q
        | scr ns =>
          have e : s = .scr ns := by
            simp only [frz1] at h
            split at h <;> exact (Option.some.inj h).symm
          subst e
          exact q
        | own xs =>
          obtain ⟨a, vs, e, q0, q1, q2, q3, q4⟩ := q
          subst e
          by_cases hs : sel i = true
          · rw [if_pos hs] at h
            cases h
            exact .lst (by rw [inn ⟨i, xs, hs, hg, hv⟩]; exact q3) (RpA.mono sm q4)
          · rw [if_neg hs] at h
            cases h
            have nin : ¬ ∃ (j : Nat) (ys : List PyData), sel j = true ∧ Γ[j]? = some (some (Sl.own ys)) ∧ σ[j]? = some (some (V.ref a)) := by
              rintro ⟨j, ys, hj, h1, h2⟩
              by_cases hij : i = j
              · rw [hij] at hs
                exact hs hj
              · exact R.disj i j xs ys _ hij hg h1 hv h2
            exact ⟨a, vs, rfl, q0, q1, (out nin).trans q2, q3, RpA.mono sm q4⟩
  · have back : ∀ {i : Nat} {xs : List PyData}, (frzBy sel 0 Γ)[i]? = some (some (Sl.own xs)) → Γ[i]? = some (some (Sl.own xs)) := fun {i xs} h => by
      rw [frzBy_get] at h
      cases hg : Γ[i]? with
      | none => rw [hg] at h; cases h
      | some s0 =>
        rw [hg] at h
        simp only [Option.map_some, Option.some.injEq] at h
        split at h
        · cases s0 with
          | none => cases h
          | some s1 => cases s1 <;> cases h
        · rw [h]
    exact R.disj i j xs ys v hij (back h1) (back h2) f1 f2
/-- what was read is one's own again -/
theorem Rel.thaw {F : Fz} {σ : L2.St} {H G G1 H' G' : Hp} {Γ : Ev} {st st' : Pn} (R : Rel F σ H G Γ st) (s : Same G G1) (hall : ∀ (i : Nat) (xs : List PyData) (b : Addr), Γ[i]? = some (some (Sl.own xs)) → σ[i]? = some (some (V.ref b)) → G1 b = H b) (E : Ext F.K F.pn F.pc H G1 H' G' st') : Rel F σ H' G Γ st' where
  le := fun b o h => E.gh b o (E.gg b o (s b o h))
  g0 := R.g0
  fresh := R.fresh
  keep := fun b o h n => E.kp b o (R.keep b o h n) n
  pen := by
    have P := R.pen
    have P' := E.pen
    revert P P'
    unfold PenOk
    cases hpn : F.pn with
    | none => exact fun P _ => P
    | some q =>
      rintro ⟨h1, h2, h3⟩ ⟨h4, h5, h6⟩
      have e := (E.gg _ _ (s _ _ h3)).symm.trans h6
      refine ⟨h1, h5, ?_⟩
      rw [h3]
      exact e
  slot := fun i sl h => by
    obtain ⟨v, hv, q⟩ := R.slot i sl h
    refine ⟨v, hv, ?_⟩
    cases sl with
    | d x => exact q
    | own xs =>
      obtain ⟨a, vs, e, q0, q1, q2, q3, q4⟩ := q
      refine ⟨a, vs, e, q0, q1, q2, ?_, q4⟩
      subst e
      exact E.gh _ _ (E.gg _ _ ((hall i xs a h hv).trans q3))
    | pen => exact q
    | scr ns => exact q
  disj := R.disj
  len := R.len
abbrev allS : Nat → Bool := fun _ => true
theorem frzG_all {σ : L2.St} {H G : Hp} {Γ : Ev} (i : Nat) (xs : List PyData) (b : Addr) (h1 : Γ[i]? = some (some (Sl.own xs))) (h2 : σ[i]? = some (some (V.ref b))) : frzG allS σ H G Γ b = H b := if_pos ⟨i, xs, rfl, h1, h2⟩
/-! expressions as statements take them -/
def scalD : PyData → Bool
  | .none => true
  | .bool _ => true
  | .int _ => true
  | .str _ => true
  | _ => false
theorem scal_any {K : PySem.W.Frag} {G G' : Hp} {v : V} {d : PyData} (h : Rp K G v d) (s : scalD d = true) : Rp K G' v d := by
  cases h with
  | non => exact .non
  | bl b => exact .bl b
  | int i => exact .int i
  | str x => exact .str x
  | _ => cases s
abbrev EvT := Ev → Pn → Option (PyData × Ev × Pn)
/-- a scalar; nothing that is one's own is given away -/
def evSc (a : EvE) : EvT := fun Γ st => match a (frzBy allS 0 Γ) st with
  | some (d, st1) => if scalD d then some (d, Γ, st1) else none
  | none => none
/-- lists of one's own that are read are given away -/
def evFz (L : List Nat) (a : EvE) : EvT := fun Γ st => match a (frzBy L.contains 0 Γ) st with
  | some (d, st1) => some (d, frzBy L.contains 0 Γ, st1)
  | none => none
def tTop (K : PySem.W.Frag) (ev : EvT) : TE := fun σ H Q => ∃ F : Fz, F.K = K ∧ ∃ G Γ st d Γ' st', Rel F σ H G Γ st ∧ ev Γ st = some (d, Γ', st') ∧
  ∀ v H' G', Rel F σ H' G' Γ' st' → Same G G' → Rp F.K G' v d → Q v H'
def SnP (X : Cx) (e : Expr) (ev : EvT) : Prop := PE X e (tTop X.K ev)
def tTst (K : PySem.W.Frag) (ev : EvE) : TT := fun σ H Q => ∃ F : Fz, F.K = K ∧ ∃ G Γ st b st', Rel F σ H G Γ st ∧ ev (frzBy allS 0 Γ) st = some (.bool b, st') ∧
  ∀ H' G', Rel F σ H' G' Γ st' → Same G G' → Q b H'
section
variable {X : Cx} {e : Expr} {ea : EvE}
theorem sp_sc (h : SnE X e ea) : SnP X e (evSc ea) := ⟨fun pins s σ H Q I q => by
  obtain ⟨F, hK, G, Γ, st, d, Γ', st', R, hev, q⟩ := q
  unfold evSc at hev
  split at hev
  · rename_i d1 st1 h1
    split at hev
    · rename_i hs
      have e := Option.some.inj hev
      have e1 : d1 = d := congrArg Prod.fst e
      have e2 : Γ = Γ' := congrArg (fun z => z.2.1) e
      have e3 : st1 = st' := congrArg (fun z => z.2.2) e
      subst e1 e2 e3
      obtain ⟨sm, R1⟩ := R.frz allS
      refine (h F hK).run pins s σ H Q I ⟨_, _, st, _, _, R1, h1, fun v H' G' E r => ?_⟩
      exact q v H' G (R.thaw sm (fun i xs b a1 a2 => frzG_all i xs b a1 a2) E) (fun _ _ z => z) (scal_any r hs)
    · cases hev
  · cases hev⟩
theorem sp_fz (L : List Nat) (h : SnE X e ea) : SnP X e (evFz L ea) := ⟨fun pins s σ H Q I q => by
  obtain ⟨F, hK, G, Γ, st, d, Γ', st', R, hev, q⟩ := q
  unfold evFz at hev
  split at hev
  · rename_i d1 st1 h1
    have e := Option.some.inj hev
    have e1 : d1 = d := congrArg Prod.fst e
    have e2 : frzBy L.contains 0 Γ = Γ' := congrArg (fun z => z.2.1) e
    have e3 : st1 = st' := congrArg (fun z => z.2.2) e
    subst e1 e2 e3
    obtain ⟨sm, R1⟩ := R.frz L.contains
    refine (h F hK).run pins s σ H Q I ⟨_, _, st, _, _, R1, h1, fun v H' G' E r => ?_⟩
    exact q v H' G' (R1.step E) (fun b o z => E.gg b o (sm b o z)) r
  · cases hev⟩
theorem pt_tst (h : Sn X e ea) : PT X e (tTst X.K ea) := ⟨fun pins s σ H Q I q => by
  obtain ⟨F, hK, G, Γ, st, b, st', R, hev, q⟩ := q
  obtain ⟨sm, R1⟩ := R.frz allS
  refine (h F hK).pt.run pins s σ H Q I ⟨_, _, st, _, _, R1, hev, fun H' G' E => ?_⟩
  exact q H' G (R.thaw sm (fun i xs b a1 a2 => frzG_all i xs b a1 a2) E) fun _ _ z => z⟩
end
/-! statements -/
inductive Fl where
  | nx (Γ : Ev) (st : Pn)
  | rt (d : PyData) (st : Pn)
  | bk (Γ : Ev) (st : Pn)
  | ct (Γ : Ev) (st : Pn)
abbrev EvS := Ev → Pn → Option Fl
structure Fin (F : Fz) (H G : Hp) (st : Pn) : Prop where
  le : Same G H
  g0 : Same F.G0 G
  fresh : ∀ b o, F.H0 b = some o → G b = F.G0 b
  keep : ∀ b o, F.H0 b = some o → some b ≠ F.pn → H b = some o
  pen : PenOk F.K F.pn F.pc G H st
theorem Rel.fin {F : Fz} {σ : L2.St} {H G : Hp} {Γ : Ev} {st : Pn} (R : Rel F σ H G Γ st) : Fin F H G st := ⟨R.le, R.g0, R.fresh, R.keep, R.pen⟩
def Post (F : Fz) (D : Ends) : Fl → Prop
  | .nx Γ st => ∀ σ H G, Rel F σ H G Γ st → D.nx σ H
  | .rt d st => ∀ v H G, Fin F H G st → Rp F.K G v d → D.rt v H
  | .bk Γ st => ∀ σ H G, Rel F σ H G Γ st → D.bk σ H
  | .ct Γ st => ∀ σ H G, Rel F σ H G Γ st → D.ct σ H
def tS (K : PySem.W.Frag) (ev : EvS) : TS := fun D σ H => ∃ F : Fz, F.K = K ∧ ∃ G Γ st r, Rel F σ H G Γ st ∧ ev Γ st = some r ∧ Post F D r
def SnS (X : Cx) (s : Stmt) (ev : EvS) : Prop := PS X s (tS X.K ev)
def SnB (X : Cx) (s : List Stmt) (ev : EvS) : Prop := PSs X s (tS X.K ev)
def esSeq (a b : EvS) : EvS := fun Γ st => match a Γ st with
  | some (.nx Γ1 st1) => b Γ1 st1
  | r => r
def esNext : EvS := fun Γ st => some (.nx Γ st)
def esRet (a : EvT) : EvS := fun Γ st => match a Γ st with
  | some (d, _, st1) => some (.rt d st1)
  | none => none
def esAsg (tg : Tg) (a : EvT) : EvS := fun Γ st => match a Γ st with
  | some (d, Γ1, st1) => match asT tg d Γ1 with
    | some Γ2 => some (.nx Γ2 st1)
    | none => none
  | none => none
def esDrop (a : EvT) : EvS := fun Γ st => match a Γ st with
  | some (_, Γ1, st1) => some (.nx Γ1 st1)
  | none => none
def esIf (c : EvE) (a b : EvS) : EvS := fun Γ st => match c (frzBy allS 0 Γ) st with
  | some (.bool true, st1) => a Γ st1
  | some (.bool false, st1) => b Γ st1
  | _ => none
def esLoop (tg : Tg) (body : EvS) : List PyData → EvS
  | [], Γ, st => some (.nx Γ st)
  | d :: ds, Γ, st => match asT tg d Γ with
    | some Γ1 => match body Γ1 st with
      | some (.nx Γ2 st2) => esLoop tg body ds Γ2 st2
      | some (.ct Γ2 st2) => esLoop tg body ds Γ2 st2
      | some (.bk Γ2 st2) => some (.nx Γ2 st2)
      | some (.rt d2 st2) => some (.rt d2 st2)
      | none => none
    | none => none
def esFor (L : List Nat) (it : EvI) (tg : Tg) (body : EvS) : EvS := fun Γ st => match it (frzBy L.contains 0 Γ) st with
  | some (ds, st1) => esLoop tg body ds (frzBy L.contains 0 Γ) st1
  | none => none
def esWhile : Nat → EvE → EvS → EvS
  | 0, _, _, _, _ => none
  | n + 1, c, body, Γ, st => match c (frzBy allS 0 Γ) st with
    | some (.bool true, st1) => match body Γ st1 with
      | some (.nx Γ2 st2) => esWhile n c body Γ2 st2
      | some (.ct Γ2 st2) => esWhile n c body Γ2 st2
      | some (.bk Γ2 st2) => some (.nx Γ2 st2)
      | some (.rt d2 st2) => some (.rt d2 st2)
      | none => none
    | some (.bool false, st1) => some (.nx Γ st1)
    | _ => none
section
variable {X : Cx} {s : Stmt} {ss s1 s2 : List Stmt} {e c : Expr} {ev : EvS} {ev1 ev2 eb : EvS} {ec : EvE} {ep : EvT} {pos : Pos} {tg : Tg}
theorem sb_nil : SnB X [] esNext := pssC pss_nil fun D σ H q => by
  obtain ⟨F, hK, G, Γ, st, r, R, hev, q⟩ := q
  cases hev
  exact q σ H G R
theorem sb_cons (h1 : SnS X s ev1) (h2 : SnB X ss ev2) : SnB X (s :: ss) (esSeq ev1 ev2) := pssC (pss_cons h1 h2) fun D σ H q => by
  obtain ⟨F, hK, G, Γ, st, r, R, hev, q⟩ := q
  unfold esSeq at hev
  cases h : ev1 Γ st with
  | none => rw [h] at hev; cases hev
  | some r1 =>
    rw [h] at hev
    refine ⟨F, hK, G, Γ, st, r1, R, h, ?_⟩
    cases r1 with
    | nx Γ1 st1 => exact fun σ1 H1 G1 R1 => ⟨F, hK, G1, Γ1, st1, r, R1, hev, q⟩
    | _ => cases hev; exact q
theorem ss_pass : SnS X (.Pass pos) esNext := psC ps_pass fun D σ H q => by
  obtain ⟨F, hK, G, Γ, st, r, R, hev, q⟩ := q
  cases hev
  exact q σ H G R
theorem ss_break : SnS X (.Break pos) (fun Γ st => some (.bk Γ st)) := psC ps_break fun D σ H q => by
  obtain ⟨F, hK, G, Γ, st, r, R, hev, q⟩ := q
  cases hev
  exact q σ H G R
theorem ss_cont : SnS X (.Continue pos) (fun Γ st => some (.ct Γ st)) := psC ps_continue fun D σ H q => by
  obtain ⟨F, hK, G, Γ, st, r, R, hev, q⟩ := q
  cases hev
  exact q σ H G R
theorem ss_ret (h : SnP X e ep) : SnS X (.Return (some e) pos) (esRet ep) := psC (ps_ret h) fun D σ H q => by
  obtain ⟨F, hK, G, Γ, st, r, R, hev, q⟩ := q
  unfold esRet at hev
  split at hev
  · rename_i d Γ1 st1 h1
    cases hev
    exact ⟨F, hK, G, Γ, st, _, _, _, R, h1, fun v H' G' R' _ rp => q v H' G' R'.fin rp⟩
  · cases hev
theorem ss_drop (h : SnP X e ep) (hs : swapsWith e none pos.line X.env = pure false) : SnS X (.Expr e pos) (esDrop ep) := psC (ps_expr h hs) fun D σ H q => by
  obtain ⟨F, hK, G, Γ, st, r, R, hev, q⟩ := q
  unfold esDrop at hev
  split at hev
  · rename_i d Γ1 st1 h1
    cases hev
    exact ⟨F, hK, G, Γ, st, _, _, _, R, h1, fun v H' G' R' _ rp => q σ H' G' R'⟩
  · cases hev
theorem ss_asg {t : Expr} (h : SnP X e ep) (ht : SnT X t tg) (hs : swapsWithSole [t] e pos.line X.env = pure false) (hw : swappedStores [t] e X.env = pure none) (h1 : (assignEach [t] X.env).map (·.2) = [assign t X.env]) :
    SnS X (.Assign [t] e pos) (esAsg tg ep) := ⟨fun pins s σ H D I q => by
  obtain ⟨F, hK, G, Γ, st, r, R, hev, q⟩ := q
  unfold esAsg at hev
  split at hev
  · rename_i d Γ1 st1 he
    split at hev
    · rename_i Γ2 hg
      cases hev
      refine (ps_asg h (ht F hK) hs hw h1).run pins s σ H D I ⟨F, hK, G, Γ, st, _, _, _, R, he, fun v H' G' R' _ rp => ?_⟩
      exact ⟨G', Γ1, st1, d, Γ2, R', rp, hg, fun σ' R2 _ => q σ' H' G' R2⟩
    · cases hev
  · cases hev⟩
theorem ss_if (hc : Sn X c ec) (ha : SnB X s1 ev1) (hb : SnB X s2 ev2) : SnS X (.If c s1 s2 pos) (esIf ec ev1 ev2) := psC (ps_if (pt_tst hc) ha hb) fun D σ H q => by
  obtain ⟨F, hK, G, Γ, st, r, R, hev, q⟩ := q
  unfold esIf at hev
  split at hev
  · rename_i st1 h1
    exact ⟨F, hK, G, Γ, st, true, st1, R, h1, fun H' G' R' _ => iteT ⟨F, hK, G', Γ, st1, r, R', hev, q⟩⟩
  · rename_i st1 h1
    exact ⟨F, hK, G, Γ, st, false, st1, R, h1, fun H' G' R' _ => iteF ⟨F, hK, G', Γ, st1, r, R', hev, q⟩⟩
  · cases hev
end
end Mn
namespace Mn
open PySem PySem.Spec PyProof.Rows L2
/-! loops -/
abbrev Fz.at (F : Fz) (G : Hp) : Fz := { F with G0 := G }
theorem Rel.down {F : Fz} {σ : L2.St} {H G : Hp} {Γ : Ev} {st : Pn} (R : Rel F σ H G Γ st) : Rel (F.at G) σ H G Γ st :=
  ⟨R.le, fun _ _ h => h, fun _ _ _ => rfl, R.keep, R.pen, R.slot, R.disj, R.len⟩
theorem Rel.up {F : Fz} {σ σ1 : L2.St} {H G H1 G1 : Hp} {Γ Γ1 : Ev} {st st1 : Pn} (R1 : Rel F σ1 H1 G1 Γ1 st1) (R : Rel (F.at G1) σ H G Γ st) : Rel F σ H G Γ st :=
  ⟨R.le, fun b o h => R.g0 b o (R1.g0 b o h), fun b o h => (R.fresh b o h).trans (R1.fresh b o h), R.keep, R.pen, R.slot, R.disj, R.len⟩
theorem Fin.up {F : Fz} {σ1 : L2.St} {H G H1 G1 : Hp} {Γ1 : Ev} {st st1 : Pn} (R1 : Rel F σ1 H1 G1 Γ1 st1) (R : Fin (F.at G1) H G st) : Fin F H G st :=
  ⟨R.le, fun b o h => R.g0 b o (R1.g0 b o h), fun b o h => (R.fresh b o h).trans (R1.fresh b o h), R.keep, R.pen⟩
def tGx (K : PySem.W.Frag) (tg : Tg) : TG := fun v σ H Q => ∃ F : Fz, F.K = K ∧ tGt F tg v σ H Q
theorem pg_x {X : Cx} {e : Expr} {tg : Tg} (h : SnT X e tg) : PG X e (tGx X.K tg) := ⟨fun pins s σ H v u Q I r q => by
  obtain ⟨F, hK, q⟩ := q
  exact (h F hK).run pins s σ H v u Q I r q⟩
theorem drop_at {ds : List PyData} {i : Nat} {d : PyData} (h : ds[i]? = some d) : ds.drop i = d :: ds.drop (i + 1) := by
  obtain ⟨hi, e⟩ := List.getElem?_eq_some_iff.mp h
  rw [List.drop_eq_getElem_cons hi, e]
section
variable {X : Cx} {t it c : Expr} {body : List Stmt} {pos : Pos} {tg : Tg} {ei : EvI} {eb : EvS} {ec : EvE}
theorem ss_for (L : List Nat) (hp : PassesOwn (model X.prog X.w) X.A X.env X.xe) (hc : X.calm = true) (hi : SnI X t it ei) (ht : SnT X t tg) (hb : SnB X body eb) (hs : ∀ x, foldedSetIterable it X.env x = pure x) :
    SnS X (.For t it body [] pos) (esFor L ei tg eb) := ⟨fun pins s σ H D I q => by
  obtain ⟨F, hK, G, Γ, st, r, R, hev, q⟩ := q
  unfold esFor at hev
  cases h1 : ei (frzBy L.contains 0 Γ) st with
  | none => rw [h1] at hev; cases hev
  | some p1 =>
    obtain ⟨ds, st1⟩ := p1
    simp only [h1] at hev
    obtain ⟨sm, R0⟩ := R.frz L.contains
    refine (ps_for hp hc (hi F hK) (pg_x ht) hb hs).run pins s σ H D I ⟨_, _, st, ds, st1, R0, h1, fun J H1 G1 E1 wk => ?_⟩
    have R1 := R0.step E1
    have key : ∀ (i : Nat) (σ : L2.St) (H : Hp) (G' : Hp) (Γ' : Ev) (st' : Pn), Rel (F.at G1) σ H G' Γ' st' → Same G1 H := fun i σ H G' Γ' st' R' b o h => R'.le b o (R'.g0 b o h)
    refine ⟨fun i m σ H => m = ds.length - i ∧ i ≤ ds.length ∧ ∃ G' Γ' st', Rel (F.at G1) σ H G' Γ' st' ∧ esLoop tg eb (ds.drop i) Γ' st' = some r, ⟨ds.length, by simp, Nat.zero_le _, G1, _, st1, R1.down, by simpa using hev⟩, ?_⟩
    rintro i m σ2 H2 ⟨rfl, hi, G', Γ', st', R', hl⟩
    by_cases hlt : i < ds.length
    · refine .inr ⟨wk.w.goes i H2 hlt (key i _ _ _ _ _ R'), fun σ' H' => ∃ G' Γ' st', Rel (F.at G1) σ' H' G' Γ' st' ∧ esLoop tg eb (ds.drop (i + 1)) Γ' st' = some r, fun σ' H' n => ⟨ds.length - (i + 1), by omega, rfl, hlt, n⟩, fun x H3 y => ?_⟩
      obtain ⟨d, hd, yl⟩ := wk.w.yields i H2 x H3 hlt (key i _ _ _ _ _ R') y
      obtain ⟨G3, nw, rp⟩ := yl G' R'.g0 R'.le
      rw [drop_at hd] at hl
      simp only [esLoop] at hl
      cases h2 : asT tg d Γ' with
      | none => rw [h2] at hl; cases hl
      | some Γ1 =>
        simp only [h2] at hl
        refine ⟨F.at G1, hK, G3, Γ', st', d, Γ1, R'.step (nw.ext R'), rp, h2, fun σ4 R4 _ => ?_⟩
        cases h3 : eb Γ1 st' with
        | none => rw [h3] at hl; cases hl
        | some r3 =>
          simp only [h3] at hl
          refine ⟨F.at G1, hK, G3, Γ1, st', r3, R4, h3, ?_⟩
          cases r3 with
          | nx Γ2 st2 => exact fun σ5 H5 G5 R5 => ⟨G5, Γ2, st2, R5, hl⟩
          | ct Γ2 st2 => exact fun σ5 H5 G5 R5 => ⟨G5, Γ2, st2, R5, hl⟩
          | bk Γ2 st2 =>
            cases hl
            exact fun σ5 H5 G5 R5 => q σ5 H5 G5 (R1.up R5)
          | rt d2 st2 =>
            cases hl
            exact fun v5 H5 G5 F5 r5 => q v5 H5 G5 (Fin.up R1 F5) r5
    · have e : i = ds.length := by omega
      subst e
      rw [List.drop_length] at hl
      simp only [esLoop] at hl
      cases hl
      exact .inl ⟨wk.w.stops H2 (key 0 _ _ _ _ _ R'), q σ2 H2 G' (R1.up R')⟩⟩
theorem ss_while (n : Nat) (hp : PassesOwn (model X.prog X.w) X.A X.env X.xe) (hc : Sn X c ec) (hb : SnB X body eb) : SnS X (.While c body [] pos) (esWhile n ec eb) := ⟨fun pins s σ H D I q => by
  obtain ⟨F, hK, G, Γ, st, r, R, hev, q⟩ := q
  refine (ps_while hp (pt_tst hc) hb).run pins s σ H D I ⟨fun m σ H => ∃ G' Γ' st', Rel F σ H G' Γ' st' ∧ esWhile m ec eb Γ' st' = some r, ⟨n, G, Γ, st, R, hev⟩, ?_⟩
  rintro m σ1 H1 ⟨G1, Γ1, st1, R1, hw⟩
  cases m with
  | zero => cases hw
  | succ m =>
    simp only [esWhile] at hw
    split at hw
    · rename_i st2 h2
      refine ⟨F, hK, G1, Γ1, st1, true, st2, R1, h2, fun H' G' R' _ => iteT ?_⟩
      cases h3 : eb Γ1 st2 with
      | none => rw [h3] at hw; cases hw
      | some r3 =>
        simp only [h3] at hw
        refine ⟨fun σ5 H5 => ∃ G' Γ' st', Rel F σ5 H5 G' Γ' st' ∧ esWhile m ec eb Γ' st' = some r, fun σ5 H5 w => ⟨m, Nat.lt_succ_self m, w⟩, F, hK, G', Γ1, st2, r3, R', h3, ?_⟩
        cases r3 with
        | nx Γ4 st4 => exact fun σ5 H5 G5 R5 => ⟨G5, Γ4, st4, R5, hw⟩
        | ct Γ4 st4 => exact fun σ5 H5 G5 R5 => ⟨G5, Γ4, st4, R5, hw⟩
        | bk Γ4 st4 =>
          cases hw
          exact fun σ5 H5 G5 R5 => q σ5 H5 G5 R5
        | rt d4 st4 =>
          cases hw
          exact fun v5 H5 G5 F5 r5 => q v5 H5 G5 F5 r5
    · rename_i st2 h2
      cases hw
      exact ⟨F, hK, G1, Γ1, st1, false, st2, R1, h2, fun H' G' R' _ => iteF (q _ _ _ R')⟩
    · cases hw⟩
end
/-! lists of one's own, changed -/
theorem Rel.put {F : Fz} {σ : L2.St} {H G : Hp} {Γ : Ev} {st : Pn} (R : Rel F σ H G Γ st) {i : Nat} {xs ys : List PyData} {a : Addr} {ws : List V} (h1 : Γ[i]? = some (some (Sl.own xs))) (h2 : σ[i]? = some (some (V.ref a))) (r : RpA F.K G ws ys) :
    Rel F σ (upd H a (.lst ws)) G (Γ.set i (some (.own ys))) st := by
  obtain ⟨v, hv, a', vs, e, q0, q1, q2, q3, q4⟩ := R.slot i _ h1
  rw [h2] at hv
  cases hv
  cases e
  have hil : i < Γ.length := (List.getElem?_eq_some_iff.mp h1).1
  have back : ∀ {j : Nat} {zs : List PyData}, (Γ.set i (some (.own ys)))[j]? = some (some (Sl.own zs)) → ∃ zs', Γ[j]? = some (some (Sl.own zs')) := fun {j zs} h => by
    rw [List.getElem?_set] at h
    by_cases hij : i = j
    · subst hij; exact ⟨xs, h1⟩
    · rw [if_neg hij] at h; exact ⟨zs, h⟩
  refine ⟨fun b o h => ?_, R.g0, R.fresh, fun b o h n => ?_, ?_, fun j s h => ?_, fun j k zs ws' v hjk e1 e2 f1 f2 => ?_, by rw [List.length_set]; exact R.len⟩
  · have : b ≠ a := fun e => by rw [e, q2] at h; cases h
    rw [upd_ne this]; exact R.le b o h
  · have : b ≠ a := fun e => by rw [e, q0] at h; cases h
    rw [upd_ne this]; exact R.keep b o h n
  · have P := R.pen
    revert P
    unfold PenOk
    cases hpn : F.pn with
    | none => exact fun P => P
    | some q =>
      rintro ⟨g1, g2, g3⟩
      have : q ≠ a := fun e => q1 (by rw [hpn, e])
      exact ⟨g1, by rw [upd_ne this]; exact g2, g3⟩
  · rw [List.getElem?_set] at h
    by_cases hij : i = j
    · subst hij
      rw [if_pos rfl, if_pos hil] at h
      cases h
      exact ⟨_, h2, a, ws, rfl, q0, q1, q2, upd_same, r⟩
    · rw [if_neg hij] at h
      obtain ⟨v, hv, q⟩ := R.slot j s h
      refine ⟨v, hv, ?_⟩
      cases s with
      | own zs =>
        obtain ⟨b, us, e, p0, p1, p2, p3, p4⟩ := q
        subst e
        have : b ≠ a := fun e => R.disj i j xs zs _ hij h1 h h2 (by rw [hv, e])
        exact ⟨b, us, rfl, p0, p1, p2, by rw [upd_ne this]; exact p3, p4⟩
      | _ => exact q
  · obtain ⟨zs1, g1⟩ := back e1
    obtain ⟨zs2, g2⟩ := back e2
    exact R.disj j k zs1 zs2 v hjk g1 g2 f1 f2
theorem Rel.own_at {F : Fz} {σ : L2.St} {H G : Hp} {Γ : Ev} {st : Pn} (R : Rel F σ H G Γ st) {i : Nat} {xs : List PyData} (h : Γ[i]? = some (some (Sl.own xs))) : ∃ a vs, σ[i]? = some (some (V.ref a)) ∧ H a = some (.lst vs) ∧ G a = none ∧ some a ≠ F.pn ∧ RpA F.K G vs xs := by
  obtain ⟨v, hv, a, vs, e, q0, q1, q2, q3, q4⟩ := R.slot i _ h
  subst e
  exact ⟨a, vs, hv, q3, q2, q1, q4⟩
def esApp (i : Nat) (a : EvT) : EvS := fun Γ st => match Γ[i]? with
  | some (some (.own _)) => match a Γ st with
    | some (d, Γ1, st1) => match Γ1[i]? with
      | some (some (.own ys)) => if ys.length < LIM then some (.nx (Γ1.set i (some (.own (ys ++ [d])))) st1) else none
      | _ => none
    | none => none
  | _ => none
def esExt (i : Nat) (a : EvT) : EvS := fun Γ st => match Γ[i]? with
  | some (some (.own _)) => match a Γ st with
    | some (.list ds, Γ1, st1) => match Γ1[i]? with
      | some (some (.own ys)) => if ys.length + ds.length ≤ LIM then some (.nx (Γ1.set i (some (.own (ys ++ ds)))) st1) else none
      | _ => none
    | _ => none
  | _ => none
def evPop (i : Nat) (a : EvT) : EvT := fun Γ st => match Γ[i]? with
  | some (some (.own _)) => match a Γ st with
    | some (.int k, Γ1, st1) => match Γ1[i]? with
      | some (some (.own ys)) => if ys.length ≤ LIM then (match ixN ys.length k with
        | some j => match ys[j]? with
          | some d => some (d, Γ1.set i (some (.own (ys.eraseIdx j))), st1)
          | none => none
        | none => none) else none
      | _ => none
    | _ => none
  | _ => none
section
variable {X : Cx} {e o : Expr} {ea : EvT} {apos cpos pos : Pos} {i : Nat}
theorem app_reads {σ : L2.St} {H : Hp} {D : Ends} (q : tS X.K (esApp i ea) D σ H) : tDrop (tBM X.K "list" rAppend (tVar i) (tCons (tTop X.K ea) tNil)) D σ H := by
  obtain ⟨F, hK, G, Γ, st, r, R, hev, q⟩ := q
  unfold esApp at hev
  split at hev
  · rename_i xs hx
    split at hev
    · rename_i d Γ1 st1 h1
      split at hev
      · rename_i ys hy
        split at hev
        · rename_i hz
          cases hev
          obtain ⟨a, vs, ha, hl, _⟩ := R.own_at hx
          refine ⟨.ref a, ha, .inl ⟨rfl, vs, SqL.of hl⟩, F, hK, G, Γ, st, d, Γ1, st1, R, h1, fun v H' G' R' _ rp => ?_⟩
          obtain ⟨a', vs', ha', hl', hg', hpn', r'⟩ := R'.own_at hy
          rw [ha] at ha'
          cases ha'
          refine ⟨a, vs', v, rfl, rfl, hl', lim_lt (Nat.le_of_lt (by rw [RpA.length r']; exact hz)), ?_⟩
          exact q σ _ G' (R'.put hy ha (RpA.append r' (.cons rp .nil)))
        · cases hev
      · cases hev
    · cases hev
  · cases hev
theorem ss_app (hv : PE X o (tVar i)) (ha : SnP X e ea) (hbase : attributeBase o "append" X.env (eval o X.env) = eval o X.env)
    (hfew : ((backTo cpos (starEach [e] X.env)).all (fun x => !x.1) && (backToKw cpos (keywordEach [] X.env)).all (fun x => x.1.isSome) && decide ([e].length + ([] : List Keyword).length + (if ([] : List Keyword).isEmpty then 0 else 1) < 30)) = true)
    (hline : (apos.endLine == cpos.line) = true) (hs : starEach [e] X.env = (false, eval e X.env) :: starEach [] X.env) : SnS X (.Expr (.Call (.Attribute o "append" apos) [e] [] cpos) pos) (esApp i ea) :=
  psC (ps_expr (pe_bm PySem.F.plainAttrs_list PySem.F.slot_list_append PySem.F.type_list_append mt_append hv (pa_cons ha pa_nil hs) hbase hfew hline hs rfl) rfl) fun D σ H q => app_reads q
theorem ss_ext (hv : PE X o (tVar i)) (ha : SnP X e ea) (hbase : attributeBase o "extend" X.env (eval o X.env) = eval o X.env)
    (hfew : ((backTo cpos (starEach [e] X.env)).all (fun x => !x.1) && (backToKw cpos (keywordEach [] X.env)).all (fun x => x.1.isSome) && decide ([e].length + ([] : List Keyword).length + (if ([] : List Keyword).isEmpty then 0 else 1) < 30)) = true)
    (hline : (apos.endLine == cpos.line) = true) (hs : starEach [e] X.env = (false, eval e X.env) :: starEach [] X.env) : SnS X (.Expr (.Call (.Attribute o "extend" apos) [e] [] cpos) pos) (esExt i ea) :=
  psC (ps_expr (pe_bm PySem.F.plainAttrs_list PySem.F.slot_list_extend PySem.F.type_list_extend mt_extend hv (pa_cons ha pa_nil hs) hbase hfew hline hs rfl) rfl) fun D σ H q => by
    obtain ⟨F, hK, G, Γ, st, r, R, hev, q⟩ := q
    unfold esExt at hev
    split at hev
    · rename_i xs hx
      split at hev
      · rename_i ds Γ1 st1 h1
        split at hev
        · rename_i ys hy
          split at hev
          · rename_i hz
            cases hev
            obtain ⟨a, vs, ha, hl, _⟩ := R.own_at hx
            refine ⟨.ref a, ha, .inl ⟨rfl, vs, SqL.of hl⟩, F, hK, G, Γ, st, _, Γ1, st1, R, h1, fun v H' G' R' _ rp => ?_⟩
            obtain ⟨a', vs', ha', hl', hg', hpn', r'⟩ := R'.own_at hy
            rw [ha] at ha'
            cases ha'
            cases rp with
            | lst hb rb =>
              refine ⟨a, _, vs', _, rfl, rfl, hl', R'.le _ _ hb, lim_le (by rw [RpA.length r', RpA.length rb]; exact hz), ?_⟩
              exact q σ _ G' (R'.put hy ha (RpA.append r' rb))
          · cases hev
        · cases hev
      · cases hev
    · cases hev
theorem sp_pop (hv : PE X o (tVar i)) (ha : SnP X e ea) (hbase : attributeBase o "pop" X.env (eval o X.env) = eval o X.env)
    (hfew : ((backTo cpos (starEach [e] X.env)).all (fun x => !x.1) && (backToKw cpos (keywordEach [] X.env)).all (fun x => x.1.isSome) && decide ([e].length + ([] : List Keyword).length + (if ([] : List Keyword).isEmpty then 0 else 1) < 30)) = true)
    (hline : (apos.endLine == cpos.line) = true) (hs : starEach [e] X.env = (false, eval e X.env) :: starEach [] X.env) : SnP X (.Call (.Attribute o "pop" apos) [e] [] cpos) (evPop i ea) :=
  peC (pe_bm PySem.F.plainAttrs_list PySem.F.slot_list_pop PySem.F.type_list_pop mt_popAt hv (pa_cons ha pa_nil hs) hbase hfew hline hs rfl) fun σ H Q q => by
    obtain ⟨F, hK, G, Γ, st, d, Γ', st', R, hev, q⟩ := q
    unfold evPop at hev
    split at hev
    · rename_i xs hx
      split at hev
      · rename_i k Γ1 st1 h1
        split at hev
        · rename_i ys hy
          split at hev
          · rename_i hz
            split at hev
            · rename_i j hj
              split at hev
              · rename_i d0 hd
                have e := Option.some.inj hev
                have e1 : d0 = d := congrArg Prod.fst e
                have e2 : Γ1.set i (some (.own (ys.eraseIdx j))) = Γ' := congrArg (fun z => z.2.1) e
                have e3 : st1 = st' := congrArg (fun z => z.2.2) e
                subst e1 e2 e3
                obtain ⟨a, vs, ha, hl, _⟩ := R.own_at hx
                refine ⟨.ref a, ha, .inl ⟨rfl, vs, SqL.of hl⟩, F, hK, G, Γ, st, _, Γ1, st1, R, h1, fun v H' G' R' sm rp => ?_⟩
                obtain ⟨a', vs', ha', hl', hg', hpn', r'⟩ := R'.own_at hy
                rw [ha] at ha'
                cases ha'
                cases rp
                obtain ⟨b1, b2, b3, b4⟩ := ixN_seq hj
                obtain ⟨w, hw, rw'⟩ := RpA.get r' hd
                have hlen := RpA.length r'
                unfold LIM at hz
                refine ⟨a, vs', k, j, w, rfl, rfl, hl', by omega, by omega, by rw [hlen]; exact b1, hw, ?_⟩
                exact q w _ G' (R'.put hy ha (RpA.erase j r')) sm rw'
              · cases hev
            · cases hev
          · cases hev
        · cases hev
      · cases hev
    · cases hev
end
/-! new lists -/
abbrev EvTF := Ev → Pn → Option (List PyData × Ev × Pn)
def evScF (a : EvF) : EvTF := fun Γ st => match a (frzBy allS 0 Γ) st with
  | some (ds, st1) => if ds.all scalD then some (ds, Γ, st1) else none
  | none => none
def evFzF (L : List Nat) (a : EvF) : EvTF := fun Γ st => match a (frzBy L.contains 0 Γ) st with
  | some (ds, st1) => some (ds, frzBy L.contains 0 Γ, st1)
  | none => none
def tTopF (K : PySem.W.Frag) (ev : EvTF) : TE := fun σ H Q => ∃ F : Fz, F.K = K ∧ ∃ G Γ st ds Γ' st', Rel F σ H G Γ st ∧ ev Γ st = some (ds, Γ', st') ∧
  ∀ p vs H' G', Rel F σ H' G' Γ' st' → H p = none → G' p = none → H' p = some (.lst vs) → RpA F.K G' vs ds →
    (∀ (j : Nat) (ys : List PyData), Γ'[j]? = some (some (Sl.own ys)) → σ[j]? = some (some (V.ref p)) → False) → Q (.ref p) H'
def SnPF (X : Cx) (e : Expr) (ev : EvTF) : Prop := PE X e (tTopF X.K ev)
theorem scals_any {K : PySem.W.Frag} {G G' : Hp} : ∀ {vs : List V} {ds : List PyData}, RpA K G vs ds → ds.all scalD = true → RpA K G' vs ds
  | _, _, .nil, _ => .nil
  | _, _, .cons a b, s => by
    rw [List.all_cons, Bool.and_eq_true] at s
    exact .cons (scal_any a s.1) (scals_any b s.2)
theorem own_new {F : Fz} {σ : L2.St} {H G : Hp} {Γ : Ev} {st : Pn} (R : Rel F σ H G Γ st) {p : Addr} (hp : H p = none) (j : Nat) (ys : List PyData) (h1 : Γ[j]? = some (some (Sl.own ys))) (h2 : σ[j]? = some (some (V.ref p))) : False := by
  obtain ⟨a, vs, ha, hl, _⟩ := R.own_at h1
  rw [h2] at ha
  cases ha
  rw [hp] at hl
  cases hl
theorem frz_back {sel : Nat → Bool} {Γ : Ev} {i : Nat} {xs : List PyData} (h : (frzBy sel 0 Γ)[i]? = some (some (Sl.own xs))) : Γ[i]? = some (some (Sl.own xs)) := by
  rw [frzBy_get] at h
  cases hg : Γ[i]? with
  | none => rw [hg] at h; cases h
  | some s0 =>
    rw [hg] at h
    simp only [Option.map_some, Option.some.injEq] at h
    split at h
    · cases s0 with
      | none => cases h
      | some s1 => cases s1 <;> cases h
    · rw [h]
section
variable {X : Cx} {e : Expr} {ea : EvF}
theorem spf_sc (h : SnF X e ea) : SnPF X e (evScF ea) := ⟨fun pins s σ H Q I q => by
  obtain ⟨F, hK, G, Γ, st, d, Γ', st', R, hev, q⟩ := q
  unfold evScF at hev
  split at hev
  · rename_i d1 st1 h1
    split at hev
    · rename_i hs
      have e := Option.some.inj hev
      have e1 : d1 = d := congrArg Prod.fst e
      have e2 : Γ = Γ' := congrArg (fun z => z.2.1) e
      have e3 : st1 = st' := congrArg (fun z => z.2.2) e
      subst e1 e2 e3
      obtain ⟨sm, R1⟩ := R.frz allS
      refine (h F hK).run pins s σ H Q I ⟨_, _, st, _, _, R1, h1, fun p vs H' G' E hp hg hh r => ?_⟩
      have hG : G p = none := by
        cases hh2 : G p with
        | none => rfl
        | some o => rw [R.le _ _ hh2] at hp; cases hp
      exact q p vs H' G (R.thaw sm (fun i xs b a1 a2 => frzG_all i xs b a1 a2) E) hp hG hh (scals_any r hs) fun j ys => own_new R hp j ys
    · cases hev
  · cases hev⟩
theorem spf_fz (L : List Nat) (h : SnF X e ea) : SnPF X e (evFzF L ea) := ⟨fun pins s σ H Q I q => by
  obtain ⟨F, hK, G, Γ, st, d, Γ', st', R, hev, q⟩ := q
  unfold evFzF at hev
  split at hev
  · rename_i d1 st1 h1
    have e := Option.some.inj hev
    have e1 : d1 = d := congrArg Prod.fst e
    have e2 : frzBy L.contains 0 Γ = Γ' := congrArg (fun z => z.2.1) e
    have e3 : st1 = st' := congrArg (fun z => z.2.2) e
    subst e1 e2 e3
    obtain ⟨sm, R1⟩ := R.frz L.contains
    refine (h F hK).run pins s σ H Q I ⟨_, _, st, _, _, R1, h1, fun p vs H' G' E hp hg hh r => ?_⟩
    exact q p vs H' G' (R1.step E) hp hg hh r fun j ys h1 h2 => own_new R hp j ys (frz_back h1) h2
  · cases hev⟩
end
def esOwn (i : Nat) (a : EvTF) : EvS := fun Γ st => match a Γ st with
  | some (ds, Γ1, st1) => some (.nx (Γ1.set i (some (.own ds))) st1)
  | none => none
section
variable {X : Cx} {e : Expr} {ea : EvTF} {x : Str} {i : Nat} {pos pos' : Pos}
theorem ss_own (hN : X.N.Nodup) (hi : X.N[i]? = some x) (hx : Loc X.env.scope x) (hf : X.fn x = true ∨ X.env.scope.names.lookup x = some .local) (h : SnPF X e ea) (hs : swapsWith e (some (.Name x pos')) pos.line X.env = pure false) : SnS X (.Assign [.Name x pos'] e pos) (esOwn i ea) :=
  psC (ps_set hN hi hx h hs hf) fun D σ H q => by
    obtain ⟨F, hK, G, Γ, st, r, R, hev, q⟩ := q
    unfold esOwn at hev
    split at hev
    · rename_i ds Γ1 st1 h1
      cases hev
      refine ⟨F, hK, G, Γ, st, ds, Γ1, st1, R, h1, fun p vs H' G' R' hp hg hh r hn => ?_⟩
      have h0 : F.H0 p = none := by
        cases hh2 : F.H0 p with
        | none => rfl
        | some o =>
          obtain ⟨o', z⟩ := R.h0 hh2
          rw [hp] at z
          cases z
      have hpn : some p ≠ F.pn := fun e => by
        obtain ⟨o, z⟩ := R.pen.some_of e.symm
        rw [hp] at z
        cases z
      exact q _ H' G' (R'.setOwn i h0 hpn hg hh r hn)
    · cases hev
end
end Mn
namespace Mn
open PySem PySem.Spec PyProof.Rows L2
/-! list comprehensions -/
theorem wipe_get (σ : L2.St) : ∀ (vs : List Nat) (j : Nat), (L2.wipe σ vs)[j]? = if j ∈ vs then (σ[j]?).map (fun _ => none) else σ[j]?
  | [], j => by simp [L2.wipe]
  | v :: vs, j => by
    have ih := wipe_get σ vs j
    unfold L2.wipe
    rw [List.getElem?_set]
    by_cases hv : v = j
    · subst hv
      rw [if_pos rfl, if_pos List.mem_cons_self, L2.wipe_length]
      by_cases hl : v < σ.length
      · rw [if_pos hl, List.getElem?_eq_getElem hl]; rfl
      · rw [if_neg hl, List.getElem?_eq_none (Nat.le_of_not_lt hl)]; rfl
    · rw [if_neg hv, ih]
      by_cases hj : j ∈ vs
      · rw [if_pos hj, if_pos (List.mem_cons_of_mem _ hj)]
      · rw [if_neg hj, if_neg (fun z => (List.mem_cons.mp z).elim (fun e => hv e.symm) hj)]
theorem wipe_off {σ σ2 : L2.St} {L vs : List Nat} (o : Off L (L2.wipe σ vs) σ2) (h : ∀ i ∈ L, i ∈ vs) : L2.wipe σ2 vs = L2.wipe σ vs := by
  apply List.ext_getElem?
  intro j
  rw [wipe_get σ2, wipe_get σ]
  have hl : σ2.length = σ.length := by rw [o.1, L2.wipe_length]
  by_cases hj : j ∈ vs
  · rw [if_pos hj, if_pos hj]
    by_cases hz : j < σ.length
    · rw [List.getElem?_eq_getElem hz, List.getElem?_eq_getElem (by rw [hl]; exact hz)]; rfl
    · rw [List.getElem?_eq_none (Nat.le_of_not_lt hz), List.getElem?_eq_none (by rw [hl]; exact Nat.le_of_not_lt hz)]
  · rw [if_neg hj, if_neg hj, o.2 j (fun z => hj (h j z)), wipe_get, if_neg hj]
def tEx (K : PySem.W.Frag) (ev : EvE) : TE := fun σ H Q => ∃ F : Fz, F.K = K ∧ tE F ev σ H Q
def tTx (K : PySem.W.Frag) (ev : EvE) : TT := fun σ H Q => ∃ F : Fz, F.K = K ∧ tT F ev σ H Q
theorem pe_x {X : Cx} {e : Expr} {ev : EvE} (h : SnE X e ev) : PE X e (tEx X.K ev) := ⟨fun pins s σ H Q I q => by
  obtain ⟨F, hK, q⟩ := q
  exact (h F hK).run pins s σ H Q I q⟩
theorem pt_x {X : Cx} {e : Expr} {ev : EvE} (h : Sn X e ev) : PT X e (tTx X.K ev) := ⟨fun pins s σ H Q I q => by
  obtain ⟨F, hK, q⟩ := q
  exact (h F hK).pt.run pins s σ H Q I q⟩
def tCx (K : PySem.W.Frag) : Option EvE → TT
  | none => tYes
  | some c => tTx K c
def lcTest (c : Option EvE) (Γ : Ev) (st : Pn) : Option (Bool × Pn) := match c with
  | none => some (true, st)
  | some c => match c Γ st with
    | some (.bool b, st1) => some (b, st1)
    | _ => none
def lcLoop (tg : Tg) (c : Option EvE) (el : EvE) (Γ : Ev) : List PyData → Pn → Option (List PyData × Pn)
  | [], st => some ([], st)
  | d :: ds, st => match asT tg d Γ with
    | some Γ1 => match lcTest c Γ1 st with
      | some (true, st1) => match el Γ1 st1 with
        | some (x, st2) => match lcLoop tg c el Γ ds st2 with
          | some (xs, st3) => some (x :: xs, st3)
          | none => none
        | none => none
      | some (false, st1) => lcLoop tg c el Γ ds st1
      | none => none
    | none => none
def evLc (it : EvI) (tg : Tg) (c : Option EvE) (el : EvE) (vs : List Nat) : EvF := fun Γ st => match it Γ st with
  | some (ds, st1) => if ds.length ≤ LIM then lcLoop tg c el (wipeE Γ vs) ds st1 else none
  | none => none
theorem tLc_of {K : PySem.W.Frag} {F : Fz} (hK : F.K = K) {ei : EvI} {tg : Tg} {c : Option EvE} {el : EvE} {vs : List Nat} (hv : ∀ i ∈ tgS tg, i ∈ vs) {σ : L2.St} {H : Hp} {Q : VK} (q : tF F (evLc ei tg c el vs) σ H Q) :
    tLc (tIt F ei) (tGx K tg) (tCx K c) (tEx K el) vs σ H Q := by
  obtain ⟨G, Γ, st, ds, st', R, hev, q⟩ := q
  unfold evLc at hev
  cases h1 : ei Γ st with
  | none => rw [h1] at hev; cases hev
  | some p1 =>
    obtain ⟨its, st1⟩ := p1
    simp only [h1] at hev
    split at hev
    · rename_i hz
      refine ⟨G, Γ, st, its, st1, R, h1, fun J H1 G1 E1 wk D hD => ?_⟩
      have R1 := R.step E1
      have hDpn : some D ≠ F.pn := fun e => by
        obtain ⟨o, h⟩ := R1.pen.some_of e.symm
        rw [hD] at h; cases h
      have hDG : G1 D = none := by
        cases h : G1 D with
        | none => rfl
        | some o => rw [R1.le _ _ h] at hD; cases hD
      -- the state between two turns
      refine lc_it wk.w (fun i H2 => i ≤ its.length ∧ ∃ G2 st2 acc vacc rest, Ext F.K F.pn F.pc H1 G1 H2 G2 st2 ∧ G2 D = none ∧ H2 D = some (.lst vacc) ∧ RpA F.K G2 vacc acc ∧ acc.length ≤ i ∧ lcLoop tg c el (wipeE Γ vs) (its.drop i) st2 = some (rest, st') ∧ ds = acc ++ rest)
        ⟨Nat.zero_le _, G1, st1, [], [], ds, Ext.newH R1 hD, hDG, upd_same, .nil, Nat.le_refl _, by simpa using hev, rfl⟩ ?_ ?_ ?_
      · rintro i H2 hi ⟨_, G2, st2, acc, vacc, rest, E2, _⟩ b o h
        exact E2.gh b o (E2.gg b o h)
      · rintro i x H2 H3 hi ⟨_, G2, st2, acc, vacc, rest, E2, hg2, hd2, ra, hal, hl, hsplit⟩ ⟨d, hd, yl⟩
        have R2 := R1.step E2
        obtain ⟨G3, nw, rp⟩ := yl G2 E2.gg E2.gh
        have E23 := nw.ext R2
        have R3 := (R2.step E23).wipe vs
        rw [drop_at hd] at hl
        simp only [lcLoop] at hl
        cases h2 : asT tg d (wipeE Γ vs) with
        | none => rw [h2] at hl; cases hl
        | some Γ1 =>
          simp only [h2] at hl
          refine ⟨F, hK, G3, _, st2, d, Γ1, R3, rp, h2, fun σ4 R4 off => ⟨wipe_off off hv, ?_⟩⟩
          -- the test
          have go : ∀ (b : Bool) (st3 : Pn) (H4 G4 : Hp), lcTest c Γ1 st2 = some (b, st3) → Ext F.K F.pn F.pc H3 G3 H4 G4 st3 → Rel F σ4 H4 G4 Γ1 st3 →
              if b = true then tEx K el σ4 H4 fun y H5 => ∃ acc', H5 D = some (.lst acc') ∧ acc'.length < sizeLine ∧ (i + 1 ≤ its.length ∧ ∃ G2 st2 acc vacc rest, Ext F.K F.pn F.pc H1 G1 (upd H5 D (.lst (acc' ++ [y]))) G2 st2 ∧ G2 D = none ∧ (upd H5 D (.lst (acc' ++ [y]))) D = some (.lst vacc) ∧ RpA F.K G2 vacc acc ∧ acc.length ≤ i + 1 ∧ lcLoop tg c el (wipeE Γ vs) (its.drop (i + 1)) st2 = some (rest, st') ∧ ds = acc ++ rest)
              else (i + 1 ≤ its.length ∧ ∃ G2 st2 acc vacc rest, Ext F.K F.pn F.pc H1 G1 H4 G2 st2 ∧ G2 D = none ∧ H4 D = some (.lst vacc) ∧ RpA F.K G2 vacc acc ∧ acc.length ≤ i + 1 ∧ lcLoop tg c el (wipeE Γ vs) (its.drop (i + 1)) st2 = some (rest, st') ∧ ds = acc ++ rest) := by
            intro b st3 H4 G4 ht E4 R4'
            have E14 : Ext F.K F.pn F.pc H1 G1 H4 G4 st3 := Ext.trans' (σ := σ) (Γ := Γ) (Ext.trans' (σ := σ) (Γ := Γ) E2 E23) E4
            have d4 : H4 D = some (.lst vacc) := E4.kp D _ (E23.kp D _ hd2 hDpn) hDpn
            have g4 : G4 D = none := by rw [E4.fr D _ (E23.kp D _ hd2 hDpn), E23.fr D _ hd2]; exact hg2
            simp only [ht] at hl
            cases b with
            | false =>
              refine iteF ⟨hi, G4, st3, acc, vacc, rest, E14, g4, d4, RpA.mono (fun b o z => E4.gg b o (E23.gg b o z)) ra, Nat.le_succ_of_le hal, hl, hsplit⟩
            | true =>
              refine iteT ?_
              cases h5 : el Γ1 st3 with
              | none => simp only [h5] at hl; cases hl
              | some p5 =>
                obtain ⟨x5, st5⟩ := p5
                simp only [h5] at hl
                cases h6 : lcLoop tg c el (wipeE Γ vs) (its.drop (i + 1)) st5 with
                | none => simp only [h6] at hl; cases hl
                | some p6 =>
                  obtain ⟨xs6, st6⟩ := p6
                  simp only [h6] at hl
                  obtain ⟨rfl, rfl⟩ := Prod.mk.inj (Option.some.inj hl)
                  refine ⟨F, hK, G4, Γ1, st3, x5, st5, R4', h5, fun v H5 G5 E5 r5 => ?_⟩
                  have d5 : H5 D = some (.lst vacc) := E5.kp D _ d4 hDpn
                  have g5 : G5 D = none := by rw [E5.fr D _ d4]; exact g4
                  have E15 : Ext F.K F.pn F.pc H1 G1 H5 G5 st5 := Ext.trans' (σ := σ) (Γ := Γ) E14 E5
                  have ra5 : RpA F.K G5 vacc acc := RpA.mono (fun b o z => E5.gg b o (E4.gg b o (E23.gg b o z))) ra
                  have ra6 := RpA.append ra5 (.cons r5 .nil)
                  refine ⟨vacc, d5, lim_lt (by rw [RpA.length ra]; omega), hi, G5, st5, acc ++ [x5], vacc ++ [v], xs6, ?_, g5, upd_same, ra6, by simp; omega, h6, by rw [hsplit]; simp⟩
                  refine ⟨E15.gg, fun b o z => ?_, E15.fr, fun b o z n => ?_, ?_⟩
                  · have : b ≠ D := fun e => by rw [e, g5] at z; cases z
                    rw [upd_ne this]; exact E15.gh b o z
                  · have : b ≠ D := fun e => by rw [e, hD] at z; cases z
                    rw [upd_ne this]; exact E15.kp b o z n
                  · have P := E15.pen
                    revert P
                    unfold PenOk
                    cases hpn : F.pn with
                    | none => exact fun P => P
                    | some w =>
                      rintro ⟨p1, p2, p3⟩
                      have : w ≠ D := fun e => hDpn (by rw [hpn, e])
                      exact ⟨p1, by rw [upd_ne this]; exact p2, p3⟩
          cases c with
          | none => exact go true st2 H3 G3 rfl (Ext.refl R4) R4
          | some c =>
            cases hc : c Γ1 st2 with
            | none => simp only [lcTest, hc] at hl; cases hl
            | some pc =>
              obtain ⟨b, st3⟩ := pc
              cases b with
              | bool b =>
                refine ⟨F, hK, G3, Γ1, st2, b, st3, R4, hc, fun H4 G4 E4 => ?_⟩
                exact go b st3 H4 G4 (by simp only [lcTest, hc]) E4 (R4.step E4)
              | _ => simp only [lcTest, hc] at hl; cases hl
      · rintro H2 ⟨_, G2, st2, acc, vacc, rest, E2, hg2, hd2, ra, _, hl, hsplit⟩
        rw [List.drop_length] at hl
        simp only [lcLoop] at hl
        obtain ⟨rfl, rfl⟩ := Prod.mk.inj (Option.some.inj hl)
        rw [List.append_nil] at hsplit
        subst hsplit
        have hpH : H D = none := by
          cases hh : H D with
          | none => rfl
          | some o =>
            have := E1.kp D o hh hDpn
            rw [hD] at this; cases this
        exact q D vacc H2 G2 (Ext.trans' (σ := σ) (Γ := Γ) E1 E2) hpH hg2 hd2 ra
    · cases hev
section
variable {X : Cx} {elt tg it : Expr} {ifs : List Expr} {scope : Scope} {own : List (Str × Nat)} {pos : Pos} {ei : EvI} {t : Tg} {c : Option EvE} {el : EvE}
/-- the tests of a clause: none or one -/
def SnC (X : Cx) (ifs : List Expr) (c : Option EvE) : Prop := PTs X ifs (tCx X.K c)
theorem sc_none : SnC X [] none := pts_nil
theorem sc_one {e : Expr} {ev : EvE} (h : Sn X e ev) : SnC X [e] (some ev) := pts_one (pt_x h)
theorem sf_lc (hc : X.calm = true) (hN : X.N.Nodup) (hi : SnI X tg it ei) (ok : BlkOk X.N X.env.scope scope own) (hv : ∀ i ∈ tgS t, i ∈ own.map (·.2))
    (hg : ∀ (s : Shared) (H : Hp) (C : Addr) (cl : List (Str × Addr)) (fp : List Addr), SnT (X.blk s H scope (compEnvC scope cl C X.env) fp) tg t) (ht : ∀ (s : Shared) (H : Hp) (C : Addr) (cl : List (Str × Addr)) (fp : List Addr), SnC (X.blk s H scope (compEnvC scope cl C X.env) fp) ifs c)
    (he : ∀ (s : Shared) (H : Hp) (C : Addr) (cl : List (Str × Addr)) (fp : List Addr), SnE (X.blk s H scope (compEnvC scope cl C X.env) fp) elt el) (hs : ∀ x, foldedSetIterable it X.env x = pure x) :
    SnF X (.ListComp elt [⟨tg, it, ifs, 0⟩] scope pos) (evLc ei t c el (own.map (·.2))) := fun F hK =>
  peC (pe_lc (g := tGx X.K t) (tt := tCx X.K c) (te := tEx X.K el) hc hN (hi F hK) ok (fun s H C cl fp => pg_x (hg s H C cl fp)) (fun s H C cl fp => ht s H C cl fp) (fun s H C cl fp => pe_x (he s H C cl fp)) hs) fun σ H Q q => tLc_of hK hv q
/-- name = [..], the comprehension's list as it is; top: how it is taken -/
theorem ss_lcOwn {i : Nat} {y : Str} {py spos : Pos} (L : List Nat) (hc : X.calm = true) (hN : X.N.Nodup) (hy : X.N[i]? = some y) (hyl : X.env.scope.names.lookup y = some .local)
    (hsw : swapsWith (.ListComp elt [⟨tg, it, ifs, 0⟩] scope pos) (some (.Name y py)) spos.line X.env = pure true) (hi : SnI X tg it ei) (ok : BlkOk X.N X.env.scope scope own) (hv : ∀ i ∈ tgS t, i ∈ own.map (·.2))
    (hg : ∀ (s : Shared) (H : Hp) (C : Addr) (cl : List (Str × Addr)) (fp : List Addr), SnT (X.blk s H scope (compEnvC scope cl C X.env) fp) tg t) (ht : ∀ (s : Shared) (H : Hp) (C : Addr) (cl : List (Str × Addr)) (fp : List Addr), SnC (X.blk s H scope (compEnvC scope cl C X.env) fp) ifs c)
    (he : ∀ (s : Shared) (H : Hp) (C : Addr) (cl : List (Str × Addr)) (fp : List Addr), SnE (X.blk s H scope (compEnvC scope cl C X.env) fp) elt el) (hs : ∀ x, foldedSetIterable it X.env x = pure x) :
    SnS X (.Assign [.Name y py] (.ListComp elt [⟨tg, it, ifs, 0⟩] scope pos) spos) (esOwn i (evFzF L (evLc ei t c el (own.map (·.2))))) := ⟨fun pins s σ H D I q => by
  obtain ⟨F, hK, G, Γ, st, r, R, hev, q⟩ := q
  unfold esOwn evFzF at hev
  cases h1 : evLc ei t c el (own.map (·.2)) (frzBy L.contains 0 Γ) st with
  | none => simp only [h1] at hev; cases hev
  | some p1 =>
    obtain ⟨ds, st1⟩ := p1
    simp only [h1] at hev
    cases hev
    obtain ⟨sm, R1⟩ := R.frz L.contains
    refine (ps_setLc (g := tGx X.K t) (tt := tCx X.K c) (te := tEx X.K el) hc hN hy hyl hsw (hi F hK) ok (fun s H C cl fp => pg_x (hg s H C cl fp)) (fun s H C cl fp => ht s H C cl fp) (fun s H C cl fp => pe_x (he s H C cl fp)) hs).run pins s σ H D I ?_
    refine tLc_of hK hv ⟨_, _, st, ds, st1, R1, h1, fun p vs H' G' E hp hg' hh r => ?_⟩
    have h0 : F.H0 p = none := by
      cases hh2 : F.H0 p with
      | none => rfl
      | some o =>
        obtain ⟨o', z⟩ := R.h0 hh2
        rw [hp] at z
        cases z
    have hpn : some p ≠ F.pn := fun e => by
      obtain ⟨o, z⟩ := R.pen.some_of e.symm
      rw [hp] at z
      cases z
    exact q _ H' G' ((R1.step E).setOwn i h0 hpn hg' hh r fun j ys h1 h2 => own_new R hp j ys (frz_back h1) h2)⟩
/-- .. as data -/
def esLcD (i : Nat) (L : List Nat) (a : EvF) : EvS := fun Γ st => match a (frzBy L.contains 0 Γ) st with
  | some (ds, st1) => some (.nx ((frzBy L.contains 0 Γ).set i (some (.d (.list ds)))) st1)
  | none => none
theorem ss_lcD {i : Nat} {y : Str} {py spos : Pos} (L : List Nat) (hc : X.calm = true) (hN : X.N.Nodup) (hy : X.N[i]? = some y) (hyl : X.env.scope.names.lookup y = some .local)
    (hsw : swapsWith (.ListComp elt [⟨tg, it, ifs, 0⟩] scope pos) (some (.Name y py)) spos.line X.env = pure true) (hi : SnI X tg it ei) (ok : BlkOk X.N X.env.scope scope own) (hv : ∀ i ∈ tgS t, i ∈ own.map (·.2))
    (hg : ∀ (s : Shared) (H : Hp) (C : Addr) (cl : List (Str × Addr)) (fp : List Addr), SnT (X.blk s H scope (compEnvC scope cl C X.env) fp) tg t) (ht : ∀ (s : Shared) (H : Hp) (C : Addr) (cl : List (Str × Addr)) (fp : List Addr), SnC (X.blk s H scope (compEnvC scope cl C X.env) fp) ifs c)
    (he : ∀ (s : Shared) (H : Hp) (C : Addr) (cl : List (Str × Addr)) (fp : List Addr), SnE (X.blk s H scope (compEnvC scope cl C X.env) fp) elt el) (hs : ∀ x, foldedSetIterable it X.env x = pure x) :
    SnS X (.Assign [.Name y py] (.ListComp elt [⟨tg, it, ifs, 0⟩] scope pos) spos) (esLcD i L (evLc ei t c el (own.map (·.2)))) := ⟨fun pins s σ H D I q => by
  obtain ⟨F, hK, G, Γ, st, r, R, hev, q⟩ := q
  unfold esLcD at hev
  cases h1 : evLc ei t c el (own.map (·.2)) (frzBy L.contains 0 Γ) st with
  | none => simp only [h1] at hev; cases hev
  | some p1 =>
    obtain ⟨ds, st1⟩ := p1
    simp only [h1] at hev
    cases hev
    obtain ⟨sm, R1⟩ := R.frz L.contains
    refine (ps_setLc (g := tGx X.K t) (tt := tCx X.K c) (te := tEx X.K el) hc hN hy hyl hsw (hi F hK) ok (fun s H C cl fp => pg_x (hg s H C cl fp)) (fun s H C cl fp => ht s H C cl fp) (fun s H C cl fp => pe_x (he s H C cl fp)) hs).run pins s σ H D I ?_
    refine tLc_of hK hv ⟨_, _, st, ds, st1, R1, h1, fun p vs H' G' E hp hg' hh r => ?_⟩
    have hpn : some p ≠ F.pn := fun e => by
      obtain ⟨o, z⟩ := R.pen.some_of e.symm
      rw [hp] at z
      cases z
    have E' := E.freeze hp hg' hh hpn
    refine q _ H' _ ((R1.step E').set i (.lst upd_same (RpA.mono ?_ r)))
    intro b u hb
    have : b ≠ p := fun e => by subst e; rw [hg'] at hb; cases hb
    rw [upd_ne this]; exact hb⟩
end
end Mn
namespace Mn
open PySem PySem.Spec PyProof.Rows L2
/-! set(xs) of a list of ints -/
abbrev sOb (w : World) : Obj := { cls := .type "set", dict := none, data := .set #[] 0 (.fresh 0 0 (!w.params.followText "set-order")) }
set_option maxHeartbeats 3200000 in
theorem set_ofL {P : Program} {w : World} {A : Around} {E : Value → Shared → Prop} {s : Shared} {l : Addr} {items : Array Value} (ns : List Int) {Q : Value → Shared → Prop} (hh : A.handled = none) (hl : s.heap.IsList l items) (hit : IntsAre items.toList ns) (hb : ns.length + 1 < scanBound)
    (h : ∀ (h' : Heap) (tk c : Nat), SetR w h' s.heap.objs.size (fun j => decide (j ∈ ns)) c → (∀ b o, s.heap.get? b = some o → h'.get? b = some o) → Q (.ref s.heap.objs.size) { s with heap := h', toks := tk }) :
    wpAny (model P w) A (call (.type "set") [.ref l]) Q E s := by
  have hisz : items.size = ns.length := (Array.length_toList (xs := items)).symm.trans (IntsAre.length hit)
  obtain ⟨c, tl, hmro⟩ := F.called_set.mro
  have m1 := F.called_set.made
  have m2 := F.called_set.sub
  refine wpAny_call ?_
  refine codeAny_of_tree ?_
  show wpAny _ _ (callAny (.type "set") _) _ _ _
  refine wpAny_pure ⟨Code.quiet_builtin _ (by decide +kernel), ?_⟩
  refine codeAny_builtin F.entry_type_call ?_
  rw [Around.under_plain (weight_type_call_type "set" [.ref l] []) rfl]
  have m3 := F.called_set.notType
  have m4 := F.called_set.canCreate
  have m5 := F.typeCall_set_1 (.ref l)
  repeat (any_goals (first | assumption | wp_step))
  refine codeAny_mono (code_set_led1 (.ref l) (E := E) (Q₁ := fun obj s₁ => obj = .ref s.heap.objs.size ∧ s₁ = { s with heap := s.heap.push (sOb w) }) ⟨rfl, rfl⟩) fun r s₁ hr => ?_
  cases r with
  | error e => exact hr
  | ok fl =>
    cases fl with
    | ret obj =>
      obtain ⟨rfl, rfl⟩ := hr
      have hS : (s.heap.push (sOb w)).get? s.heap.objs.size = some (sOb w) := Heap.get?_push_size _ rfl
      have hT : Shared.TypeIs { s with heap := s.heap.push (sOb w) } (.ref s.heap.objs.size) "set" := ⟨_, hS, rfl⟩
      have n1 := F.called_set.init.lookup
      have n2 := F.called_set.init.bind (.ref s.heap.objs.size)
      repeat (any_goals (first | assumption | wp_step))
      let W1 : Value → Shared → Prop := fun r s₂ => r = .none ∧ ∃ h' tk c, s₂ = { s with heap := h', toks := tk } ∧ SetR w h' s.heap.objs.size (fun j => decide (j ∈ ns)) c ∧ ∀ b o, s.heap.get? b = some o → h'.get? b = some o
      refine codeAny_mono (codeAny_call_builtin (R := wants W1 E) F.called_set.init.plain F.entry_set_init (check_set_init_1 hT ?_)) fun r₂ s₂ hr₂ => ?_
      · obtain ⟨ol, hol, hcl, nl, hdl⟩ := hl
        obtain ⟨oc, od, oda, osl⟩ := ol
        simp only at hcl hdl
        subst hcl
        subst hdl
        have hol' : (s.heap.push (sOb w)).get? l = some { cls := .type "list", dict := od, data := .seq items nl, slots := osl } := Heap.get?_push_of_some _ hol
        have f1 := F.sub_list_set
        have f2 := F.sub_list_frozenset
        have f3 : (Value.type "list" == Value.type "dict") = false := by decide
        have hl1 : (s.heap.push (sOb w)).IsList l items := ⟨_, hol', rfl, nl, rfl⟩
        unfold Builtin.«set.__init__» noKeywords Builtin.Frozenset.updateFrom
        generalize hPI : pyIter = PI
        wp_walk
        subst hPI
        refine wpAny_pyIter_list hl1 ?_
        refine wpAny_bind ?_
        refine wpAny_runValue ?_
        have lt := Heap.lt_size hol
        have a3 : A.in1.in1.in1.handled = none := hh
        have zz : (s.heap.push (sOb w)).objs.size = s.heap.objs.size + 1 := Heap.size_push ..
        have ne1 : l ≠ (s.heap.push (sOb w)).objs.size := by
          rw [zz]
          exact Nat.ne_of_lt (Nat.lt_succ_of_lt lt)
        have ne2 : s.heap.objs.size ∉ [(s.heap.push (sOb w)).objs.size, l] := by
          rw [zz]
          intro z
          rcases List.mem_cons.mp z with z | z
          · exact absurd z (Nat.ne_of_lt (Nat.lt_succ_self _))
          · exact absurd (List.mem_singleton.mp z) (Nat.ne_of_gt lt)
        have hval : ∀ (i : Nat) (v : Value), items[i]? = some v → ∃ k t, ns[i]? = some k ∧ v = .int k t := fun i v hv => by
          have hi : i < ns.length := hisz ▸ (Array.getElem?_eq_some_iff.mp hv).1
          obtain ⟨t, e⟩ := IntsAre.int_at hit i v (by rw [Array.getElem?_toList]; exact hv)
          refine ⟨ns[i], t, List.getElem?_eq_getElem hi, ?_⟩
          rw [e, List.getD_eq_getElem?_getD, List.getElem?_eq_getElem hi]
          rfl
        refine set_update_ints ((Walks.list a3 _ l ne1 items).toS) s.heap.objs.size ne2 ns hisz hb hval (items.size - 0) 0 _ (Nat.sub_zero _).symm.symm (Nat.zero_le _) ⟨⟨_, Heap.get?_push_size _ rfl, rfl, rfl⟩, hl1.push _⟩ ?hS0 ?hR
        case hS0 => exact ⟨0, Nat.le_refl 0, setR_new_at (Heap.get?_push_of_some _ hS)⟩
        case hR =>
          intro s' c' hm hc' hS'
          obtain ⟨h', g2, d', tk', os'⟩ := s'
          have eg : g2 = s.gens := hm.gens
          have ed : d' = s.drawn := hm.drawn
          have eo : os' = s.os := hm.os
          subst eg ed eo
          show wpAny _ _ _ _ _ _
          refine wpAny_pure ?_
          show wpAny _ _ (ret Value.none) _ _ _
          refine wpAny_pure ⟨rfl, h', tk', c', rfl, hS', fun b o e => ?_⟩
          have b0 := Heap.lt_size e
          refine hm.heap b o (fun z => ?_) (Heap.get?_push_of_some _ (Heap.get?_push_of_some _ e))
          rcases List.mem_cons.mp z with z | z
          · exact absurd z (Nat.ne_of_lt b0)
          · have z2 := List.mem_singleton.mp z
            rw [zz] at z2
            exact absurd z2 (Nat.ne_of_lt (Nat.lt_succ_of_lt b0))
      · cases r₂ with
        | error e => exact hr₂
        | ok f2 =>
          cases f2 with
          | ret z =>
            obtain ⟨rfl, h', tk, c', rfl, hS', hk'⟩ := hr₂
            repeat (any_goals (first | assumption | wp_step))
            exact h _ _ _ hS' hk'
          | _ => exact hr₂.elim
    | _ => exact hr.elim
end Mn
namespace Mn
open PySem PySem.Spec PyProof.Rows L2
def insU (k : Int) : List Int → List Int
  | [] => [k]
  | x :: xs => if k < x then k :: x :: xs else if k = x then x :: xs else x :: insU k xs
def srtU : List Int → List Int
  | [] => []
  | x :: xs => insU x (srtU xs)
theorem insU_mem (k j : Int) : ∀ xs : List Int, j ∈ insU k xs ↔ j = k ∨ j ∈ xs
  | [] => by simp [insU]
  | x :: xs => by
    unfold insU
    split
    · simp
    · split
      · rename_i h; subst h; simp
      · rw [List.mem_cons, insU_mem k j xs, List.mem_cons]
        constructor
        · rintro (h | h | h)
          · exact .inr (.inl h)
          · exact .inl h
          · exact .inr (.inr h)
        · rintro (h | h | h)
          · exact .inr (.inl h)
          · exact .inl h
          · exact .inr (.inr h)
theorem srtU_mem (j : Int) : ∀ xs : List Int, j ∈ srtU xs ↔ j ∈ xs
  | [] => by simp [srtU]
  | x :: xs => by unfold srtU; rw [insU_mem, srtU_mem j xs, List.mem_cons]
theorem insU_sorted (k : Int) : ∀ xs : List Int, xs.Pairwise (· < ·) → (insU k xs).Pairwise (· < ·)
  | [], _ => List.pairwise_singleton _ _
  | x :: xs, h => by
    have hx := List.pairwise_cons.mp h
    unfold insU
    split
    · rename_i hk
      refine List.pairwise_cons.mpr ⟨fun y hy => ?_, h⟩
      rcases List.mem_cons.mp hy with e | hy
      · subst e; exact hk
      · exact Int.lt_trans hk (hx.1 y hy)
    · split
      · exact h
      · rename_i h1 h2
        refine List.pairwise_cons.mpr ⟨fun y hy => ?_, insU_sorted k xs hx.2⟩
        rcases (insU_mem k y xs).mp hy with e | hy
        · subst e; omega
        · exact hx.1 y hy
theorem srtU_sorted : ∀ xs : List Int, (srtU xs).Pairwise (· < ·)
  | [] => List.Pairwise.nil
  | x :: xs => insU_sorted x _ (srtU_sorted xs)
theorem nodup_of_lt {xs : List Int} (h : xs.Pairwise (· < ·)) : xs.Nodup := h.imp fun hab => Int.ne_of_lt hab
theorem srtU_of {ns xs : List Int} (h : xs.Pairwise (· < ·)) (hm : ∀ j, j ∈ xs ↔ j ∈ ns) : xs = srtU ns := by
  have p : xs.Perm (srtU ns) := (List.perm_ext_iff_of_nodup (nodup_of_lt h) (nodup_of_lt (srtU_sorted ns))).mpr fun j => by rw [hm, srtU_mem]
  exact sorted_one p (h.imp fun z => Int.le_of_lt z) ((srtU_sorted ns).imp fun z => Int.le_of_lt z)
theorem srtU_len {ns ks : List Int} (h : ks.Nodup) (hm : ∀ j, j ∈ ks ↔ j ∈ ns) : ks.length = (srtU ns).length := by
  have p : ks.Perm (srtU ns) := (List.perm_ext_iff_of_nodup h (nodup_of_lt (srtU_sorted ns))).mpr fun j => by rw [hm, srtU_mem]
  exact p.length_eq
/-- set(xs) of a list or tuple of ints -/
def rSetI (K : PySem.W.Frag) (w : World) : List V → Hp → VK → Prop := fun xs H Q => ∃ (p : Addr) (ns : List Int), xs = [.ref p] ∧ (SqL K H p (ns.map V.int) ∨ SqT K H p (ns.map V.int)) ∧ ns.length ≤ 4000 ∧
  ∀ a, H a = none → Q (.ref a) (upd H a (SetO w a (fun j => decide (j ∈ ns)) (srtU ns).length))
section
variable {X : Cx}
theorem setR_count {w : World} {h : Heap} {a : Addr} {ns : List Int} {c : Nat} (R : SetR w h a (fun j => decide (j ∈ ns)) c) : c = (srtU ns).length := by
  obtain ⟨o, es, ep, t, ho, hx, hd, g, nd, hm, hb, hf, hn, r⟩ := R
  have e := srtU_len (ns := ns) nd fun j => by rw [← hm j]; exact decide_eq_true_iff
  rw [← e, List.length_map, ← hn]
  exact Array.length_toList.symm
theorem d_set (hc : X.calm = true) : CallR X (.type "set") (rSetI X.K X.w) := by
  intro pins s σ H xs us Q I r h
  obtain ⟨p, ns, rfl, hs, hl, q⟩ := h
  rw [Vals.ref1 r]
  have bnd : ns.length + 1 < scanBound := by unfold scanBound; omega
  have fin : ∀ (h' : Heap) (tk c : Nat), SetR X.w h' s.heap.objs.size (fun j => decide (j ∈ ns)) c → (∀ b o, s.heap.get? b = some o → h'.get? b = some o) → EP X pins σ Q (.ref s.heap.objs.size) { s with heap := h', toks := tk } := fun h' tk c R k => by
    have e := setR_count R
    subst e
    exact ⟨.ref s.heap.objs.size, _, I.laid k (Nat.le_refl _) (setO_new R), rfl, q _ (I.hok.fresh (Nat.le_refl _))⟩
  rcases hs with hs | hs
  · obtain ⟨its, rv, pl, _⟩ := I.list hs
    exact set_ofL ns (I.ok.hd hc) pl.isList (by simpa using intsAre_of rv) bnd fin
  · obtain ⟨its, rv, pl, _⟩ := I.tuple hs
    exact call_set_tupI ns (I.ok.hd hc) pl (by simpa using intsAre_of rv) bnd fun h' tk c R _ k => fin h' tk c R k
/-- sorted(set(xs)), len(set(xs)) -/
def ddT : List (List Int) → List (List Int)
  | [] => []
  | x :: xs => if x ∈ xs then ddT xs else x :: ddT xs
theorem ddT_mem (k : List Int) : ∀ xs, k ∈ ddT xs ↔ k ∈ xs
  | [] => Iff.rfl
  | x :: xs => by
    have ih := ddT_mem k xs
    unfold ddT
    split
    · rename_i h
      rw [ih, List.mem_cons]
      exact ⟨.inr, fun z => z.elim (fun e => e ▸ h) id⟩
    · rw [List.mem_cons, List.mem_cons, ih]
theorem ddT_nodup : ∀ xs, (ddT xs).Nodup
  | [] => List.nodup_nil
  | x :: xs => by
    unfold ddT
    split
    · exact ddT_nodup xs
    · rename_i h
      exact List.nodup_cons.mpr ⟨fun z => h ((ddT_mem x xs).mp z), ddT_nodup xs⟩
def ssetT : PyData → Option (List PyData)
  | .list xs => match tupsD xs with
    | some ks => if tupsOk ks = true then some ((srtT (ddT ks)).map dTup) else none
    | none => none
  | _ => none
def ssetD (d : PyData) : Option (List PyData) := match itemsD d with
  | some xs => match intsD xs with
    | some ns => if ns.length < 64 then some ((srtU ns).map PyData.int) else none
    | none => ssetT d
  | none => none
def evSSet (a : EvE) : EvF := fun Γ st => match a Γ st with
  | some (d, st1) => match ssetD d with
    | some z => some (z, st1)
    | none => none
  | none => none
theorem CallR.or {X : Cx} {f : Value} {r1 r2 : List V → Hp → VK → Prop} (h1 : CallR X f r1) (h2 : CallR X f r2) : CallR X f fun xs H Q => r1 xs H Q ∨ r2 xs H Q := by
  intro pins s σ H xs us Q I r h
  exact h.elim (h1 pins s σ H xs us Q I r) (h2 pins s σ H xs us Q I r)
def evLSet (a : EvE) : EvE := fun Γ st => match a Γ st with
  | some (d, st1) => match itemsD d with
    | some xs => match intsD xs with
      | some ns => if ns.length ≤ 4000 then some (.int ((srtU ns).length : Nat), st1) else none
      | none => none
    | none => none
  | none => none
variable {e : Expr} {ea : EvE} {pos p p2 q : Pos}
theorem srtU_le : ∀ ns : List Int, (srtU ns).length ≤ ns.length
  | [] => Nat.le_refl _
  | x :: xs => by
    have h : ∀ (k : Int) (ys : List Int), (insU k ys).length ≤ ys.length + 1 := by
      intro k ys
      induction ys with
      | nil => exact Nat.le_refl _
      | cons y ys ih =>
        unfold insU
        split
        · exact Nat.le_refl _
        · split
          · exact Nat.le_succ _
          · rw [List.length_cons, List.length_cons]; omega
    unfold srtU
    have := h x (srtU xs)
    have := srtU_le xs
    rw [List.length_cons]
    omega
theorem seq_ints {K : PySem.W.Frag} {H G : Hp} (le : Same G H) {v : V} {d : PyData} {xs : List PyData} {ns : List Int} (h : Rp K G v d) (e : itemsD d = some xs) (e2 : intsD xs = some ns) : ∃ p, v = .ref p ∧ (SqL K H p (ns.map V.int) ∨ SqT K H p (ns.map V.int)) := by
  obtain ⟨p, vs, e3, hs, ha⟩ := seq_of le h e
  rw [RpA.intsD ha e2] at hs
  exact ⟨p, e3, hs⟩
theorem srtT_ddT {ks : List (List Int)} {L : List (Addr × List Int)} {d : Nat} (hd : ∀ k ∈ ks, k.length = d ∧ TS.Bd TB k) (nd : (L.map (·.2)).Nodup) (hm : ∀ k, k ∈ L.map (·.2) ↔ k ∈ ks) (hs : (L.map (·.2)).Pairwise LeT) : L.map (·.2) = srtT (ddT ks) := by
  have p : (L.map (·.2)).Perm (ddT ks) := (List.perm_ext_iff_of_nodup nd (ddT_nodup ks)).mpr fun k => by rw [hm, ddT_mem]
  exact srtT_one (fun k hk => hd k ((ddT_mem k ks).mp hk)) p hs
theorem sf_sset (hc : X.calm = true) (hu : X.A.units + 70 < cLine) (hg : Gl X "sorted") (hm : X.mg "sorted" = none) (hg2 : Gl X "set") (hm2 : X.mg "set" = none) (ha : SnE X e ea) (hs : starEach [e] X.env = (false, eval e X.env) :: starEach [] X.env) :
    SnF X (.Call (.Name "sorted" p) [.Call (.Name "set" p2) [e] [] q] [] pos) (evSSet ea) := fun F hK =>
  peC (pe_callB (CallR.or (cr_sortedSet hc) (cr_sortedT hc)) hg hm (by decide +kernel) (pa_cons (pe_callTy (CallR.or (d_set hc) (cr_setOfT hc (by omega))) hg2 hm2 (by decide +kernel) (pa_cons (ha F hK) pa_nil hs) (he := hs)) pa_nil)) fun σ H Q q => by
    obtain ⟨G, Γ, st, d', st', R, hev, q⟩ := q
    unfold evSSet at hev
    split at hev
    · rename_i d st1 h1
      split at hev
      · rename_i z hz
        obtain ⟨rfl, rfl⟩ := Prod.mk.inj (Option.some.inj hev)
        unfold ssetD at hz
        split at hz
        · rename_i xs h2
          split at hz
          · rename_i ns h3
            split at hz
            · rename_i hl
              cases hz
              refine ⟨G, Γ, st, d, _, R, h1, fun v H1 G1 E1 r1 => ?_⟩
              have R1 := R.step E1
              rw [hK] at r1
              obtain ⟨a, rfl, hsq⟩ := seq_ints R1.le r1 h2 h3
              refine .inl ⟨a, ns, rfl, hsq, by omega, fun b hb => ?_⟩
              refine .inl ⟨b, _, _, rfl, upd_same, by have := srtU_le ns; omega, fun ns' p' hp hm' hl hn => ?_⟩
              have e : ns' = srtU ns := srtU_of hp fun j => by rw [hm' j]; exact decide_eq_true_iff
              subst e
              have E2 := Ext.newH R1 (o := SetO X.w b (fun j => decide (j ∈ ns)) (srtU ns).length) hb
              exact fresh_of R (Ext.trans' (σ := σ) (Γ := Γ) E1 E2) (RpA.ofInts _) hn q
            · cases hz
          · cases d with
            | list ys =>
              simp only [ssetT] at hz
              cases hk : tupsD ys with
              | none => rw [hk] at hz; cases hz
              | some ks =>
                rw [hk] at hz
                dsimp only at hz
                split at hz
                · rename_i hok
                  cases hz
                  obtain ⟨o1, o2, o3⟩ := tupsOk_ok hok
                  refine ⟨G, Γ, st, _, _, R, h1, fun v H1 G1 E1 r1 => ?_⟩
                  have R1 := R.step E1
                  rw [hK] at r1
                  cases r1 with
                  | lst g ra =>
                    obtain ⟨ps, rfl, rfl, h3, h4⟩ := RpA.tups ra hk
                    refine .inr ⟨_, ps, rfl, SqL.of (R1.le _ _ g), fun p hp => SqT.of (R1.le _ _ (h4 p hp)), by rw [List.length_map] at o1; exact o1, fun b L hb hL1 hL2 => ?_⟩
                    have E2 := Ext.newH R1 (o := SetTO X.prog X.w b L) hb
                    have o4 : ∀ p ∈ L, p.2.length = len1 (ps.map (·.2)) ∧ TS.Bd TB p.2 := fun p hp => o3 p.2 (List.mem_map.mpr ⟨p, hL1 p hp, rfl⟩)
                    refine .inr ⟨b, L, _, TB, rfl, upd_same, fun p hp => ?_, o2, o4, fun L' p' pm nd _ pw hn => ?_⟩
                    · have hne : p.1 ≠ b := fun e => by
                        have := R1.le _ _ (h4 p (hL1 p hp))
                        rw [e, hb] at this; cases this
                      refine SqT.of ?_
                      rw [upd_ne hne]
                      exact R1.le _ _ (h4 p (hL1 p hp))
                    · have e : L'.map (·.2) = srtT (ddT (ps.map (·.2))) := by
                        refine srtT_ddT o3 nd (fun k => ?_) (List.pairwise_map.mpr pw)
                        rw [(pm.map (·.2)).mem_iff]
                        constructor
                        · intro hk'
                          obtain ⟨p, hp, rfl⟩ := List.mem_map.mp hk'
                          exact List.mem_map.mpr ⟨p, hL1 p hp, rfl⟩
                        · intro hk'
                          obtain ⟨p, hp, rfl⟩ := List.mem_map.mp hk'
                          exact hL2 p hp
                      have rr : RpA F.K G1 (L'.map fun p => V.ref p.1) ((srtT (ddT (ps.map (·.2)))).map dTup) := by
                        rw [← e, hK]
                        exact RpA.ofTups fun p hp => h3 p (hL1 p (pm.mem_iff.mp hp))
                      exact fresh_of R (Ext.trans' (σ := σ) (Γ := Γ) E1 E2) rr hn q
                · cases hz
            | _ => cases hz
        · cases hz
      · cases hev
    · cases hev
theorem se_lset (hc : X.calm = true) (hg : Gl X "len") (hm : X.mg "len" = none) (hg2 : Gl X "set") (hm2 : X.mg "set" = none) (ha : SnE X e ea) (hs : starEach [e] X.env = (false, eval e X.env) :: starEach [] X.env) :
    SnE X (.Call (.Name "len" p) [.Call (.Name "set" p2) [e] [] q] [] pos) (evLSet ea) := fun F hK => by
  have lenS : CallR X (.builtin "len") (fun xs H Q => ∃ a S n, xs = [.ref a] ∧ H a = some (SetO X.w a S n) ∧ Q (.int (n : Nat)) H) := by
    intro pins s σ H xs us Q I r h
    obtain ⟨a, S, n, rfl, ha, q⟩ := h
    rw [Vals.ref1 r]
    obtain ⟨o, es, ep, t, ho, hx, hd, _, _, _, hb, hf, hn, _⟩ := setO_get I ha
    have hb' : (es.size : Int) < 2 ^ 63 := by unfold scanBound at hb; omega
    exact call_len_set ho hx hd hf hb' ⟨.int (n : Nat), H, (I.tok _).tok _, ⟨_, by rw [hn]⟩, q⟩
  refine peC (pe_callB lenS hg hm (by decide +kernel) (pa_cons (pe_callTy (d_set hc) hg2 hm2 (by decide +kernel) (pa_cons (ha F hK) pa_nil hs) (he := hs)) pa_nil)) fun σ H Q q => ?_
  obtain ⟨G, Γ, st, d', st', R, hev, q⟩ := q
  unfold evLSet at hev
  split at hev
  · rename_i d st1 h1
    split at hev
    · rename_i xs h2
      split at hev
      · rename_i ns h3
        split at hev
        · rename_i hz
          obtain ⟨rfl, rfl⟩ := Prod.mk.inj (Option.some.inj hev)
          refine ⟨G, Γ, st, d, _, R, h1, fun v H1 G1 E1 r1 => ?_⟩
          have R1 := R.step E1
          rw [hK] at r1
          obtain ⟨a, rfl, hsq⟩ := seq_ints R1.le r1 h2 h3
          refine ⟨a, ns, rfl, hsq, hz, fun b hb => ?_⟩
          have E2 := Ext.newH R1 (o := SetO X.w b (fun j => decide (j ∈ ns)) (srtU ns).length) hb
          exact ⟨b, _, _, rfl, upd_same, q _ _ _ (Ext.trans' (σ := σ) (Γ := Γ) E1 E2) (.int _)⟩
        · cases hev
      · cases hev
    · cases hev
  · cases hev
end
end Mn
namespace Mn
open PySem PySem.Spec PyProof.Rows L2
/-! a, b = e1, e2 -/
inductive Cm where
  | ow (a : EvF)
  | da (a : EvE)
def evCm : Cm → Ev → Pn → Option (Sl × Pn)
  | .ow a, Γ, st => match a Γ st with
    | some (ds, st1) => some (.own ds, st1)
    | none => none
  | .da a, Γ, st => match a Γ st with
    | some (d, st1) => some (.d d, st1)
    | none => none
structure Pl (F : Fz) (σ : L2.St) (Γ : Ev) (H G : Hp) (v : V) (s : Sl) : Prop where
  ok : (∃ x, s = .d x ∧ Rp F.K G v x) ∨ ∃ a vs xs, s = .own xs ∧ v = .ref a ∧ F.H0 a = none ∧ some a ≠ F.pn ∧ G a = none ∧ H a = some (.lst vs) ∧ RpA F.K G vs xs ∧
    ∀ (j : Nat) (ys : List PyData), Γ[j]? = some (some (Sl.own ys)) → σ[j]? = some (some (V.ref a)) → False
theorem Pl.step {F : Fz} {σ : L2.St} {Γ : Ev} {H G H' G' : Hp} {v : V} {s : Sl} {st : Pn} (p : Pl F σ Γ H G v s) (E : Ext F.K F.pn F.pc H G H' G' st) : Pl F σ Γ H' G' v s := by
  refine ⟨?_⟩
  rcases p.ok with ⟨x, e, r⟩ | ⟨a, vs, xs, e, e2, h0, hp, hg, hh, r, ha⟩
  · exact .inl ⟨x, e, Rp.mono E.gg r⟩
  · exact .inr ⟨a, vs, xs, e, e2, h0, hp, by rw [E.fr a _ hh]; exact hg, E.kp a _ hh hp, RpA.mono E.gg r, ha⟩
theorem Rel.place {F : Fz} {σ : L2.St} {H G : Hp} {Γ : Ev} {st : Pn} (R : Rel F σ H G Γ st) (i : Nat) {v : V} {s : Sl} (p : Pl F σ Γ H G v s) : Rel F (σ.set i (some v)) H G (Γ.set i (some s)) st := by
  rcases p.ok with ⟨x, e, r⟩ | ⟨a, vs, xs, e, e2, h0, hp, hg, hh, r, ha⟩
  · subst e; exact R.set i r
  · subst e e2; exact R.setOwn i h0 hp hg hh r ha
def tCm (K : PySem.W.Frag) : Cm → TE
  | .ow a => fun σ H Q => ∃ F : Fz, F.K = K ∧ tF F a σ H Q
  | .da a => tEx K a
def SnM (X : Cx) (e : Expr) (c : Cm) : Prop := PE X e (tCm X.K c)
theorem sm_ow {X : Cx} {e : Expr} {a : EvF} (h : SnF X e a) : SnM X e (.ow a) := ⟨fun pins s σ H Q I q => by
  obtain ⟨F, hK, q⟩ := q
  exact (h F hK).run pins s σ H Q I q⟩
theorem sm_da {X : Cx} {e : Expr} {a : EvE} (h : SnE X e a) : SnM X e (.da a) := pe_x h
theorem tCm_of {K : PySem.W.Frag} {F : Fz} (hK : F.K = K) {c : Cm} {σ : L2.St} {H G : Hp} {Γ : Ev} {st st' : Pn} {s : Sl} {Q : VK} (R : Rel F σ H G Γ st) (he : evCm c Γ st = some (s, st'))
    (q : ∀ v H' G', Ext F.K F.pn F.pc H G H' G' st' → Pl F σ Γ H' G' v s → ((∃ xs, s = .own xs) → ∃ a, v = .ref a ∧ H a = none) → Q v H') : tCm K c σ H Q := by
  cases c with
  | da a =>
    simp only [evCm] at he
    split at he
    · rename_i d st1 h1
      obtain ⟨rfl, rfl⟩ := Prod.mk.inj (Option.some.inj he)
      exact ⟨F, hK, G, Γ, st, d, _, R, h1, fun v H' G' E r => q v H' G' E ⟨.inl ⟨d, rfl, r⟩⟩ fun z => by obtain ⟨xs, z⟩ := z; cases z⟩
    · cases he
  | ow a =>
    simp only [evCm] at he
    split at he
    · rename_i ds st1 h1
      obtain ⟨rfl, rfl⟩ := Prod.mk.inj (Option.some.inj he)
      refine ⟨F, hK, G, Γ, st, ds, _, R, h1, fun p vs H' G' E hp hg hh r => q _ H' G' E ⟨.inr ⟨p, vs, ds, rfl, rfl, ?_, ?_, hg, hh, r, fun j ys => own_new R hp j ys⟩⟩ fun _ => ⟨p, rfl, hp⟩⟩
      · cases hh2 : F.H0 p with
        | none => rfl
        | some o =>
          obtain ⟨o', z⟩ := R.h0 hh2
          rw [hp] at z
          cases z
      · exact fun e => by
          obtain ⟨o, z⟩ := R.pen.some_of e.symm
          rw [hp] at z
          cases z
    · cases he
def esPar (i j : Nat) (L : List Nat) (c1 c2 : Cm) : EvS := fun Γ st => match evCm c1 (frzBy L.contains 0 Γ) st with
  | some (s1, st1) => match evCm c2 (frzBy L.contains 0 Γ) st1 with
    | some (s2, st2) => some (.nx (((frzBy L.contains 0 Γ).set i (some s1)).set j (some s2)) st2)
    | none => none
  | none => none
section
variable {X : Cx} {a b : Expr} {c1 c2 : Cm} {x y : Str} {i j : Nat} {px py pt pos : Pos} {kt k2 : Nat} {pt2 : Pos}
theorem ss_par (L : List Nat) (hc : X.calm = true) (hN : X.N.Nodup) (hi : X.N[i]? = some x) (hj : X.N[j]? = some y) (hij : i ≠ j) (hx : X.env.scope.names.lookup x = some .local) (hy : X.env.scope.names.lookup y = some .local) (h1 : SnM X a c1) (h2 : SnM X b c2)
    (hs1 : starEach [a, b] X.env = (false, eval a X.env) :: starEach [b] X.env) (hs2 : starEach [b] X.env = (false, eval b X.env) :: starEach [] X.env)
    (hw : swappedStores [.Tuple [.Name x px, .Name y py] kt pt] (.Tuple [a, b] k2 pt2) X.env = pure (some [x, y])) :
    SnS X (.Assign [.Tuple [.Name x px, .Name y py] kt pt] (.Tuple [a, b] k2 pt2) pos) (esPar i j L c1 c2) := ⟨fun pins s σ H D I q => by
  obtain ⟨F, hK, G, Γ, st, r, R, hev, q⟩ := q
  unfold esPar at hev
  split at hev
  · rename_i s1 st1 e1
    split at hev
    · rename_i s2 st2 e2
      cases hev
      obtain ⟨sm, R0⟩ := R.frz L.contains
      refine (ps_par hc hN hi hj hij hx hy (pa_cons h1 (pa_cons h2 pa_nil hs2) hs1) hw).run pins s σ H D I ?_
      refine tCm_of hK R0 e1 fun v1 H1 G1 E1 p1 f1 => ?_
      refine tCm_of hK (R0.step E1) e2 fun v2 H2 G2 E2 p2 f2 => ?_
      refine ⟨v1, v2, rfl, q _ H2 G2 ?_⟩
      have p1' := p1.step E2
      refine (((R0.step E1).step E2).place i p1').place j ⟨?_⟩
      rcases p2.ok with ⟨d, e, rp⟩ | ⟨p, vs, xs, e, ev, h0, hp, hg, hh, rp, ha⟩
      · exact .inl ⟨d, e, rp⟩
      · refine .inr ⟨p, vs, xs, e, ev, h0, hp, hg, hh, rp, fun k ys g1 g2 => ?_⟩
        rw [List.getElem?_set] at g1 g2
        by_cases hik : i = k
        · subst hik
          rw [if_pos rfl] at g1 g2
          by_cases hl : i < (frzBy L.contains 0 Γ).length
          · rw [if_pos hl] at g1
            rw [if_pos (by rw [← R0.len]; exact hl)] at g2
            cases g1
            cases g2
            obtain ⟨p', e', hp1⟩ := f2 ⟨xs, e⟩
            rw [ev] at e'
            cases e'
            rcases p1.ok with ⟨d, z, _⟩ | ⟨p', vs', xs', _, z, _, _, _, z2, _⟩
            · cases z
            · cases z
              rw [hp1] at z2
              cases z2
          · rw [if_neg hl] at g1
            cases g1
        · rw [if_neg hik] at g1 g2
          exact ha k ys g1 g2
    · cases hev
  · cases hev⟩
end
/-- -n -/
def evNeg (a : EvE) : EvE := fun Γ st => match a Γ st with
  | some (.int i, st1) => some (.int (-i), st1)
  | _ => none
theorem se_neg {X : Cx} {a : Expr} {ea : EvE} {pos : Pos} (h : SnE X a ea) : SnE X (.UnaryOp .USub a pos) (evNeg ea) := fun F hK =>
  peC (pe_un un_neg (h F hK)) fun σ H Q q => by
    obtain ⟨G, Γ, st, d', st', R, hev, q⟩ := q
    unfold evNeg at hev
    split at hev
    · rename_i i st1 h1
      obtain ⟨rfl, rfl⟩ := Prod.mk.inj (Option.some.inj hev)
      refine ⟨G, Γ, st, _, _, R, h1, fun v H1 G1 E1 r1 => ?_⟩
      cases r1
      exact ⟨i, rfl, q _ H1 G1 E1 (.int _)⟩
    · cases hev
theorem sw_par {env : Env} {x y : Str} {px py pt : Pos} {kt k2 : Nat} {pt2 : Pos} {a b : Expr} (hk : env.scope.kind = .function) (hx : env.scope.names.lookup x = some .local) (hy : env.scope.names.lookup y = some .local) (hl : (py.line == px.line) = true) (hxy : (x == y) = false)
    (h1 : (match a with | .Starred .. => true | _ => false) = false) (h2 : (match b with | .Starred .. => true | _ => false) = false) (h3 : (foldedForSure 8 a && foldedForSure 8 b) = false) (h4 : (constantsAlone 8 a && constantsAlone 8 b) = false) :
    swappedStores [.Tuple [.Name x px, .Name y py] kt pt] (.Tuple [a, b] k2 pt2) env = pure (some [x, y]) := by
  have kx : env.kindOf x = some .local := hx
  have ky : env.kindOf y = some .local := hy
  have hb : env.blockKind = .function := by unfold Env.blockKind; rw [hk]; rfl
  have hyx : (y == x) = false := by
    cases hh : (y == x) with
    | false => rfl
    | true =>
      have := eq_of_beq hh
      subst this
      rw [beq_self_eq_true] at hxy
      cases hxy
  unfold swappedStores
  simp [kx, ky, hb, Expr.pos, hl, h1, h2, h3, h4, List.eraseDups_cons, hxy, hyx]
  have hl' : py.line = px.line := by simpa using hl
  split
  · cases h1
  · simp [ky, hl', hyx, List.filter_cons]
    split
    · cases h2
    · simp [List.eraseDups_cons]
end Mn
namespace Mn
open PySem PySem.Spec PyProof.Rows L2
/-! more operators -/
section
variable {X : Cx}
def mulOkB (i j : Int) : Bool := decide ((-(2 ^ 64) < i ∧ i < 2 ^ 64) ∨ (-(2 ^ 64) < j ∧ j < 2 ^ 64))
theorem tmul_same (p : Addr) (its : Array Value) (cap : Nat) (dd : Option Addr) (sl : Array (Option Value)) (k : Int) (u : Tok) (b0 : (decide (k < -(2 ^ 63)) || decide (k ≥ 2 ^ 63)) = false) (b1 : (its.isEmpty || k == 1) = true) :
    Meets (Builtin.«tuple.__mul__» ⟨[.ref p, .int k u], []⟩) (fun _ R s => s.heap.get? p = some { cls := .type "tuple", dict := dd, data := .seq its cap, slots := sl } ∧ R (.ok (.ret (Value.ref p))) s) :=
  .of_wp fun prog w A R s hyp => by
    obtain ⟨hh, gg, drw, tks, osx⟩ := s
    obtain ⟨at_, go⟩ := hyp
    have ix := AutoSeq1.idx_int
    wp_walk using wpAny_loadPart' at_
    repeat (first
      | (refine wpAny_ite_false (decide_eq_false (by rw [b0]; exact Bool.false_ne_true)) ?_; wp_walk using wpAny_loadPart' at_)
      | (refine wpAny_ite_true (decide_eq_true b1) ?_; wp_walk using wpAny_loadPart' at_))
    exact ⟨_, rfl, go⟩
theorem tmul_none (p : Addr) (its : Array Value) (cap : Nat) (dd : Option Addr) (sl : Array (Option Value)) (k : Int) (u : Tok) (b0 : (decide (k < -(2 ^ 63)) || decide (k ≥ 2 ^ 63)) = false) (b1 : (its.isEmpty || k == 1) = false) (b2 : (decide (k ≤ 0) || its.isEmpty) = true) :
    Meets (Builtin.«tuple.__mul__» ⟨[.ref p, .int k u], []⟩) (fun _ R s => s.heap.get? p = some { cls := .type "tuple", dict := dd, data := .seq its cap, slots := sl } ∧ R (.ok (.ret (Value.ref s.heap.objs.size))) { s with heap := s.heap.push { cls := Value.type "tuple", data := Data.seq #[] }, toks := s.toks }) :=
  .of_wp fun prog w A R s hyp => by
    obtain ⟨hh, gg, drw, tks, osx⟩ := s
    obtain ⟨at_, go⟩ := hyp
    have ix := AutoSeq1.idx_int
    wp_walk using wpAny_loadPart' at_
    repeat (first
      | (refine wpAny_ite_false (decide_eq_false (by rw [b0]; exact Bool.false_ne_true)) ?_; wp_walk using wpAny_loadPart' at_)
      | (refine wpAny_ite_false (decide_eq_false (by rw [b1]; exact Bool.false_ne_true)) ?_; wp_walk using wpAny_loadPart' at_)
      | (refine wpAny_ite_true (decide_eq_true b2) ?_; wp_walk using wpAny_loadPart' at_))
    exact ⟨_, rfl, go⟩
theorem RpA.rep {K : PySem.W.Frag} {G : Hp} {vs : List V} {ds : List PyData} (h : RpA K G vs ds) : ∀ n : Nat, RpA K G (List.replicate n vs).flatten (List.replicate n ds).flatten
  | 0 => .nil
  | n + 1 => by
    rw [List.replicate_succ, List.replicate_succ, List.flatten_cons, List.flatten_cons]
    exact RpA.append h (RpA.rep h n)
def mulTB (n : Nat) (k : Int) : Bool := decide (0 ≤ k ∧ k ≤ 1000 ∧ n ≤ 1000)
def gMulI := gInt mulOkB fun i j => .int (i * j)
def gMul : PyData → PyData → Option PyData
  | .tuple xs, .int k => if mulTB xs.length k then some (.tuple (List.replicate k.toNat xs).flatten) else none
  | d, e => gMulI d e
def rMulT (K : PySem.W.Frag) : R2 := fun x y H Q => ∃ l k xs, x = .ref l ∧ y = .int k ∧ SqT K H l xs ∧ 0 ≤ k ∧ k ≤ 1000 ∧ xs.length ≤ 1000 ∧ (xs = [] ∨ k = 1 → Q (.ref l) H) ∧ (¬ (xs = [] ∨ k = 1) → ∀ p, H p = none → Q (.ref p) (upd H p (.tup (List.replicate k.toNat xs).flatten)))
theorem op_mulT : OpR X (binaryOp .Mult) (rMulT X.K) := by
  intro pins s σ H x y v u Q I rx ry h
  obtain ⟨l, k, xs, rfl, rfl, tup, k0, k1, few, qs, qn⟩ := h
  by_cases big : xs ≠ [] ∧ 2 ≤ k
  · exact op_repT pins s σ H _ _ v u Q I rx ry ⟨l, k, xs, rfl, rfl, tup, big.1, big.2, k1, few, qn fun z => z.elim big.1 fun e => by omega⟩
  cases rx
  obtain ⟨tk, rfl⟩ := ry
  obtain ⟨its, r, ⟨⟨oc, dd, od, sl⟩, at_, hc, cap, hd⟩, _⟩ := I.tuple tup
  simp only at hc hd
  subst hc hd
  have len : its.length = xs.length := r.length.symm
  have b0 : (decide (k < -(2 ^ 63)) || decide (k ≥ 2 ^ 63)) = false := by
    have e1 : decide (k < -(2 ^ 63)) = false := decide_eq_false (by omega)
    have e2 : decide (k ≥ 2 ^ 63) = false := decide_eq_false (by omega)
    rw [e1, e2]; rfl
  by_cases same : xs = [] ∨ k = 1
  · have b1 : (its.toArray.isEmpty || k == 1) = true := by
      rcases same with e | e
      · have : its = [] := List.eq_nil_of_length_eq_zero (by rw [len, e]; rfl)
        subst this
        rfl
      · subst e
        simp
    refine wpAny_binaryOp_repeat_ref (T := "tuple") (U := "int") (by decide) ⟨_, at_, rfl⟩ (fun s' => typeIs_int s' k tk) noFill_tuple_mul F.fills_int_mul F.slot_int_rmul repeat_tuple F.slot_int_index.lookup
      (call_meets F.slot_int_rmul (typeIs_int s k tk) F.entry_int_rmul (F.args_int_rmul_2 _ _) (int_rmul_tuple k tk l its.toArray cap dd sl)
        ⟨at_, rfl, ⟨_, at_, rfl⟩, call_meets F.slot_tuple_mul ⟨_, at_, rfl⟩ F.entry_tuple_mul (F.args_tuple_mul_2 _ _) (tmul_same l its.toArray cap dd sl k tk b0 b1) ⟨at_, ?_⟩⟩)
    exact ⟨.ref l, H, I, rfl, qs same⟩
  · have hn : xs ≠ [] := fun e => same (.inl e)
    have e0 : k = 0 := by
      rcases Int.lt_or_le k 2 with z | z
      · have : k ≠ 1 := fun e => same (.inr e)
        omega
      · exact absurd ⟨hn, z⟩ big
    subst e0
    have he : its.toArray.isEmpty = false := by
      cases its with
      | nil => exact absurd (List.eq_nil_of_length_eq_zero len.symm) hn
      | cons a b => rfl
    refine wpAny_binaryOp_repeat_ref (T := "tuple") (U := "int") (by decide) ⟨_, at_, rfl⟩ (fun s' => typeIs_int s' 0 tk) noFill_tuple_mul F.fills_int_mul F.slot_int_rmul repeat_tuple F.slot_int_index.lookup
      (call_meets F.slot_int_rmul (typeIs_int s 0 tk) F.entry_int_rmul (F.args_int_rmul_2 _ _) (int_rmul_tuple 0 tk l its.toArray cap dd sl)
        ⟨at_, rfl, ⟨_, at_, rfl⟩, call_meets F.slot_tuple_mul ⟨_, at_, rfl⟩ F.entry_tuple_mul (F.args_tuple_mul_2 _ _) (tmul_none l its.toArray cap dd sl 0 tk b0 (by rw [he]; rfl) (by rfl)) ⟨at_, ?_⟩⟩)
    refine ⟨.ref s.heap.objs.size, _, I.laid (t' := s.toks) (o := .tup []) (fun b ob z => Heap.get?_push_of_some _ z) (Nat.le_refl _) ?_, rfl, qn same _ (I.hok.fresh (Nat.le_refl _))⟩
    exact ⟨Nat.zero_le _, [], .nil, IsTup.new _ _⟩
theorem d_mul : OpR X (binaryOp .Mult) (r2 X.K gMul) := by
  intro pins s σ H x y v u Q I rx ry h
  obtain ⟨G, d, e, r, le, hd, he, hg, q⟩ := h
  by_cases ht : ∃ xs k, d = .tuple xs ∧ e = .int k
  · obtain ⟨xs, k, rfl, rfl⟩ := ht
    cases hd with
    | tup h1 a1 =>
      cases he
      simp only [gMul] at hg
      split at hg
      · rename_i hz
        cases hg
        have hz := of_decide_eq_true hz
        refine op_mulT pins s σ H _ _ v u Q I rx ry ⟨_, _, _, rfl, rfl, SqT.of (le _ _ h1), hz.1, hz.2.1, by rw [RpA.length a1]; exact hz.2.2, fun z => ?_, fun z p hp => ?_⟩
        · refine q _ H G (Nw.refl le) ?_
          rcases z with z | z
          · subst z
            cases a1
            rw [show (List.replicate k.toNat ([] : List PyData)).flatten = [] by simp]
            exact .tup h1 .nil
          · subst z
            simp
            exact .tup h1 a1
        · exact q _ _ _ (Nw.new le hp) (.tup upd_same (RpA.mono (Nw.new le hp).gg (RpA.rep a1 _)))
      · cases hg
  · have hg' : gMulI d e = some r := by
      cases d <;> cases e <;> first | exact hg | (exact absurd ⟨_, _, rfl, rfl⟩ ht)
    obtain ⟨i, j, G, rfl, rfl, le, hc, q⟩ := r2_int (X := X) (x := x) (y := y) (H := H) (Q := Q) ⟨G, d, e, r, le, hd, he, hg', q⟩
    exact op_mul pins s σ H _ _ v u Q I rx ry ⟨i, j, rfl, rfl, of_decide_eq_true (p := (-(2 ^ 64) < i ∧ i < 2 ^ 64) ∨ (-(2 ^ 64) < j ∧ j < 2 ^ 64)) hc, q _ H G (Nw.refl le) (.int _)⟩
def powOkB (i j : Int) : Bool := decide (0 ≤ j ∧ j ≤ 1000000 ∧ i.natAbs < 2 ^ 64)
def gPow := gInt powOkB fun i j => .int (i ^ j.toNat)
theorem d_pow : OpR X (binaryOp .Pow) (r2 X.K gPow) := by
  intro pins s σ H x y v u Q I rx ry h
  obtain ⟨i, j, G, rfl, rfl, le, hc, q⟩ := r2_int h
  exact op_pow pins s σ H _ _ v u Q I rx ry ⟨i, j, rfl, rfl, of_decide_eq_true (p := 0 ≤ j ∧ j ≤ 1000000 ∧ i.natAbs < 2 ^ 64) hc, q _ H G (Nw.refl le) (.int _)⟩
/-! the pen's parts -/
def penD (k : Int) (st : Pn) : Option PyData := if k = 0 then some (.list (st.cells.map PyData.int)) else if k = 1 then some (.int st.seat) else if k = 2 then some (.int st.rest) else none
def evPix (i : Nat) (k : Int) : EvE := fun Γ st => match Γ[i]? with
  | some (some .pen) => match penD k st with
    | some d => some (d, st)
    | none => none
  | _ => none
theorem se_pix {a b : Expr} {i : Nat} {k : Int} {pos : Pos} (hv : PE X a (tVar i)) (hk : PE X b (tC (.int k))) (hs : PlainIx b) : SnE X (.Subscript a b pos) (evPix i k) := fun F hK =>
  peC (pe_ix ix_list hv hk hs) fun σ H Q q => by
    obtain ⟨G, Γ, st, d', st', R, hev, q⟩ := q
    unfold evPix at hev
    split at hev
    · rename_i hx
      split at hev
      · rename_i d hd
        obtain ⟨rfl, rfl⟩ := Prod.mk.inj (Option.some.inj hev)
        obtain ⟨v, hv, p, hp, e⟩ := R.slot i _ hx
        subst e
        have P := R.pen
        unfold PenOk at P
        rw [hp] at P
        obtain ⟨h1, h2, h3⟩ := P
        refine ⟨_, hv, ?_⟩
        unfold penD at hd
        have fin : ∀ {w : V}, atI [V.ref F.pc, V.int st.seat, V.int st.rest] k = some w → Rp F.K G w d → rIxL X.K (V.ref p) (V.int k) H Q := fun {w} hw r =>
          ⟨p, _, k, w, rfl, rfl, SqL.of h2, hw, q w H G (Ext.refl R) r⟩
        split at hd
        · rename_i e
          subst e
          cases hd
          exact fin (w := .ref F.pc) rfl (.lst h3 (RpA.ofInts _))
        · split at hd
          · rename_i e
            subst e
            cases hd
            exact fin (w := .int st.seat) rfl (.int _)
          · split at hd
            · rename_i e
              subst e
              cases hd
              exact fin (w := .int st.rest) rfl (.int _)
            · cases hd
      · cases hev
    · cases hev
def penPut (k : Int) (z : Int) (st : Pn) : Option Pn := if k = 1 then some ⟨st.cells, z, st.rest⟩ else if k = 2 then some ⟨st.cells, st.seat, z⟩ else none
theorem Rel.penSet {F : Fz} {σ : L2.St} {H G : Hp} {Γ : Ev} {st st' : Pn} (R : Rel F σ H G Γ st) {p : Addr} (hp : F.pn = some p) (hc : st'.cells = st.cells) : Rel F σ (upd H p (.lst [.ref F.pc, .int st'.seat, .int st'.rest])) G Γ st' := by
  have P := R.pen
  unfold PenOk at P
  rw [hp] at P
  obtain ⟨h1, h2, h3⟩ := P
  refine ⟨fun b o h => ?_, R.g0, R.fresh, fun b o h n => ?_, ?_, fun i s h => ?_, R.disj, R.len⟩
  · have : b ≠ p := fun e => by subst e; rw [h1] at h; cases h
    rw [upd_ne this]; exact R.le b o h
  · have : b ≠ p := fun e => by subst e; exact n hp.symm
    rw [upd_ne this]; exact R.keep b o h n
  · unfold PenOk
    rw [hp]
    exact ⟨h1, upd_same, by rw [hc]; exact h3⟩
  · obtain ⟨v, hv, q⟩ := R.slot i s h
    refine ⟨v, hv, ?_⟩
    cases s with
    | own xs =>
      obtain ⟨a, vs, e, q0, q1, q2, q3, q4⟩ := q
      have : a ≠ p := fun e => by subst e; exact q1 hp.symm
      exact ⟨a, vs, e, q0, q1, q2, by rw [upd_ne this]; exact q3, q4⟩
    | d x => exact q
    | pen => exact q
    | scr ns => exact q
def esPset (i : Nat) (k : Int) (a : EvT) : EvS := fun Γ st => match a Γ st with
  | some (.int z, Γ1, st1) => match Γ1[i]? with
    | some (some .pen) => match penPut k z st1 with
      | some st2 => some (.nx Γ1 st2)
      | none => none
    | _ => none
  | _ => none
theorem ss_pset {e o b : Expr} {ep : EvT} {i : Nat} {k : Int} {pos tpos : Pos} (h : SnP X e ep) (hv : PE X o (tVar i)) (hk : PE X b (tC (.int k)))
    (ha : ∀ v, assign (.Subscript o b tpos) X.env v = (do
      let ov ← holding [v] (eval o X.env)
      let iv ← holding [v, ov] (eval b X.env)
      standAt tpos
      holding [v, ov, iv] (setItem ov iv v)
      release [v, ov, iv] []))
    (hs : swapsWithSole [.Subscript o b tpos] e pos.line X.env = pure false) (hw : swappedStores [.Subscript o b tpos] e X.env = pure none) : SnS X (.Assign [.Subscript o b tpos] e pos) (esPset i k ep) :=
  psC (ps_asg h (pg_sub hv hk set_list ha) hs hw rfl) fun D σ H q => by
    obtain ⟨F, hK, G, Γ, st, r, R, hev, q⟩ := q
    unfold esPset at hev
    split at hev
    · rename_i z Γ1 st1 he
      split at hev
      · rename_i hx
        split at hev
        · rename_i st2 hp2
          cases hev
          refine ⟨F, hK, G, Γ, st, _, _, _, R, he, fun v H' G' R' _ rp => ?_⟩
          cases rp
          obtain ⟨w, hw, p, hp, e⟩ := R'.slot i _ hx
          subst e
          have P := R'.pen
          unfold PenOk at P
          rw [hp] at P
          obtain ⟨h1, h2, h3⟩ := P
          refine ⟨_, hw, ?_⟩
          unfold penPut at hp2
          split at hp2
          · rename_i e
            subst e
            cases hp2
            exact ⟨p, _, 1, 1, rfl, rfl, h2, rfl, q _ _ _ (R'.penSet (st' := ⟨st1.cells, z, st1.rest⟩) hp rfl)⟩
          · split at hp2
            · rename_i e
              subst e
              cases hp2
              exact ⟨p, _, 2, 2, rfl, rfl, h2, rfl, q _ _ _ (R'.penSet (st' := ⟨st1.cells, st1.seat, z⟩) hp rfl)⟩
            · cases hp2
        · cases hev
      · cases hev
    · cases hev
/-! the script's length -/
def evLenS (i : Nat) : EvE := fun Γ st => match Γ[i]? with
  | some (some (.scr ns)) => some (.int ns.length, st)
  | _ => none
theorem se_lenS {a : Expr} {i : Nat} {p pos : Pos} (hg : Gl X "len") (hm : X.mg "len" = none) (hv : PE X a (tVar i)) (hs : starEach [a] X.env = [(false, eval a X.env)]) : SnE X (.Call (.Name "len" p) [a] [] pos) (evLenS i) := fun F hK =>
  peC (pe_callB call_len_seq hg hm (by decide +kernel) (pa_cons hv pa_nil hs) (by decide) (by decide) hs (by rfl)) fun σ H Q q => by
    obtain ⟨G, Γ, st, d', st', R, hev, q⟩ := q
    unfold evLenS at hev
    split at hev
    · rename_i ns hx
      obtain ⟨rfl, rfl⟩ := Prod.mk.inj (Option.some.inj hev)
      obtain ⟨v, hv, a, e, h⟩ := R.slot i _ hx
      subst e
      have sq : SqL X.K H a (ns.map V.int) := by
        rw [← hK]
        obtain ⟨o, ⟨h, hn⟩ | h⟩ := h
        · exact .inl (.inr ⟨o, R.keep a _ h hn⟩)
        · rcases h with (h | ⟨o, h⟩) | h
          · cases h
          · cases h
          · exact .inr h
      exact ⟨_, hv, a, ns.map V.int, rfl, .inl sq, by rw [List.length_map]; exact q _ H G (Ext.refl R) (.int _)⟩
    · cases hev
/-! list(range(n)) -/
def evLRg (a : EvE) : EvF := fun Γ st => match a Γ st with
  | some (.int j, st1) => if -(2 ^ 62) ≤ j ∧ j ≤ LIM then some (rngD 0 j.toNat, st1) else none
  | _ => none
theorem rpa_rng {K : PySem.W.Frag} {G : Hp} {j : Int} : RpA K G (rgV 0 j) (rngD 0 j.toNat) := by
  unfold rgV rngD
  rw [show (j - 0).toNat = j.toNat by omega]
  generalize List.range j.toNat = l
  induction l with
  | nil => exact .nil
  | cons x xs ih => exact .cons (.int _) ih
theorem sf_lrg {a : Expr} {ea : EvE} {p p2 pos pos2 : Pos} (hc : X.calm = true) (hg : Gl X "list") (hm : X.mg "list" = none) (hg2 : Gl X "range") (hm2 : X.mg "range" = none) (ha : SnE X a ea) (hs : starEach [a] X.env = (false, eval a X.env) :: starEach [] X.env) :
    SnF X (.Call (.Name "list" p) [.Call (.Name "range" p2) [a] [] pos2] [] pos) (evLRg ea) := fun F hK =>
  peC (pe_listRg hc hg hm (prg_1 hg2 hm2 (ha F hK) hs) (by rfl)) fun σ H Q q => by
    obtain ⟨G, Γ, st, ds, st', R, hev, q⟩ := q
    unfold evLRg at hev
    split at hev
    · rename_i j st1 h1
      split at hev
      · rename_i hb
        obtain ⟨rfl, rfl⟩ := Prod.mk.inj (Option.some.inj hev)
        refine ⟨G, Γ, st, _, _, R, h1, fun v H1 G1 E1 r1 => ?_⟩
        cases r1
        refine ⟨j, rfl, ?_⟩
        have hb2 : j ≤ 1000000 := hb.2
        refine ⟨⟨by omega, by omega, hb.1, by omega, by omega⟩, fun p hp => ?_⟩
        exact fresh_of R E1 rpa_rng hp q
      · cases hev
    · cases hev
end
/-! for over a range: what is read of one's own stays one's own -/
def tItR (F : Fz) (ev : EvI) : TI := fun σ H R => ∃ G Γ st ds st', Rel F σ H G Γ st ∧ ev Γ st = some (ds, st') ∧ ∀ J H' G', Ext F.K F.pn F.pc H G H' G' st' → (∀ G, Wk F.K G J ds) → R J H'
def SnIR (X : Cx) (tg it : Expr) (ev : EvI) : Prop := ∀ F : Fz, F.K = X.K → PI X tg it (tItR F ev)
def esForR (it : EvI) (tg : Tg) (body : EvS) : EvS := fun Γ st => match it (frzBy allS 0 Γ) st with
  | some (ds, st1) => esLoop tg body ds Γ st1
  | none => none
section
variable {X : Cx} {tg e e2 : Expr} {ea eb : EvE} {pos p : Pos}
theorem sir_1 (hg : Gl X "range") (hm : X.mg "range" = none) (ha : SnE X e ea) (hs : starEach [e] X.env = [(false, eval e X.env)]) : SnIR X tg (.Call (.Name "range" p) [e] [] pos) (evRng1 ea) := fun F hK =>
  piC (pi_range1 hg hm (pa_cons (ha F hK) pa_nil hs) hs) fun σ H Q q => by
    obtain ⟨G, Γ, st, ds, st', R, hev, q⟩ := q
    unfold evRng1 at hev
    split at hev
    · rename_i j st1 h1
      split at hev
      · rename_i hb
        obtain ⟨rfl, rfl⟩ := Prod.mk.inj (Option.some.inj hev)
        refine ⟨G, Γ, st, _, _, R, h1, fun v H1 G1 E1 r1 => ?_⟩
        cases r1
        exact ⟨j, rfl, hb.1, hb.2, q _ H1 G1 E1 fun _ => wk_rng⟩
      · cases hev
    · cases hev
theorem sir_2 (hg : Gl X "range") (hm : X.mg "range" = none) (ha : SnE X e ea) (hb : SnE X e2 eb) (hs : starEach [e, e2] X.env = [(false, eval e X.env), (false, eval e2 X.env)]) (hs2 : starEach [e2] X.env = [(false, eval e2 X.env)]) : SnIR X tg (.Call (.Name "range" p) [e, e2] [] pos) (evRng2 ea eb) := fun F hK =>
  piC (pi_range2 hg hm (pa_cons (ha F hK) (pa_cons (hb F hK) pa_nil hs2) (by rw [hs, hs2])) hs hs2) fun σ H Q q => by
    obtain ⟨G, Γ, st, ds, st', R, hev, q⟩ := q
    unfold evRng2 at hev
    split at hev
    · rename_i i st1 h1
      split at hev
      · rename_i j st2 h2
        split at hev
        · rename_i hb
          obtain ⟨rfl, rfl⟩ := Prod.mk.inj (Option.some.inj hev)
          refine ⟨G, Γ, st, _, _, R, h1, fun v H1 G1 E1 r1 => ?_⟩
          cases r1
          refine ⟨G1, Γ, st1, _, _, R.step E1, h2, fun v H2 G2 E2 r2 => ?_⟩
          cases r2
          exact ⟨i, j, rfl, hb, q _ H2 G2 (Ext.trans' (σ := σ) (Γ := Γ) E1 E2) fun _ => wk_rng⟩
        · cases hev
      · cases hev
    · cases hev
theorem ss_forR {t it : Expr} {body : List Stmt} {tg : Tg} {ei : EvI} {eb : EvS} (hp : PassesOwn (model X.prog X.w) X.A X.env X.xe) (hc : X.calm = true) (hi : SnIR X t it ei) (ht : SnT X t tg) (hb : SnB X body eb) (hs : ∀ x, foldedSetIterable it X.env x = pure x) :
    SnS X (.For t it body [] pos) (esForR ei tg eb) := ⟨fun pins s σ H D I q => by
  obtain ⟨F, hK, G, Γ, st, r, R, hev, q⟩ := q
  unfold esForR at hev
  cases h1 : ei (frzBy allS 0 Γ) st with
  | none => rw [h1] at hev; cases hev
  | some p1 =>
    obtain ⟨ds, st1⟩ := p1
    simp only [h1] at hev
    obtain ⟨sm, R0⟩ := R.frz allS
    refine (ps_for hp hc (hi F hK) (pg_x ht) hb hs).run pins s σ H D I ⟨_, _, st, ds, st1, R0, h1, fun J H1 G1 E1 wk0 => ?_⟩
    have R1 := R.thaw sm (fun i xs b a1 a2 => frzG_all i xs b a1 a2) E1
    have wk := wk0 G
    have key : ∀ (i : Nat) (σ : L2.St) (H : Hp) (G' : Hp) (Γ' : Ev) (st' : Pn), Rel (F.at G) σ H G' Γ' st' → Same G H := fun i σ H G' Γ' st' R' b o h => R'.le b o (R'.g0 b o h)
    refine ⟨fun i m σ H => m = ds.length - i ∧ i ≤ ds.length ∧ ∃ G' Γ' st', Rel (F.at G) σ H G' Γ' st' ∧ esLoop tg eb (ds.drop i) Γ' st' = some r, ⟨ds.length, by simp, Nat.zero_le _, G, _, st1, R1.down, by simpa using hev⟩, ?_⟩
    rintro i m σ2 H2 ⟨rfl, hi, G', Γ', st', R', hl⟩
    by_cases hlt : i < ds.length
    · refine .inr ⟨wk.w.goes i H2 hlt (key i _ _ _ _ _ R'), fun σ' H' => ∃ G' Γ' st', Rel (F.at G) σ' H' G' Γ' st' ∧ esLoop tg eb (ds.drop (i + 1)) Γ' st' = some r, fun σ' H' n => ⟨ds.length - (i + 1), by omega, rfl, hlt, n⟩, fun x H3 y => ?_⟩
      obtain ⟨d, hd, yl⟩ := wk.w.yields i H2 x H3 hlt (key i _ _ _ _ _ R') y
      obtain ⟨G3, nw, rp⟩ := yl G' R'.g0 R'.le
      rw [drop_at hd] at hl
      simp only [esLoop] at hl
      cases h2 : asT tg d Γ' with
      | none => rw [h2] at hl; cases hl
      | some Γ1 =>
        simp only [h2] at hl
        refine ⟨F.at G, hK, G3, Γ', st', d, Γ1, R'.step (nw.ext R'), rp, h2, fun σ4 R4 _ => ?_⟩
        cases h3 : eb Γ1 st' with
        | none => rw [h3] at hl; cases hl
        | some r3 =>
          simp only [h3] at hl
          refine ⟨F.at G, hK, G3, Γ1, st', r3, R4, h3, ?_⟩
          cases r3 with
          | nx Γ2 st2 => exact fun σ5 H5 G5 R5 => ⟨G5, Γ2, st2, R5, hl⟩
          | ct Γ2 st2 => exact fun σ5 H5 G5 R5 => ⟨G5, Γ2, st2, R5, hl⟩
          | bk Γ2 st2 =>
            cases hl
            exact fun σ5 H5 G5 R5 => q σ5 H5 G5 (R1.up R5)
          | rt d2 st2 =>
            cases hl
            exact fun v5 H5 G5 F5 r5 => q v5 H5 G5 (Fin.up R1 F5) r5
    · have e : i = ds.length := by omega
      subst e
      rw [List.drop_length] at hl
      simp only [esLoop] at hl
      cases hl
      exact .inl ⟨wk.w.stops H2 (key 0 _ _ _ _ _ R'), q σ2 H2 G' (R1.up R')⟩⟩
end
end Mn
namespace Mn
open PySem PySem.Spec PyProof.Rows L2
/-! comprehensions of two clauses -/
def noOwn1 : Option Sl → Option Sl
  | some (.own _) => none
  | s => s
def NoOwn (Γ : Ev) : Prop := ∀ (i : Nat) (xs : List PyData), Γ[i]? = some (some (Sl.own xs)) → False
theorem noOwn_map (Γ : Ev) : NoOwn (Γ.map noOwn1) := fun i xs h => by
  rw [List.getElem?_map] at h
  obtain ⟨s, _, e⟩ := Option.map_eq_some_iff.mp h
  cases s with
  | none => cases e
  | some s => cases s <;> cases e
theorem Rel.noOwn {F : Fz} {σ : L2.St} {H G : Hp} {Γ : Ev} {st : Pn} (R : Rel F σ H G Γ st) : Rel F σ H G (Γ.map noOwn1) st where
  le := R.le
  g0 := R.g0
  fresh := R.fresh
  keep := R.keep
  pen := R.pen
  slot := fun i s h => by
    rw [List.getElem?_map] at h
    obtain ⟨s0, h0, e⟩ := Option.map_eq_some_iff.mp h
    have : s0 = some s := by
      cases s0 with
      | none => cases e
      | some s1 => cases s1 <;> first | exact e | cases e
    subst this
    exact R.slot i s h0
  disj := fun i j xs ys v _ h1 => (noOwn_map Γ i xs h1).elim
  len := by rw [List.length_map]; exact R.len
theorem NoOwn.set {Γ : Ev} (h : NoOwn Γ) (i : Nat) (d : PyData) : NoOwn (Γ.set i (some (.d d))) := fun j xs e => by
  rw [List.getElem?_set] at e
  split at e
  · split at e <;> cases e
  · exact h j xs e
mutual
theorem asT_noOwn : ∀ (tg : Tg) (d : PyData) (Γ Γ1 : Ev), NoOwn Γ → asT tg d Γ = some Γ1 → NoOwn Γ1
  | .nm i, d, Γ, Γ1, h, e => by
    simp only [asT] at e
    cases e
    exact h.set i d
  | .tup ts, d, Γ, Γ1, h, e => by
    cases d with
    | tuple ds =>
      simp only [asT] at e
      exact asTs_noOwn ts ds Γ Γ1 h e
    | _ => simp only [asT] at e; cases e
theorem asTs_noOwn : ∀ (ts : List Tg) (ds : List PyData) (Γ Γ1 : Ev), NoOwn Γ → asTs ts ds Γ = some Γ1 → NoOwn Γ1
  | [], ds, Γ, Γ1, h, e => by
    cases ds with
    | nil => simp only [asTs] at e; cases e; exact h
    | cons _ _ => simp only [asTs] at e; cases e
  | t :: ts, ds, Γ, Γ1, h, e => by
    cases ds with
    | nil => simp only [asTs] at e; cases e
    | cons d ds =>
      simp only [asTs] at e
      cases h2 : asT t d Γ with
      | none => rw [h2] at e; cases e
      | some Γ2 =>
        rw [h2] at e
        exact asTs_noOwn ts ds Γ2 Γ1 (asT_noOwn t d Γ Γ2 h h2) e
end
theorem wipeE_noOwn {Γ : Ev} (h : NoOwn Γ) (vs : List Nat) : NoOwn (wipeE Γ vs) := by
  induction vs with
  | nil => exact h
  | cons v vs ih =>
    intro j xs e
    unfold wipeE at e
    rw [List.getElem?_set] at e
    split at e
    · split at e <;> cases e
    · exact ih j xs e
/-- the same places at a later heap -/
theorem Rel.move {F : Fz} {σ σ2 : L2.St} {H G H3 G3 : Hp} {Γ Γ2 : Ev} {st st3 : Pn} (R : Rel F σ2 H3 G3 Γ2 st3) (no : NoOwn Γ2) (s : Same G3 G) (R' : Rel F σ H G Γ st) : Rel F σ2 H G Γ2 st where
  le := R'.le
  g0 := R'.g0
  fresh := R'.fresh
  keep := R'.keep
  pen := R'.pen
  slot := fun i sl h => by
    obtain ⟨v, hv, q⟩ := R.slot i sl h
    refine ⟨v, hv, ?_⟩
    cases sl with
    | d x => exact Rp.mono s q
    | own xs => exact (no i xs h).elim
    | pen => exact q
    | scr ns => exact q
  disj := fun i j xs ys v _ h1 => (no i xs h1).elim
  len := R.len
def lcLoop2 (tg : Tg) (c : Option EvE) (it1 : EvI) (tg1 : Tg) (c1 : Option EvE) (el : EvE) (vs1 : List Nat) (Γ : Ev) : List PyData → Pn → Option (List PyData × Pn)
  | [], st => some ([], st)
  | d :: ds, st => match asT tg d Γ with
    | some Γ1 => match lcTest c Γ1 st with
      | some (true, st1) => match it1 Γ1 st1 with
        | some (ds1, st2) => match lcLoop tg1 c1 el (wipeE Γ1 vs1) ds1 st2 with
          | some (xs, st3) => match lcLoop2 tg c it1 tg1 c1 el vs1 Γ ds st3 with
            | some (ys, st4) => some (xs ++ ys, st4)
            | none => none
          | none => none
        | none => none
      | some (false, st1) => lcLoop2 tg c it1 tg1 c1 el vs1 Γ ds st1
      | none => none
    | none => none
def evLc2 (it : EvI) (tg : Tg) (c : Option EvE) (it1 : EvI) (tg1 : Tg) (c1 : Option EvE) (el : EvE) (vs vs1 : List Nat) : EvF := fun Γ st => match it Γ st with
  | some (ds, st1) => match lcLoop2 tg c it1 tg1 c1 el vs1 (wipeE (Γ.map noOwn1) vs) ds st1 with
    | some (rs, st2) => if rs.length ≤ LIM then some (rs, st2) else none
    | none => none
  | none => none
def tIx (K : PySem.W.Frag) (ev : EvI) : TI := fun σ H R => ∃ F : Fz, F.K = K ∧ tIt F ev σ H R
theorem pi_x {X : Cx} {tg it : Expr} {ev : EvI} (h : SnI X tg it ev) : PI X tg it (tIx X.K ev) := ⟨fun pins s σ H R I q => by
  obtain ⟨F, hK, q⟩ := q
  exact (h F hK).run pins s σ H R I q⟩
/-- the list that is made, one thing more -/
theorem Ext.grow {F : Fz} {H1 G1 H G : Hp} {st : Pn} {D : Addr} {o : HO} (E : Ext F.K F.pn F.pc H1 G1 H G st) (hD : H1 D = none) (hg : G D = none) (hpn : some D ≠ F.pn) : Ext F.K F.pn F.pc H1 G1 (upd H D o) G st where
  gg := E.gg
  gh := fun b u z => by
    have : b ≠ D := fun e => by rw [e, hg] at z; cases z
    rw [upd_ne this]; exact E.gh b u z
  fr := E.fr
  kp := fun b u z n => by
    have : b ≠ D := fun e => by rw [e, hD] at z; cases z
    rw [upd_ne this]; exact E.kp b u z n
  pen := by
    have P := E.pen
    revert P
    unfold PenOk
    cases hq : F.pn with
    | none => exact fun P => P
    | some w =>
      rintro ⟨p1, p2, p3⟩
      have : w ≠ D := fun e => hpn (by rw [hq, e])
      exact ⟨p1, by rw [upd_ne this]; exact p2, p3⟩
/-- where the thing that is made stands -/
structure At (F : Fz) (ob : Addr → List V → HO) (H1 G1 : Hp) (D : Addr) (ds st' : _) (next : Pn → Option (List PyData × Pn)) (H : Hp) : Prop where
  ex : ∃ G st acc vacc rest, Ext F.K F.pn F.pc H1 G1 H G st ∧ G D = none ∧ H D = some (ob D vacc) ∧ RpA F.K G vacc acc ∧ next st = some (rest, (st' : Pn)) ∧ (ds : List PyData) = acc ++ rest
/-- two clauses, whatever is made of their elements: o0 at the start, AD adds one -/
def tAc2 (o0 : Addr → HO) (AD : Addr → V → Hp → (Hp → Prop) → Prop) (wi : TI) (g : TG) (tt : TT) (wi1 : TI) (g1 : TG) (tt1 : TT) (te : TE) (vs vs1 : List Nat) : TE := fun σ H Q =>
  wi σ H fun J H1 => ∀ D, H1 D = none →
    ∃ W : Nat → Nat → Hp → Prop, (∃ m, W 0 m (upd H1 D (o0 D))) ∧ ∀ i m H, W i m H →
    (J.stop i H ∧ Q (.ref D) H) ∨ (J.go i H ∧
      ∃ Nx : Hp → Prop, (∀ H', Nx H' → ∃ m', m' < m ∧ W (i + 1) m' H') ∧
      ∀ x H', J.yld i H x H' →
        g x (L2.wipe σ vs) H' fun σ2 H2 => L2.wipe σ2 vs = L2.wipe σ vs ∧ tt σ2 H2 fun b H3 =>
          if b = true then wi1 σ2 H3 fun J1 H4 =>
            ∃ W1 : Nat → Nat → Hp → Prop, (∃ m, W1 0 m H4) ∧ ∀ j k H, W1 j k H →
            (J1.stop j H ∧ Nx H) ∨ (J1.go j H ∧
              ∃ Nx1 : Hp → Prop, (∀ H', Nx1 H' → ∃ k', k' < k ∧ W1 (j + 1) k' H') ∧
              ∀ x H', J1.yld j H x H' →
                g1 x (L2.wipe σ2 vs1) H' fun σ3 H5 => L2.wipe σ3 vs1 = L2.wipe σ2 vs1 ∧ tt1 σ3 H5 fun b H6 =>
                  if b = true then te σ3 H6 fun y H7 => AD D y H7 Nx1 else Nx1 H6)
          else Nx H3)
theorem tAc2_of {K : PySem.W.Frag} {F : Fz} (hK : F.K = K) {o0 : Addr → HO} {ob : Addr → List V → HO} {AD : Addr → V → Hp → (Hp → Prop) → Prop} (h00 : ∀ D, ob D [] = o0 D)
    {ei ei1 : EvI} {tg tg1 : Tg} {c c1 : Option EvE} {el : EvE} {vs vs1 : List Nat} (hv : ∀ i ∈ tgS tg, i ∈ vs) (hv1 : ∀ i ∈ tgS tg1, i ∈ vs1) {σ : L2.St} {H G : Hp} {Γ : Ev} {st st1 st9 : Pn} {its rs : List PyData} {Q : VK}
    (R : Rel F σ H G Γ st) (h1 : ei Γ st = some (its, st1)) (h0 : lcLoop2 tg c ei1 tg1 c1 el vs1 (wipeE (Γ.map noOwn1) vs) its st1 = some (rs, st9))
    (hAD : ∀ D (vacc : List V) (acc : List PyData) v x rest G H (Nx : Hp → Prop), rs = acc ++ x :: rest → RpA F.K G vacc acc → Rp F.K G v x → H D = some (ob D vacc) → Nx (upd H D (ob D (vacc ++ [v]))) → AD D v H Nx)
    (q : ∀ D vacc H2 G2, Ext F.K F.pn F.pc H G H2 G2 st9 → H D = none → G2 D = none → H2 D = some (ob D vacc) → RpA F.K G2 vacc rs → Q (.ref D) H2) :
    tAc2 o0 AD (tIt F ei) (tGx K tg) (tCx K c) (tIx K ei1) (tGx K tg1) (tCx K c1) (tEx K el) vs vs1 σ H Q := by
    refine ⟨G, Γ, st, its, st1, R, h1, fun J H1 G1 E1 wk D hD => ?_⟩
    have R1 := (R.step E1).noOwn
    have hDpn : some D ≠ F.pn := fun e => by
      obtain ⟨o, h⟩ := R1.pen.some_of e.symm
      rw [hD] at h; cases h
    have hDG : G1 D = none := by
      cases h : G1 D with
      | none => rfl
      | some o => rw [R1.le _ _ h] at hD; cases hD
    have noΓ : NoOwn (wipeE (Γ.map noOwn1) vs) := wipeE_noOwn (noOwn_map Γ) vs
    refine ⟨fun i m H2 => m = its.length - i ∧ i ≤ its.length ∧ At F ob H1 G1 D rs st9 (fun s => lcLoop2 tg c ei1 tg1 c1 el vs1 (wipeE (Γ.map noOwn1) vs) (its.drop i) s) H2,
      ⟨its.length, by simp, Nat.zero_le _, ⟨G1, st1, [], [], rs, Ext.newH R1 hD, hDG, by rw [← h00]; exact upd_same, .nil, by simpa using h0, rfl⟩⟩, ?_⟩
    rintro i m H2 ⟨rfl, hi, ⟨G2, st2, acc, vacc, rest, E2, hg2, hd2, ra, hl, hsplit⟩⟩
    have same2 : Same G1 H2 := fun b o h => E2.gh b o (E2.gg b o h)
    by_cases hlt : i < its.length
    · refine .inr ⟨wk.w.goes i H2 hlt same2, At F ob H1 G1 D rs st9 (fun s => lcLoop2 tg c ei1 tg1 c1 el vs1 (wipeE (Γ.map noOwn1) vs) (its.drop (i + 1)) s), fun H' n => ⟨its.length - (i + 1), by omega, rfl, hlt, n⟩, fun x H3 y => ?_⟩
      obtain ⟨d, hd, yl⟩ := wk.w.yields i H2 x H3 hlt same2 y
      have R2 := R1.step E2
      obtain ⟨G3, nw, rp⟩ := yl G2 E2.gg E2.gh
      have E23 := nw.ext R2
      have R3 := (R2.step E23).wipe vs
      rw [drop_at hd] at hl
      simp only [lcLoop2] at hl
      cases h2 : asT tg d (wipeE (Γ.map noOwn1) vs) with
      | none => rw [h2] at hl; cases hl
      | some Γ1 =>
        have noΓ1 := asT_noOwn _ _ _ _ noΓ h2
        simp only [h2] at hl
        refine ⟨F, hK, G3, _, st2, d, Γ1, R3, rp, h2, fun σ4 R4 off => ⟨wipe_off off hv, ?_⟩⟩
        have E13 : Ext F.K F.pn F.pc H1 G1 H3 G3 st2 := Ext.trans' (σ := σ) (Γ := Γ.map noOwn1) E2 E23
        have d3 : H3 D = some (ob D vacc) := E23.kp D _ hd2 hDpn
        have g3 : G3 D = none := by rw [E23.fr D _ hd2]; exact hg2
        have go : ∀ (b : Bool) (st3 : Pn) (H4 G4 : Hp), lcTest c Γ1 st2 = some (b, st3) → Ext F.K F.pn F.pc H3 G3 H4 G4 st3 → Rel F σ4 H4 G4 Γ1 st3 →
            if b = true then tIx K ei1 σ4 H4 fun J1 H4 => ∃ W1 : Nat → Nat → Hp → Prop, (∃ m, W1 0 m H4) ∧ ∀ j k H, W1 j k H →
              (J1.stop j H ∧ At F ob H1 G1 D rs st9 (fun s => lcLoop2 tg c ei1 tg1 c1 el vs1 (wipeE (Γ.map noOwn1) vs) (its.drop (i + 1)) s) H) ∨ (J1.go j H ∧ ∃ Nx1 : Hp → Prop, (∀ H', Nx1 H' → ∃ k', k' < k ∧ W1 (j + 1) k' H') ∧ ∀ x H', J1.yld j H x H' → tGx K tg1 x (L2.wipe σ4 vs1) H' fun σ3 H5 => L2.wipe σ3 vs1 = L2.wipe σ4 vs1 ∧ tCx K c1 σ3 H5 fun b H6 =>
                if b = true then tEx K el σ3 H6 fun y H7 => AD D y H7 Nx1 else Nx1 H6)
            else At F ob H1 G1 D rs st9 (fun s => lcLoop2 tg c ei1 tg1 c1 el vs1 (wipeE (Γ.map noOwn1) vs) (its.drop (i + 1)) s) H4 := by
          intro b st3 H4 G4 ht E4 R4'
          have E14 : Ext F.K F.pn F.pc H1 G1 H4 G4 st3 := Ext.trans' (σ := σ) (Γ := Γ.map noOwn1) E13 E4
          have d4 : H4 D = some (ob D vacc) := E4.kp D _ d3 hDpn
          have g4 : G4 D = none := by rw [E4.fr D _ d3]; exact g3
          have ra4 : RpA F.K G4 vacc acc := RpA.mono (fun b o z => E4.gg b o (E23.gg b o z)) ra
          simp only [ht] at hl
          cases b with
          | false => exact iteF ⟨G4, st3, acc, vacc, rest, E14, g4, d4, ra4, hl, hsplit⟩
          | true =>
            refine iteT ?_
            cases h5 : ei1 Γ1 st3 with
            | none => simp only [h5] at hl; cases hl
            | some p5 =>
              obtain ⟨its1, st5⟩ := p5
              simp only [h5] at hl
              cases h6 : lcLoop tg1 c1 el (wipeE Γ1 vs1) its1 st5 with
              | none => simp only [h6] at hl; cases hl
              | some p6 =>
                obtain ⟨xs6, st6⟩ := p6
                simp only [h6] at hl
                cases h7 : lcLoop2 tg c ei1 tg1 c1 el vs1 (wipeE (Γ.map noOwn1) vs) (its.drop (i + 1)) st6 with
                | none => simp only [h7] at hl; cases hl
                | some p7 =>
                  obtain ⟨ys7, st7⟩ := p7
                  simp only [h7] at hl
                  obtain ⟨rfl, rfl⟩ := Prod.mk.inj (Option.some.inj hl)
                  refine ⟨F, hK, G4, Γ1, st3, its1, st5, R4', h5, fun J1 H5 G5 E5 wk1 => ?_⟩
                  have E15 : Ext F.K F.pn F.pc H1 G1 H5 G5 st5 := Ext.trans' (σ := σ) (Γ := Γ.map noOwn1) E14 E5
                  have R5 := R4'.step E5
                  have d5 : H5 D = some (ob D vacc) := E5.kp D _ d4 hDpn
                  have g5 : G5 D = none := by rw [E5.fr D _ d4]; exact g4
                  have ra5 : RpA F.K G5 vacc acc := RpA.mono E5.gg ra4
                  generalize hacc0 : acc = acc0 at *
                  have noΓ2 : NoOwn (wipeE Γ1 vs1) := wipeE_noOwn noΓ1 vs1
                  refine ⟨fun j k H => k = its1.length - j ∧ j ≤ its1.length ∧ ∃ G s acc' vacc' rest', Ext F.K F.pn F.pc H1 G1 H G s ∧ G D = none ∧ H D = some (ob D vacc') ∧ RpA F.K G vacc' acc' ∧ lcLoop tg1 c1 el (wipeE Γ1 vs1) (its1.drop j) s = some (rest', st6) ∧ acc0 ++ xs6 = acc' ++ rest' ∧ Same G5 G,
                    ⟨its1.length, by simp, Nat.zero_le _, G5, st5, acc0, vacc, xs6, E15, g5, d5, ra5, by simpa using h6, rfl, fun _ _ h => h⟩, ?_⟩
                  rintro j k H6 ⟨rfl, hj, G6, s6, acc', vacc', rest', E6, g6, d6, ra6, hl6, hs6, sm6⟩
                  have same6 : Same G5 H6 := fun b o h => E6.gh b o (sm6 b o h)
                  by_cases hjl : j < its1.length
                  · refine .inr ⟨wk1.w.goes j H6 hjl same6, fun H => j + 1 ≤ its1.length ∧ ∃ G s acc' vacc' rest', Ext F.K F.pn F.pc H1 G1 H G s ∧ G D = none ∧ H D = some (ob D vacc') ∧ RpA F.K G vacc' acc' ∧ lcLoop tg1 c1 el (wipeE Γ1 vs1) (its1.drop (j + 1)) s = some (rest', st6) ∧ acc0 ++ xs6 = acc' ++ rest' ∧ Same G5 G,
                      fun H' n => ⟨its1.length - (j + 1), by omega, rfl, n⟩, fun x1 H7 y1 => ?_⟩
                    obtain ⟨d1, hd1, yl1⟩ := wk1.w.yields j H6 x1 H7 hjl same6 y1
                    obtain ⟨G7, nw1, rp1⟩ := yl1 G6 sm6 E6.gh
                    have R6 := R1.step E6
                    have E67 := nw1.ext R6
                    have R7 := ((R5.move noΓ1 (fun b o h => E67.gg b o (sm6 b o h)) (R6.step E67)).wipe vs1)
                    rw [drop_at hd1] at hl6
                    simp only [lcLoop] at hl6
                    cases h8 : asT tg1 d1 (wipeE Γ1 vs1) with
                    | none => rw [h8] at hl6; cases hl6
                    | some Γ3 =>
                      simp only [h8] at hl6
                      refine ⟨F, hK, G7, _, s6, d1, Γ3, R7, rp1, h8, fun σ8 R8 off1 => ⟨wipe_off off1 hv1, ?_⟩⟩
                      have E17 : Ext F.K F.pn F.pc H1 G1 H7 G7 s6 := Ext.trans' (σ := σ) (Γ := Γ.map noOwn1) E6 E67
                      have d7 : H7 D = some (ob D vacc') := E67.kp D _ d6 hDpn
                      have g7 : G7 D = none := by rw [E67.fr D _ d6]; exact g6
                      have go1 : ∀ (b : Bool) (s8 : Pn) (H8 G8 : Hp), lcTest c1 Γ3 s6 = some (b, s8) → Ext F.K F.pn F.pc H7 G7 H8 G8 s8 → Rel F σ8 H8 G8 Γ3 s8 →
                          if b = true then tEx K el σ8 H8 fun y H9 => AD D y H9 (fun H => j + 1 ≤ its1.length ∧ ∃ G s acc' vacc' rest', Ext F.K F.pn F.pc H1 G1 H G s ∧ G D = none ∧ H D = some (ob D vacc') ∧ RpA F.K G vacc' acc' ∧ lcLoop tg1 c1 el (wipeE Γ1 vs1) (its1.drop (j + 1)) s = some (rest', st6) ∧ acc0 ++ xs6 = acc' ++ rest' ∧ Same G5 G)
                          else (fun H => j + 1 ≤ its1.length ∧ ∃ G s acc' vacc' rest', Ext F.K F.pn F.pc H1 G1 H G s ∧ G D = none ∧ H D = some (ob D vacc') ∧ RpA F.K G vacc' acc' ∧ lcLoop tg1 c1 el (wipeE Γ1 vs1) (its1.drop (j + 1)) s = some (rest', st6) ∧ acc0 ++ xs6 = acc' ++ rest' ∧ Same G5 G) H8 := by
                        intro b s8 H8 G8 ht8 E8 R8'
                        have E18 : Ext F.K F.pn F.pc H1 G1 H8 G8 s8 := Ext.trans' (σ := σ) (Γ := Γ.map noOwn1) E17 E8
                        have d8 : H8 D = some (ob D vacc') := E8.kp D _ d7 hDpn
                        have g8 : G8 D = none := by rw [E8.fr D _ d7]; exact g7
                        have sm8 : Same G5 G8 := fun b o h => E8.gg b o (E67.gg b o (sm6 b o h))
                        have ra8 : RpA F.K G8 vacc' acc' := RpA.mono (fun b o z => E8.gg b o (E67.gg b o z)) ra6
                        simp only [ht8] at hl6
                        cases b with
                        | false => exact iteF ⟨hjl, G8, s8, acc', vacc', rest', E18, g8, d8, ra8, hl6, hs6, sm8⟩
                        | true =>
                          refine iteT ?_
                          cases h9 : el Γ3 s8 with
                          | none => simp only [h9] at hl6; cases hl6
                          | some p9 =>
                            obtain ⟨x9, s9⟩ := p9
                            simp only [h9] at hl6
                            cases h10 : lcLoop tg1 c1 el (wipeE Γ1 vs1) (its1.drop (j + 1)) s9 with
                            | none => simp only [h10] at hl6; cases hl6
                            | some p10 =>
                              obtain ⟨xs10, s10⟩ := p10
                              simp only [h10] at hl6
                              obtain ⟨e11, rfl⟩ := Prod.mk.inj (Option.some.inj hl6)
                              refine ⟨F, hK, G8, Γ3, s8, x9, s9, R8', h9, fun v H9 G9 E9 r9 => ?_⟩
                              have d9 : H9 D = some (ob D vacc') := E9.kp D _ d8 hDpn
                              have g9 : G9 D = none := by rw [E9.fr D _ d8]; exact g8
                              have E19 : Ext F.K F.pn F.pc H1 G1 H9 G9 s9 := Ext.trans' (σ := σ) (Γ := Γ.map noOwn1) E18 E9
                              have ra9 := RpA.append (RpA.mono E9.gg ra8) (.cons r9 .nil)
                              refine hAD D vacc' acc' v x9 (xs10 ++ ys7) G9 H9 _ ?_ (RpA.mono E9.gg ra8) r9 d9 ⟨hjl, G9, s9, acc' ++ [x9], vacc' ++ [v], xs10, E19.grow hD g9 hDpn, g9, upd_same, ra9, h10, ?_, fun b o h => E9.gg b o (sm8 b o h)⟩
                              · rw [hsplit, ← List.append_assoc, hs6, ← e11, List.append_assoc]
                                rfl
                              · rw [hs6, ← e11, List.append_assoc]
                                rfl
                      cases c1 with
                      | none => exact go1 true s6 H7 G7 rfl (Ext.refl R8) R8
                      | some c1 =>
                        cases hc1 : c1 Γ3 s6 with
                        | none => simp only [lcTest, hc1] at hl6; cases hl6
                        | some pc1 =>
                          obtain ⟨b1, s8⟩ := pc1
                          cases b1 with
                          | bool b1 =>
                            refine ⟨F, hK, G7, Γ3, s6, b1, s8, R8, hc1, fun H8 G8 E8 => ?_⟩
                            exact go1 b1 s8 H8 G8 (by simp only [lcTest, hc1]) E8 (R8.step E8)
                          | _ => simp only [lcTest, hc1] at hl6; cases hl6
                  · have e : j = its1.length := by omega
                    subst e
                    rw [List.drop_length] at hl6
                    simp only [lcLoop] at hl6
                    obtain ⟨rfl, rfl⟩ := Prod.mk.inj (Option.some.inj hl6)
                    rw [List.append_nil] at hs6
                    refine .inl ⟨wk1.w.stops H6 same6, ⟨G6, _, acc', vacc', ys7, E6, g6, d6, ra6, h7, ?_⟩⟩
                    rw [← hs6, hsplit, List.append_assoc]
        cases c with
        | none => exact go true st2 H3 G3 rfl (Ext.refl R4) R4
        | some c =>
          cases hc : c Γ1 st2 with
          | none => simp only [lcTest, hc] at hl; cases hl
          | some pc =>
            obtain ⟨b, st3⟩ := pc
            cases b with
            | bool b =>
              refine ⟨F, hK, G3, Γ1, st2, b, st3, R4, hc, fun H4 G4 E4 => ?_⟩
              exact go b st3 H4 G4 (by simp only [lcTest, hc]) E4 (R4.step E4)
            | _ => simp only [lcTest, hc] at hl; cases hl
    · have e : i = its.length := by omega
      subst e
      rw [List.drop_length] at hl
      simp only [lcLoop2] at hl
      obtain ⟨rfl, rfl⟩ := Prod.mk.inj (Option.some.inj hl)
      rw [List.append_nil] at hsplit
      subst hsplit
      have hpH : H D = none := by
        cases hh : H D with
        | none => rfl
        | some o =>
          have := E1.kp D o hh hDpn
          rw [hD] at this; cases this
      exact .inl ⟨wk.w.stops H2 same2, q D vacc H2 G2 (Ext.trans' (σ := σ) (Γ := Γ) E1 E2) hpH hg2 hd2 ra⟩
theorem tLc2_of {K : PySem.W.Frag} {F : Fz} (hK : F.K = K) {ei ei1 : EvI} {tg tg1 : Tg} {c c1 : Option EvE} {el : EvE} {vs vs1 : List Nat} (hv : ∀ i ∈ tgS tg, i ∈ vs) (hv1 : ∀ i ∈ tgS tg1, i ∈ vs1) {σ : L2.St} {H : Hp} {Q : VK} (q : tF F (evLc2 ei tg c ei1 tg1 c1 el vs vs1) σ H Q) :
    tLc2 (tIt F ei) (tGx K tg) (tCx K c) (tIx K ei1) (tGx K tg1) (tCx K c1) (tEx K el) vs vs1 σ H Q := by
  obtain ⟨G, Γ, st, ds, st', R, hev, q⟩ := q
  unfold evLc2 at hev
  cases h1 : ei Γ st with
  | none => rw [h1] at hev; cases hev
  | some p1 =>
    obtain ⟨its, st1⟩ := p1
    simp only [h1] at hev
    cases h0 : lcLoop2 tg c ei1 tg1 c1 el vs1 (wipeE (Γ.map noOwn1) vs) its st1 with
    | none => simp only [h0] at hev; cases hev
    | some p0 =>
      obtain ⟨rs, st9⟩ := p0
      simp only [h0] at hev
      split at hev
      · rename_i hz
        obtain ⟨rfl, rfl⟩ := Prod.mk.inj (Option.some.inj hev)
        refine tAc2_of (o0 := fun _ => .lst []) (ob := fun _ vs => .lst vs) (AD := fun D y H7 Nx => ∃ acc, H7 D = some (.lst acc) ∧ acc.length < sizeLine ∧ Nx (upd H7 D (.lst (acc ++ [y])))) hK (fun _ => rfl) hv hv1 R h1 h0 (fun D vacc acc v x rest G2 H2 Nx e ra rv hD nx => ?_) q
        refine ⟨vacc, hD, lim_lt ?_, nx⟩
        rw [RpA.length ra]
        have e1 := congrArg List.length e
        rw [List.length_append] at e1
        omega
      · cases hev
section
variable {X : Cx} {elt tg it tg1 it1 : Expr} {ifs ifs1 : List Expr} {scope : Scope} {own : List (Str × Nat)} {pos : Pos} {ei ei1 : EvI} {t t1 : Tg} {c c1 : Option EvE} {el : EvE} {vs1 : List Nat}
theorem sf_lc2 (hc : X.calm = true) (hN : X.N.Nodup) (hi : SnI X tg it ei) (ok : BlkOk X.N X.env.scope scope own) (hv : ∀ i ∈ tgS t, i ∈ own.map (·.2)) (hv1 : ∀ i ∈ tgS t1, i ∈ vs1) (hw : ∀ i ∈ vs1, i ∈ own.map (·.2))
    (hg : ∀ (s : Shared) (H : Hp) (C : Addr) (cl : List (Str × Addr)) (fp : List Addr), SnT (X.blk s H scope (compEnvC scope cl C X.env) fp) tg t) (ht : ∀ (s : Shared) (H : Hp) (C : Addr) (cl : List (Str × Addr)) (fp : List Addr), SnC (X.blk s H scope (compEnvC scope cl C X.env) fp) ifs c)
    (hi1 : ∀ (s : Shared) (H : Hp) (C : Addr) (cl : List (Str × Addr)) (fp : List Addr), SnI (X.blk s H scope (compEnvC scope cl C X.env) fp) tg1 it1 ei1)
    (hg1 : ∀ (s : Shared) (H : Hp) (C : Addr) (cl : List (Str × Addr)) (fp : List Addr), SnT (X.blk s H scope (compEnvC scope cl C X.env) fp) tg1 t1) (ht1 : ∀ (s : Shared) (H : Hp) (C : Addr) (cl : List (Str × Addr)) (fp : List Addr), SnC (X.blk s H scope (compEnvC scope cl C X.env) fp) ifs1 c1)
    (he : ∀ (s : Shared) (H : Hp) (C : Addr) (cl : List (Str × Addr)) (fp : List Addr), SnE (X.blk s H scope (compEnvC scope cl C X.env) fp) elt el) (hs : ∀ x, foldedSetIterable it X.env x = pure x) (hs1 : ∀ env x, foldedSetIterable it1 env x = pure x) :
    SnF X (.ListComp elt [⟨tg, it, ifs, 0⟩, ⟨tg1, it1, ifs1, 0⟩] scope pos) (evLc2 ei t c ei1 t1 c1 el (own.map (·.2)) vs1) := fun F hK =>
  peC (pe_lc2 (g := tGx X.K t) (tt := tCx X.K c) (wi1 := tIx X.K ei1) (g1 := tGx X.K t1) (tt1 := tCx X.K c1) (te := tEx X.K el) hc hN (hi F hK) ok hw (fun s H C cl fp => pg_x (hg s H C cl fp)) (fun s H C cl fp => ht s H C cl fp) (fun s H C cl fp => pi_x (hi1 s H C cl fp)) (fun s H C cl fp => pg_x (hg1 s H C cl fp)) (fun s H C cl fp => ht1 s H C cl fp) (fun s H C cl fp => pe_x (he s H C cl fp)) hs hs1) fun σ H Q q => tLc2_of hK hv hv1 q
end
end Mn
namespace Mn
open PySem PySem.Spec PyProof.Rows L2
/-! zip of two lists, of two tuples -/
def pairD : List PyData → List PyData → List PyData
  | x :: xs, y :: ys => .tuple [x, y] :: pairD xs ys
  | _, _ => []
theorem pairD_len : ∀ xs ys : List PyData, (pairD xs ys).length = min xs.length ys.length
  | [], ys => by simp [pairD]
  | x :: xs, [] => by simp [pairD]
  | x :: xs, y :: ys => by
    simp only [pairD, List.length_cons, pairD_len xs ys]
    omega
theorem pairD_get : ∀ (xs ys : List PyData) (i : Nat) (x y : PyData), xs[i]? = some x → ys[i]? = some y → (pairD xs ys)[i]? = some (.tuple [x, y])
  | [], _, _, _, _, h, _ => by simp at h
  | _ :: _, [], _, _, _, _, h => by simp at h
  | x :: xs, y :: ys, 0, u, v, h1, h2 => by simp at h1 h2; subst h1 h2; rfl
  | x :: xs, y :: ys, i + 1, u, v, h1, h2 => by
    simp only [pairD, List.getElem?_cons_succ]
    exact pairD_get xs ys i u v (by simpa using h1) (by simpa using h2)
theorem walk_zipTup {K : PySem.W.Frag} {a b : Addr} {xs ys : List V} {n : Nat} (hn : n = min xs.length ys.length) : Walk (RZ.ItzT K a b) n (fun H => SqT K H a xs ∧ SqT K H b ys) (YPair (fun i => xs[i]?) (fun i => ys[i]?)) where
  goes := fun i H hi g => by
    have k1 : i < xs.length := by omega
    have k2 : i < ys.length := by omega
    exact ⟨xs, ys, xs[i], ys[i], g.1, g.2, List.getElem?_eq_getElem k1, List.getElem?_eq_getElem k2⟩
  stops := fun H g => ⟨xs, ys, g.1, g.2, by omega⟩
  yields := fun i H v H' _ g y => by
    obtain ⟨T, x, z, e1, e2, e3, f1, f2⟩ := y
    exact ⟨T, x, z, e1, e2, e3, f1 xs g.1, f2 ys g.2⟩
theorem wk_zipL {K : PySem.W.Frag} {G : Hp} {a b : Addr} {vs ws : List V} {ds es : List PyData} (h1 : G a = some (.lst vs)) (r1 : RpA K G vs ds) (h2 : G b = some (.lst ws)) (r2 : RpA K G ws es) : Wk K G (Itz K a b) (pairD ds es) := by
  refine ⟨?_⟩
  refine (walk_zip (xs := vs) (ys := ws) (by rw [pairD_len, RpA.length r1, RpA.length r2])).mono (fun H s => ⟨SqL.of (s _ _ h1), SqL.of (s _ _ h2)⟩) fun i H v H' hi s y => ?_
  obtain ⟨T, x, z, rfl, hT, e, hx, hz⟩ := y
  obtain ⟨d, ed, rd⟩ := RpA.getV r1 hx
  obtain ⟨d', ed', rd'⟩ := RpA.getV r2 hz
  exact ⟨_, pairD_get ds es i d d' ed ed', fun G1 s1 s2 => pair_new hT e s2 (Rp.mono s1 rd) (Rp.mono s1 rd')⟩
theorem wk_zipT {K : PySem.W.Frag} {G : Hp} {a b : Addr} {vs ws : List V} {ds es : List PyData} (h1 : G a = some (.tup vs)) (r1 : RpA K G vs ds) (h2 : G b = some (.tup ws)) (r2 : RpA K G ws es) : Wk K G (RZ.ItzT K a b) (pairD ds es) := by
  refine ⟨?_⟩
  refine (walk_zipTup (xs := vs) (ys := ws) (by rw [pairD_len, RpA.length r1, RpA.length r2])).mono (fun H s => ⟨SqT.of (s _ _ h1), SqT.of (s _ _ h2)⟩) fun i H v H' hi s y => ?_
  obtain ⟨T, x, z, rfl, hT, e, hx, hz⟩ := y
  obtain ⟨d, ed, rd⟩ := RpA.getV r1 hx
  obtain ⟨d', ed', rd'⟩ := RpA.getV r2 hz
  exact ⟨_, pairD_get ds es i d d' ed ed', fun G1 s1 s2 => pair_new hT e s2 (Rp.mono s1 rd) (Rp.mono s1 rd')⟩
def zipsD : PyData → PyData → Option (List PyData)
  | .list xs, .list ys => some (pairD xs ys)
  | .tuple xs, .tuple ys => some (pairD xs ys)
  | _, _ => none
def evZip (a b : EvE) : EvI := fun Γ st => match a Γ st with
  | some (d, st1) => match b Γ st1 with
    | some (e, st2) => match zipsD d e with
      | some xs => some (xs, st2)
      | none => none
    | none => none
  | none => none
section
variable {X : Cx} {e e2 : Expr} {ea eb : EvE} {pos p : Pos}
theorem si_zip {elts : List Expr} {kk : Nat} {tpos : Pos} (hg : Gl X "zip") (hm : X.mg "zip" = none) (ha : SnE X e ea) (hb : SnE X e2 eb) (hs : starEach [e, e2] X.env = (false, eval e X.env) :: starEach [e2] X.env) (hs2 : starEach [e2] X.env = [(false, eval e2 X.env)]) (hp : (backTo pos (starEach [e2] X.env)).any (·.1) = false) :
    SnI X (.Tuple elts kk tpos) (.Call (.Name "zip" p) [e, e2] [] pos) (evZip ea eb) := fun F hK =>
  piC (RZ.pi_zipA hg hm (pa_cons (ha F hK) (pa_cons (hb F hK) pa_nil hs2) hs) hs hp) fun σ H Q q => by
    obtain ⟨G, Γ, st, ds, st', R, hev, q⟩ := q
    unfold evZip at hev
    cases h1 : ea Γ st with
    | none => rw [h1] at hev; cases hev
    | some p1 =>
      obtain ⟨d, st1⟩ := p1
      simp only [h1] at hev
      cases h2 : eb Γ st1 with
      | none => simp only [h2] at hev; cases hev
      | some p2 =>
        obtain ⟨d2, st2⟩ := p2
        simp only [h2] at hev
        cases h3 : zipsD d d2 with
        | none => simp only [h3] at hev; cases hev
        | some zs =>
          simp only [h3] at hev
          obtain ⟨rfl, rfl⟩ := Prod.mk.inj (Option.some.inj hev)
          refine ⟨G, Γ, st, d, st1, R, h1, fun v H1 G1 E1 r1 => ?_⟩
          refine ⟨G1, Γ, st1, d2, st2, R.step E1, h2, fun v2 H2 G2 E2 r2 => ?_⟩
          have E12 := Ext.trans' (σ := σ) (Γ := Γ) E1 E2
          have r1' := Rp.mono E2.gg r1
          cases r1' with
          | lst k1 a1 =>
            cases r2 with
            | lst k2 a2 =>
              cases h3
              exact ⟨_, _, _, _, rfl, .inl ⟨SqL.of (E2.gh _ _ k1), SqL.of (E2.gh _ _ k2), by rw [← hK]; exact q _ H2 G2 E12 (wk_zipL k1 a1 k2 a2)⟩⟩
            | _ => cases h3
          | tup k1 a1 =>
            cases r2 with
            | tup k2 a2 =>
              cases h3
              exact ⟨_, _, _, _, rfl, .inr ⟨SqT.of (E2.gh _ _ k1), SqT.of (E2.gh _ _ k2), by rw [← hK]; exact q _ H2 G2 E12 (wk_zipT k1 a1 k2 a2)⟩⟩
            | _ => cases h3
          | _ => cases r2 <;> cases h3
end
/-- a pair of names, one of them a cell: stored as any tuple -/
theorem sw_cell {env : Env} {x y : Str} {px py pt : Pos} {kt k2 : Nat} {pt2 : Pos} {a b : Expr} (h : env.kindOf x = some .cell ∨ env.kindOf y = some .cell) :
    swappedStores [.Tuple [.Name x px, .Name y py] kt pt] (.Tuple [a, b] k2 pt2) env = pure none := by
  unfold swappedStores
  rcases h with h | h
  · by_cases hy : env.kindOf y = some .local ∧ py.line = px.line
    · simp [h, hy, Expr.pos, List.filterMap_cons]
    · have hy' : (env.kindOf y == some NameKind.local && py.line == px.line) = false := by
        cases e : (env.kindOf y == some NameKind.local && py.line == px.line) with
        | false => rfl
        | true =>
          rw [Bool.and_eq_true, beq_iff_eq, beq_iff_eq] at e
          exact absurd e hy
      simp [h, hy, hy', Expr.pos, List.filterMap_cons]
  · by_cases hy : env.kindOf x = some .local
    · simp [h, hy, Expr.pos, List.filterMap_cons]
    · have hy' : (env.kindOf x == some NameKind.local) = false := by
        cases e : (env.kindOf x == some NameKind.local) with
        | false => rfl
        | true => exact absurd (eq_of_beq e) hy
      simp [h, hy, hy', Expr.pos, List.filterMap_cons]
section
variable {X : Cx} {a b : Expr} {c1 c2 : Cm} {x y : Str} {i j : Nat} {px py pt pos : Pos} {kt k2 : Nat} {pt2 : Pos}
/-- the same end as a plain pair, by a tuple that nobody keeps -/
theorem ss_parT (L : List Nat) (hc : X.calm = true) (hN : X.N.Nodup) (hi : X.N[i]? = some x) (hj : X.N[j]? = some y) (hij : i ≠ j) (hx : Loc X.env.scope x) (hy : Loc X.env.scope y) (fx : X.fn x = true ∨ X.env.scope.names.lookup x = some .local) (fy : X.fn y = true ∨ X.env.scope.names.lookup y = some .local)
    (h1 : SnM X a c1) (h2 : SnM X b c2) (hs1 : starEach [a, b] X.env = (false, eval a X.env) :: starEach [b] X.env) (hs2 : starEach [b] X.env = (false, eval b X.env) :: starEach [] X.env)
    (hw : swappedStores [.Tuple [.Name x px, .Name y py] kt pt] (.Tuple [a, b] k2 pt2) X.env = pure none) :
    SnS X (.Assign [.Tuple [.Name x px, .Name y py] kt pt] (.Tuple [a, b] k2 pt2) pos) (esPar i j L c1 c2) := ⟨fun pins s σ H D I q => by
  obtain ⟨F, hK, G, Γ, st, r, R, hev, q⟩ := q
  unfold esPar at hev
  split at hev
  · rename_i s1 st1 e1
    split at hev
    · rename_i s2 st2 e2
      cases hev
      obtain ⟨sm, R0⟩ := R.frz L.contains
      refine (ps_asg (pe_tup (pa_cons h1 (pa_cons h2 pa_nil hs2) hs1)) (pg_tup hc (pgs_cons (pg_name hN hi hx fx) (pgs_cons (pg_name hN hj hy fy) pgs_nil))) (by unfold swapsWithSole; exact rfl) hw rfl).run pins s σ H D I ?_
      refine tCm_of hK R0 e1 fun v1 H1 G1 E1 p1 f1 => ?_
      have R1 := R0.step E1
      refine tCm_of hK R1 e2 fun v2 H2 G2 E2 p2 f2 => ?_
      have R2 := R1.step E2
      refine ⟨(by decide : (2 : Nat) ≤ sizeLine), fun T hT => ?_⟩
      have E3 := Ext.newH R2 (o := .tup [v1, v2]) hT
      refine ⟨T, [v1, v2], rfl, SqT.of upd_same, rfl, v1, [v2], rfl, v2, [], rfl, rfl, q _ _ G2 ?_⟩
      have p1' := (p1.step E2).step E3
      have p2' := p2.step E3
      refine ((R2.step E3).place i p1').place j ⟨?_⟩
      rcases p2'.ok with ⟨d, e, rp⟩ | ⟨p, vs, xs, e, ev, k0, hp, hg, hh, rp, ha⟩
      · exact .inl ⟨d, e, rp⟩
      · refine .inr ⟨p, vs, xs, e, ev, k0, hp, hg, hh, rp, fun k ys g1 g2 => ?_⟩
        rw [List.getElem?_set] at g1 g2
        by_cases hik : i = k
        · subst hik
          rw [if_pos rfl] at g1 g2
          by_cases hl : i < (frzBy L.contains 0 Γ).length
          · rw [if_pos hl] at g1
            rw [if_pos (by rw [← R0.len]; exact hl)] at g2
            cases g1
            cases g2
            obtain ⟨p', e', hp1⟩ := f2 ⟨xs, e⟩
            rw [ev] at e'
            cases e'
            rcases p1.ok with ⟨d, z, _⟩ | ⟨p', vs', xs', _, z, _, _, _, z2, _⟩
            · cases z
            · cases z
              rw [hp1] at z2
              cases z2
          · rw [if_neg hl] at g1
            cases g1
        · rw [if_neg hik] at g1 g2
          exact ha k ys g1 g2
    · cases hev
  · cases hev⟩
end
/-! an item of one's own list is set -/
def esOset (i : Nat) (tx a : EvT) : EvS := fun Γ st => match a Γ st with
  | some (d, Γ1, st1) => match Γ1[i]? with
    | some (some (.own _)) => match tx Γ1 st1 with
      | some (.int k, Γ2, st2) => match Γ2[i]? with
        | some (some (.own ys)) => match ixN ys.length k with
          | some j => some (.nx (Γ2.set i (some (.own (ys.set j d)))) st2)
          | none => none
        | _ => none
      | _ => none
    | _ => none
  | none => none
theorem RpA.set {K : PySem.W.Frag} {G : Hp} : ∀ {vs : List V} {ds : List PyData} (j : Nat) {v : V} {d : PyData}, RpA K G vs ds → Rp K G v d → RpA K G (vs.set j v) (ds.set j d)
  | _, _, _, _, _, .nil, _ => .nil
  | _, _, 0, _, _, .cons _ b, r => .cons r b
  | _, _, j + 1, _, _, .cons a b, r => .cons a (RpA.set j b r)
theorem ss_oset {X : Cx} {e o b : Expr} {ep tx : EvT} {i : Nat} {pos tpos : Pos} (h : SnP X e ep) (hv : PE X o (tVar i)) (hx : SnP X b tx)
    (ha : ∀ v, assign (.Subscript o b tpos) X.env v = (do
      let ov ← holding [v] (eval o X.env)
      let iv ← holding [v, ov] (eval b X.env)
      standAt tpos
      holding [v, ov, iv] (setItem ov iv v)
      release [v, ov, iv] []))
    (hs : swapsWithSole [.Subscript o b tpos] e pos.line X.env = pure false) (hw : swappedStores [.Subscript o b tpos] e X.env = pure none) : SnS X (.Assign [.Subscript o b tpos] e pos) (esOset i tx ep) :=
  psC (ps_asg h (pg_sub hv hx set_list ha) hs hw rfl) fun D σ H q => by
    obtain ⟨F, hK, G, Γ, st, r, R, hev, q⟩ := q
    unfold esOset at hev
    split at hev
    · rename_i d Γ1 st1 he
      split at hev
      · rename_i ys0 h0
        split at hev
        · rename_i k Γ2 st2 hix
          split at hev
          · rename_i ys hy
            split at hev
            · rename_i j hj
              cases hev
              refine ⟨F, hK, G, Γ, st, _, _, _, R, he, fun v H1 G1 R1 _ rv => ?_⟩
              obtain ⟨w, hw, _⟩ := R1.slot i _ h0
              refine ⟨w, hw, F, hK, G1, Γ1, st1, _, _, _, R1, hix, fun vk H2 G2 R2 s12 rk => ?_⟩
              cases rk
              obtain ⟨w', hw', a, vs, e, q0, q1, q2, q3, q4⟩ := R2.slot i _ hy
              rw [hw] at hw'
              cases hw'
              subst e
              have hlen := RpA.length q4
              exact ⟨a, vs, k, j, rfl, rfl, q3, by rw [hlen]; exact hj, q _ _ G2 (R2.put hy hw (RpA.set j q4 (Rp.mono s12 rv)))⟩
            · cases hev
          · cases hev
        · cases hev
      · cases hev
    · cases hev
/-! {} -/
def evD0 : EvE := fun _ st => some (.dict [], st)
theorem se_d0 {X : Cx} {pos : Pos} : SnE X (.Dict [] [] pos) evD0 := fun F hK => peC pe_dnewK fun σ H Q q => by
  obtain ⟨G, Γ, st, d', st', R, hev, q⟩ := q
  unfold evD0 at hev
  obtain ⟨rfl, rfl⟩ := Prod.mk.inj (Option.some.inj hev)
  exact fun p hp => q _ _ _ (Ext.new R hp) (.dict0 upd_same)
end Mn
namespace Mn
open PySem PySem.Spec PyProof.Rows L2
/-! t[::-1] of a tuple -/
section
variable {prog : Program} {w : World} {A : Around} {E : Value → Shared → Prop} {s : Shared}
theorem rev_pick (xs : Array Value) : ((List.range xs.size).filterMap fun (k : Nat) => xs[(((xs.size : Int) - 1) + (k : Int) * (-1)).toNat]?).toArray = xs.toList.reverse.toArray := by
  have e := PySem.W.krv_pick xs
  unfold slicePick at e
  rw [PySem.W.krv_bounds, PySem.W.krv_sliceRange] at e
  rw [← e, List.filterMap_map]
  congr 2
  funext k
  have : (((xs.size : Int) - 1) + (k : Int) * (-1)).toNat = xs.size - 1 - k := by omega
  rw [this]
  rfl
theorem rev_adjust (n : Nat) : Builtin.Slice.sliceAdjust none none (-1) (n : Int) = ((n : Int) - 1, -1) := by
  unfold Builtin.Slice.sliceAdjust
  simp
theorem rev_places (n : Nat) : Builtin.Slice.slicePlaces ((n : Int) - 1) (-1) (-1) = n := by
  unfold Builtin.Slice.slicePlaces
  have h0 : ¬ ((-1 : Int) > 0) := by omega
  simp only [h0, if_false]
  by_cases h : (n : Int) - 1 > -1
  · rw [if_pos h]
    have : ((n : Int) - 1 - -1 - 1) / -(-1) + 1 = n := by
      rw [Int.neg_neg, Int.ediv_one]; omega
    rw [this]; omega
  · rw [if_neg h]; omega
theorem applied_rev {sl : Addr} {vs : Value} {n : Nat} {Q : Int × Int × Nat → Shared → Prop} (hsl : s.heap.IsSliceOf sl .none .none vs) (part : IsPart vs (some (-1)))
    (q : Q ((n : Int) - 1, -1, n) s) : wpAny (model prog w) A (Builtin.Slice.sliceApplied (.ref sl) (pure (n : Int))) Q E s := by
  obtain ⟨ob, hob, hcl, hfl⟩ := id hsl
  unfold Builtin.Slice.sliceApplied Builtin.Slice.sliceFields
  refine wpAny_bind (wpAny_bind (wpAny_field hob hfl (x := .none) rfl (wpAny_bind (wpAny_field hob hfl (x := .none) rfl (wpAny_bind (wpAny_field hob hfl (x := vs) rfl (wpAny_pure ?_)))))))
  refine wpAny_bind (HT.slicePart_ part ?_)
  show wpAny _ _ (if ((-1 : Int) == 0) = true then _ else _) _ _ s
  rw [if_neg (by decide)]
  refine wpAny_bind (HT.slicePart_ .none (wpAny_bind (HT.slicePart_ .none (wpAny_bind (wpAny_pure ?_)))))
  show wpAny _ _ (match Builtin.Slice.sliceAdjust none none (-1) (n : Int) with | (a, b) => pure (a, (-1 : Int), Builtin.Slice.slicePlaces a b (-1))) _ _ s
  rw [rev_adjust]
  show wpAny _ _ (pure ((n : Int) - 1, (-1 : Int), Builtin.Slice.slicePlaces ((n : Int) - 1) (-1) (-1))) _ _ s
  rw [rev_places]
  exact wpAny_pure q
theorem getItem_rev {t sl : Addr} {xs : Array Value} {vs : Value} {Q : Value → Shared → Prop} (tup : IsTup s.heap t xs) (hsl : s.heap.IsSliceOf sl .none .none vs) (part : IsPart vs (some (-1)))
    (q : Q (.ref s.heap.objs.size) { s with heap := s.heap.push { cls := .type "tuple", data := .seq xs.toList.reverse.toArray } }) (small : xs.size ≤ sizeLine) : wpAny (model prog w) A (getItem (.ref t) (.ref sl)) Q E s := by
  have fits : sizeOk (.seq xs.toList.reverse.toArray) := by
    show xs.toList.reverse.toArray.size ≤ sizeLine
    rw [List.size_toArray, List.length_reverse, Array.length_toList]
    exact small
  obtain ⟨ob, hob, hcl, hfl⟩ := id hsl
  have isSlice : s.TypeIs (.ref sl) "slice" := ⟨ob, hob, hcl⟩
  unfold getItem
  try with_reducible refine wpAny_holding ?_
  first | refine wpAny_bind (wpAny_pure ?_) | skip
  refine wpAny_bind (wpAny_sequenceKey tup.typeIs (by decide) ?_)
  refine wpAny_bind (wpAny_callSpecial?_slot (name := Str.ofString "__getitem__") tup.typeIs PyProof.Rows.slot_tuple_getitem (wpAny_call_entry PyProof.Rows.slot_tuple_getitem tup.typeIs entry_tuple_getitem ?_ (args_tuple_getitem _ _)))
  show wpAny _ _ (Builtin.Tuple.tupleItemsOf (.ref t) >>= _) _ _ s
  refine wpAny_bind (tupleItemsOf_ tup ?_)
  refine wpAny_bind (wpAny_typeOf isSlice ?_)
  rw [if_pos (by decide)]
  refine wpAny_bind (applied_rev hsl part ?_)
  have no : ¬ ((((xs.size : Int) - 1) == 0 && (-1 : Int) == 1 && xs.size == xs.size) = true) := by
    intro z
    rw [Bool.and_eq_true, Bool.and_eq_true] at z
    exact absurd z.1.2 (by decide)
  show wpAny _ _ (if (((xs.size : Int) - 1) == 0 && (-1 : Int) == 1 && xs.size == xs.size) = true then _ else _) _ _ s
  rw [if_neg no, rev_pick]
  first
    | exact wpAny_bind (m := Builtin.Tuple.tupleExact _) (wpAny_newObj_type (wpAny_pure ⟨_, rfl, wpAny_pure q⟩) fits)
    | exact wpAny_bind (m := Builtin.Tuple.tupleExact _) (wpAny_newObj_type (wpAny_bind (wpAny_pure (wpAny_pure ⟨_, rfl, wpAny_pure q⟩))) fits)
    | exact wpAny_bind (wpAny_bind (m := Builtin.Tuple.tupleExact _) (wpAny_newObj_type (wpAny_pure (wpAny_pure ⟨_, rfl, wpAny_pure q⟩)) fits))
    | exact wpAny_bind (wpAny_bind (m := Builtin.Tuple.tupleExact _) (wpAny_newObj_type (wpAny_pure ⟨_, rfl, wpAny_pure q⟩) fits))
end
def tRevT (K : PySem.W.Frag) (te : TE) : TE := fun σ H Q => te σ H fun x H1 => ∃ a xs, x = .ref a ∧ SqT K H1 a xs ∧ ∀ p, H1 p = none → Q (.ref p) (upd H1 p (.tup xs.reverse))
section
variable {X : Cx}
theorem pe_revT {e : Expr} {te : TE} {k : Nat} {p1 p2 p3 pos : Pos} (he : PE X e te) : PE X (.Subscript e (.Slice none none (some (.UnaryOp .USub (.Constant (.int 1) k p1) p2)) p3) pos) (tRevT X.K te) := by
  refine ⟨fun pins s σ H Q I h => ?_⟩
  refine Subscript_ (thn (he.run pins s σ H _ I h) fun v s1 ⟨x, H1, I1, rx, a, xs, ex, hx, q⟩ => ?_)
  subst ex
  cases rx
  have one : PO X (some (.UnaryOp .USub (.Constant (.int 1) k p1) p2)) (tPart (tUn (rU fun i => .int (-i)) (tC (.int 1)))) := po_some (pe_un un_neg pe_int)
  refine wpAny_Slice (thn (po_none.run pins s1 σ H1 (fun o H2 => o = none ∧ H2 = H1) I1 ⟨rfl, rfl⟩) fun vl s2 ⟨l, H2, I2, pl, el, e2⟩ => ?_)
  subst el e2
  refine thn (po_none.run pins s2 σ H2 (fun o H3 => o = none ∧ H3 = H2) I2 ⟨rfl, rfl⟩) fun vu s3 ⟨u, H3, I3, pu, eu, e3⟩ => ?_
  subst eu e3
  refine thn (one.run pins s3 σ H3 (fun o H4 => o = some (-1) ∧ H4 = H3) I3 ⟨1, rfl, -1, rfl, rfl, rfl⟩) fun vz s4 ⟨o, H4, I4, pz, eo, e4⟩ => ?_
  subst eo e4
  cases pl
  cases pu
  have I5 : Inv X pins σ H4 { s4 with heap := s4.heap.push { cls := .type "slice", data := .fields #[.none, .none, vz] } } := I4.kept (t' := s4.toks) fun b ob z => Heap.get?_push_of_some _ z
  obtain ⟨its, r, tup, small⟩ := I5.tuple hx
  have len := r.length
  show wpAny (model X.prog X.w) X.A (subscriptTail e (.Slice none none (some (.UnaryOp .USub (.Constant (.int 1) k p1) p2)) p3) (.ref a) (.ref s4.heap.objs.size)) (EP X pins σ Q) X.xe { s4 with heap := s4.heap.push { cls := .type "slice", data := .fields #[.none, .none, vz] } }
  refine tail_any (ops := [.ref a, .ref s4.heap.objs.size]) tup.typeIs (PyProof.Rows.slot_tuple_getitem.lookup) ?_ (by with_unfolding_all rfl)
  refine getItem_rev tup (Heap.IsSliceOf.new _ .none .none vz) pz ?_ (by rw [List.size_toArray]; omega)
  refine ⟨.ref _, _, I5.laid (t' := s4.toks) (o := .tup xs.reverse) (fun b ob z => Heap.get?_push_of_some _ z) (Nat.le_refl _) ?_, rfl, q _ (I5.hok.fresh (Nat.le_refl _))⟩
  exact ⟨by rw [List.length_reverse]; exact small, _, r.reverse, IsTup.new _ _⟩
end
def evRev (a : EvE) : EvE := fun Γ st => match a Γ st with
  | some (.list xs, st1) => some (.list xs.reverse, st1)
  | some (.tuple xs, st1) => some (.tuple xs.reverse, st1)
  | _ => none
theorem RpA.reverse {K : PySem.W.Frag} {G : Hp} : ∀ {vs : List V} {ds : List PyData}, RpA K G vs ds → RpA K G vs.reverse ds.reverse
  | _, _, .nil => .nil
  | _, _, .cons a b => by
    rw [List.reverse_cons, List.reverse_cons]
    exact RpA.append (RpA.reverse b) (.cons a .nil)
theorem sn_rev {X : Cx} {e : Expr} {ea : EvE} {k : Nat} {p1 p2 p3 pos : Pos} (ha : SnE X e ea) : SnE X (.Subscript e (.Slice none none (some (.UnaryOp .USub (.Constant (.int 1) k p1) p2)) p3) pos) (evRev ea) := fun F hK => ⟨fun pins s σ H Q I q => by
  obtain ⟨G, Γ, st, d', st', R, hev, q⟩ := q
  unfold evRev at hev
  split at hev
  · rename_i xs st1 h1
    obtain ⟨rfl, rfl⟩ := Prod.mk.inj (Option.some.inj hev)
    refine (pe_revL (ha F hK)).run pins s σ H Q I ⟨G, Γ, st, _, st1, R, h1, fun v H1 G1 E1 r1 => ?_⟩
    cases r1 with
    | @lst _ vs0 _ h a =>
      refine ⟨_, _, rfl, by rw [← hK]; exact SqL.of (E1.gh _ _ h), fun p hp => ?_⟩
      have R1 := R.step E1
      have N := Nw.new R1.le (o := .lst vs0.reverse) hp
      exact q _ _ _ (Ext.trans' (σ := σ) (Γ := Γ) E1 (N.ext R1)) (.lst upd_same (RpA.mono N.gg (RpA.reverse a)))
  · rename_i xs st1 h1
    obtain ⟨rfl, rfl⟩ := Prod.mk.inj (Option.some.inj hev)
    refine (pe_revT (ha F hK)).run pins s σ H Q I ⟨G, Γ, st, _, st1, R, h1, fun v H1 G1 E1 r1 => ?_⟩
    cases r1 with
    | @tup _ vs0 _ h a =>
      refine ⟨_, _, rfl, by rw [← hK]; exact SqT.of (E1.gh _ _ h), fun p hp => ?_⟩
      have R1 := R.step E1
      have N := Nw.new R1.le (o := .tup vs0.reverse) hp
      exact q _ _ _ (Ext.trans' (σ := σ) (Γ := Γ) E1 (N.ext R1)) (.tup upd_same (RpA.mono N.gg (RpA.reverse a)))
  · cases hev⟩
end Mn
namespace Mn
open PySem PySem.Spec PyProof.Rows L2
/-! sets of ints made by a comprehension of two clauses -/
abbrev Sc2 (elt t0 i0 t1 i1 : Expr) (c0 c1 : List Expr) (scope : Scope) (pos : Pos) : Expr :=
  .SetComp elt [⟨t0, i0, c0, 0⟩, ⟨t1, i1, c1, 0⟩] scope pos
section
variable {elt t0 i0 t1 i1 : Expr} {c0 c1 : List Expr} {scope : Scope} {pos : Pos} {it acc : Value} {env : Env}
theorem turnS_out : compTurn (Sc2 elt t0 i0 t1 i1 c0 c1 scope pos) 0 it acc env =
    (do standAt i0.pos
        match ← pyNext it with
        | none => pure (.done .next)
        | some v => (do
            letOwnedTupleGo t0 it v
            assign t0 env v
            let mut good := true
            for c in c0 do
              if good then good ← isTrue c env (eval c env)
            if good then
              let y ← eval i1 env
              standAt i1.pos
              let y ← foldedSetIterable i1 env y
              let _ ← runOwn (.compStart (Sc2 elt t0 i0 t1 i1 c0 c1 scope pos) 1 (← holding [y] (pyIter y)) acc env) env
            again (.compLoop (Sc2 elt t0 i0 t1 i1 c0 c1 scope pos) 0 it acc env))) := by rfl
theorem turnS_in : compTurn (Sc2 elt t0 i0 t1 i1 c0 c1 scope pos) 1 it acc env =
    (do standAt i1.pos
        match ← pyNext it with
        | none => pure (.done .next)
        | some v => (do
            letOwnedTupleGo t1 it v
            assign t1 env v
            let mut good := true
            for c in c1 do
              if good then good ← isTrue c env (eval c env)
            if good then
              (do let y ← eval elt env
                  standAt elt.pos
                  let _ ← call (.builtin "set.add") [acc, y])
            again (.compLoop (Sc2 elt t0 i0 t1 i1 c0 c1 scope pos) 1 it acc env))) := by rfl
variable {prog : Program} {w : World} {A : Around} {R : Result → Shared → Prop} {s : Shared}
/-- what a raise inside becomes -/
abbrev Out (prog : Program) (w : World) (A : Around) (env : Env) (R : Result → Shared → Prop) : Value → Shared → Prop :=
  notedBy (model prog w) A env fun e s' => R (.error e) s'
abbrev tests (cs : List Expr) (env : Env) : Sem Bool :=
  forIn cs true fun c r => if r = true then do let b ← isTrue c env (eval c env); pure (ForInStep.yield b) else pure (ForInStep.yield r)
theorem loopS_out (hs : ∀ x, foldedSetIterable i1 env x = pure x) (I : Nat → Shared → Prop)
    (turn : ∀ n s, I n s → wpAny (model prog w) A (pyNext it) (fun r s1 => match r with
      | none => R (.ok .next) s1
      | some v =>
        wpAny (model prog w) A (letOwnedTupleGo t0 it v) (fun _ s2 =>
        wpAny (model prog w) A (assign t0 env v) (fun _ s3 =>
        wpAny (model prog w) A (tests c0 env) (fun b s4 =>
          if b = true then
            wpAny (model prog w) A (eval i1 env) (fun y s5 => wpAny (model prog w) A (pyIter y) (fun it1 s6 =>
              codeAny (model prog w) A (.compStart (Sc2 elt t0 i0 t1 i1 c0 c1 scope pos) 1 it1 acc env)
                (fun r s' => match r with
                  | .ok _ => ∃ m, m < n ∧ I m s'
                  | .error _ => False) s6) (Out prog w A env R) s5) (Out prog w A env R) s4
          else ∃ m, m < n ∧ I m s4) (Out prog w A env R) s3) (Out prog w A env R) s2) (Out prog w A env R) s1) (Out prog w A env R) s)
    (n : Nat) (h : I n s) :
    codeAny (model prog w) A (.compLoop (Sc2 elt t0 i0 t1 i1 c0 c1 scope pos) 0 it acc env) R s := by
  refine codeAny_loop rfl I (fun k s1 h1 => ?_) n h
  show wpAny _ A ((compTurn (Sc2 elt t0 i0 t1 i1 c0 c1 scope pos) 0 it acc env).onRaise _) _ _ s1
  refine wpAny_noted ?_
  rw [turnS_out]
  refine wpAny_bind (wpAny_standAt (wpAny_bind (wpAny_mono (turn k s1 h1) (fun r s2 h2 => ?_) fun _ _ z => z)))
  match r, h2 with
  | none, h2 => exact wpAny_pure h2
  | some v, h2 =>
    refine wpAny_bind (wpAny_mono h2 (fun _ s3 h3 => ?_) fun _ _ z => z)
    refine wpAny_bind (wpAny_mono h3 (fun _ s4 h4 => ?_) fun _ _ z => z)
    refine wpAny_bind (wpAny_mono h4 (fun b s5 h5 => ?_) fun _ _ z => z)
    match b, h5 with
    | false, h5 => exact wpAny_pure ⟨rfl, h5⟩
    | true, h5 =>
      refine wpAny_bind (wpAny_mono h5 (fun y s6 h6 => ?_) fun _ _ z => z)
      refine wpAny_bind (wpAny_standAt (wpAny_bind (wpAny_of_eq (hs y) (wpAny_bind (wpAny_holding ?_)))))
      refine wpAny_mono h6 (fun it1 s7 h7 => ?_) fun _ _ z => z
      refine wpAny_bind (wpAny_runOwn ?_)
      rw [Around.mark_none]
      refine codeAny_mono h7 fun r s8 h8 => ?_
      match r, h8 with
      | .ok _, h8 =>
        first
          | exact wpAny_pure ⟨rfl, h8⟩
          | exact wpAny_bind (wpAny_pure (wpAny_pure ⟨rfl, h8⟩))
      | .error _, h8 => exact False.elim h8
theorem loopS_in (I : Nat → Shared → Prop)
    (turn : ∀ n s, I n s → wpAny (model prog w) A (pyNext it) (fun r s1 => match r with
      | none => R (.ok .next) s1
      | some v =>
        wpAny (model prog w) A (letOwnedTupleGo t1 it v) (fun _ s2 =>
        wpAny (model prog w) A (assign t1 env v) (fun _ s3 =>
        wpAny (model prog w) A (tests c1 env) (fun b s4 =>
          if b = true then
            wpAny (model prog w) A (eval elt env) (fun y s5 =>
              wpAny (model prog w) A (call (.builtin "set.add") [acc, y]) (fun _ s6 => ∃ m, m < n ∧ I m s6) (Out prog w A env R) s5) (Out prog w A env R) s4
          else ∃ m, m < n ∧ I m s4) (Out prog w A env R) s3) (Out prog w A env R) s2) (Out prog w A env R) s1) (Out prog w A env R) s)
    (n : Nat) (h : I n s) :
    codeAny (model prog w) A (.compLoop (Sc2 elt t0 i0 t1 i1 c0 c1 scope pos) 1 it acc env) R s := by
  refine codeAny_loop rfl I (fun k s1 h1 => ?_) n h
  show wpAny _ A ((compTurn (Sc2 elt t0 i0 t1 i1 c0 c1 scope pos) 1 it acc env).onRaise _) _ _ s1
  refine wpAny_noted ?_
  rw [turnS_in]
  refine wpAny_bind (wpAny_standAt (wpAny_bind (wpAny_mono (turn k s1 h1) (fun r s2 h2 => ?_) fun _ _ z => z)))
  match r, h2 with
  | none, h2 => exact wpAny_pure h2
  | some v, h2 =>
    refine wpAny_bind (wpAny_mono h2 (fun _ s3 h3 => ?_) fun _ _ z => z)
    refine wpAny_bind (wpAny_mono h3 (fun _ s4 h4 => ?_) fun _ _ z => z)
    refine wpAny_bind (wpAny_mono h4 (fun b s5 h5 => ?_) fun _ _ z => z)
    match b, h5 with
    | false, h5 => exact wpAny_pure ⟨rfl, h5⟩
    | true, h5 =>
      refine wpAny_bind (wpAny_bind (wpAny_mono h5 (fun y s6 h6 => ?_) fun _ _ z => z))
      refine wpAny_bind (wpAny_standAt (wpAny_bind (wpAny_mono h6 (fun _ s7 h7 => ?_) fun _ _ z => z)))
      exact wpAny_pure (wpAny_pure ⟨rfl, h7⟩)
theorem startS_in (h0 : codeAny (model prog w) A (.compLoop (Sc2 elt t0 i0 t1 i1 c0 c1 scope pos) 1 it acc env) R s)
    (h : wpAny (model prog w) A (pyIter it) (fun it' s' => codeAny (model prog w) A (.compLoop (Sc2 elt t0 i0 t1 i1 c0 c1 scope pos) 1 it' acc env) R s') (Out prog w A env R) s) :
    codeAny (model prog w) A (.compStart (Sc2 elt t0 i0 t1 i1 c0 c1 scope pos) 1 it acc env) R s := by
  refine codeAny_of_tree ?_
  show wpAny _ _ ((compStart (Sc2 elt t0 i0 t1 i1 c0 c1 scope pos) 1 it acc env).onRaise _) _ _ s
  refine wpAny_notedAt ?_
  unfold compStart
  show wpAny _ _ (ask >>= _) _ _ s
  refine wpAny_bind (wpAny_askSetting (wpAny_ite ?_))
  split
  · first
      | exact wpAny_bind (wpAny_pure (wpAny_pure ⟨rfl, h0⟩))
      | exact wpAny_pure ⟨rfl, h0⟩
  · first
      | exact wpAny_bind (wpAny_rule (wpAny_bind (wpAny_standAt (wpAny_bind (wpAny_mono h (fun it' s' z => wpAny_pure (And.intro rfl z)) fun _ _ z => z)))))
      | (refine wpAny_bind (wpAny_rule ?_)
         show wpAny _ _ (standAt i1.pos >>= _) _ _ s
         refine wpAny_bind (wpAny_standAt (wpAny_bind (wpAny_mono h (fun it' s' z => ?_) fun _ _ z => z)))
         exact wpAny_pure (And.intro rfl z))
end
section
variable {X : Cx}
/-- one int more -/
def AdI (w : World) : Addr → V → Hp → (Hp → Prop) → Prop := fun D y H Nx => ∃ (c : Int) (S : Int → Bool) (n : Nat),
  y = .int c ∧ H D = some (SetO w D S n) ∧ n + 1 < scanBound ∧
  Nx (upd H D (SetO w D (fun j => S j || decide (j = c)) (if S c = true then n else n + 1)))
abbrev S0 (w : World) (D : Addr) : HO := SetO w D (fun _ => false) 0
abbrev sOf (w : World) : Obj := { cls := .type "set", dict := none, data := .set #[] 0 (.fresh 0 0 (!w.params.followText "set-order")) }
/-- what holds in the block, whatever its environment -/
abbrev InBlk (X : Cx) (scope : Scope) (P : Cx → Prop) : Prop := ∀ (s : Shared) (H : Hp) (C : Addr) (cl : List (PySem.Str × Addr)) (fp : List Addr), P (X.blk s H scope (compEnvC scope cl C X.env) fp)
theorem sc2_core {pins : List (Addr × Obj)} {s : Shared} {σ : L2.St} {H : Hp} {Q : VK} {elt tg it tg1 it1 : Expr} {ifs ifs1 : List Expr} {scope : Scope} {own : List (PySem.Str × Nat)} {vs1 : List Nat} {pos pos' : Pos} {wi wi1 : TI} {g g1 : TG} {tt tt1 : TT} {te : TE}
    {Qf : Value → Shared → Prop} {use : Option (Value → Sem Unit)}
    (hc : X.calm = true) (hN : X.N.Nodup) (I : Inv X pins σ H s) (hi : PI X tg it wi) (ok : BlkOk X.N X.env.scope scope own) (hv : ∀ i ∈ vs1, i ∈ own.map (·.2))
    (hg : InBlk X scope fun B => PG B tg g) (ht : InBlk X scope fun B => PTs B ifs tt) (hi1 : InBlk X scope fun B => PI B tg1 it1 wi1) (hg1 : InBlk X scope fun B => PG B tg1 g1) (ht1 : InBlk X scope fun B => PTs B ifs1 tt1) (he : InBlk X scope fun B => PE B elt te)
    (hs : ∀ x, foldedSetIterable it X.env x = pure x) (hs1 : ∀ env x, foldedSetIterable it1 env x = pure x)
    (h : tAc2 (S0 X.w) (AdI X.w) wi g tt wi1 g1 tt1 te (own.map (·.2)) vs1 σ H Q)
    (fin : ∀ D C s' m H', Inv X pins σ H' s' → Q (.ref D) H' → s'.heap.Ns C m → FpOk X pins H' C → compPost (model X.prog X.w) X.A X.xe use Qf (.ref D) C (.ok .next) s') :
    wpAny (model X.prog X.w) X.A (comprehension (Sc2 elt tg it tg1 it1 ifs ifs1 scope pos) scope X.env pos' (newSet (.type "set")) false (eval it X.env) use) Qf X.xe s := by
  have free : ∀ y ∈ scope.names, y.2 = .free → ∃ c, X.env.cells.lookup y.1 = some c := fun y hy e =>
    (ok.free y hy e).elim (fun k => I.ok.has _ (.inl k)) (fun k => I.ok.has _ (.inr k))
  refine wpAny_comprehension_free (use := use) rfl hs (closure_ok free) ok.kind (fun y hy e => by rw [ok.uniq y hy, e]) ?_
  refine thn (hi.run pins s σ H _ I h) fun xv sa hx => thn hx fun itv sb hb => ?_
  obtain ⟨p, fp, tn, J, Hb, rfl, Ib, T, stb, fb, q⟩ := hb
  refine PpSet.newSet_ok (newEnv_comp ?_)
  generalize hD : sb.heap.objs.size = D
  have Dn : Hb D = none := Ib.hok.fresh (Nat.le_of_eq hD)
  obtain ⟨W, ⟨m0, w0⟩, turn⟩ := q D Dn
  -- the new set
  generalize hsc : ({ sb with heap := sb.heap.push (sOf X.w) } : Shared) = sc
  have hpc : sc.heap = sb.heap.push (sOf X.w) := by rw [← hsc]
  have Ic : Inv X pins σ (upd Hb D (S0 X.w D)) sc := by
    subst hsc
    refine Ib.laid (t' := sb.toks) (fun b o e => Heap.get?_push_of_some _ e) (Nat.le_of_eq hD) ?_
    subst hD
    exact setO_new (setR_fresh X.w)
  have fc : ∀ b ∈ fp, FpOk X pins (upd Hb D (S0 X.w D)) b ∧ b < sc.heap.objs.size := fun b hb => by
    obtain ⟨o, e, _⟩ := T.obj _ _ stb b hb
    have lt : b < sb.heap.objs.size := Heap.lt_size e
    have ne : b ≠ D := by subst hD; exact Nat.ne_of_lt lt
    exact ⟨⟨by rw [upd_ne ne]; exact (fb b hb).1, (fb b hb).2⟩, by rw [hpc, Heap.size_push]; exact Nat.lt_succ_of_lt lt⟩
  have stc : tn 0 sc.heap := T.keep _ _ _ stb fun b _ o e => by rw [hpc]; exact Heap.get?_push_of_some _ e
  have Id := block_start Ic ok hN fc
  generalize hcl : cellsFrom (sc.heap.objs.size + 1) scope.names (cloFrom X.env.cells scope.names []) = cl at Id
  generalize hHc : upd Hb D (S0 X.w D) = Hc at Ic Id w0 fc
  have pg := hg sc Hc sc.heap.objs.size cl fp
  have pt := ht sc Hc sc.heap.objs.size cl fp
  have pe := he sc Hc sc.heap.objs.size cl fp
  have pi1 := hi1 sc Hc sc.heap.objs.size cl fp
  have pg1 := hg1 sc Hc sc.heap.objs.size cl fp
  have pt1 := ht1 sc Hc sc.heap.objs.size cl fp
  show codeAny _ _ (.compStart (Sc2 elt tg it tg1 it1 ifs ifs1 scope pos) 0 (.ref p) (.ref D) (compEnvC scope cl sc.heap.objs.size X.env))
    (compPost (model X.prog X.w) X.A X.xe use Qf (.ref D) sc.heap.objs.size) { sc with heap := pushCells (sc.heap.push { cls := .type "dict", data := .dict #[] }) scope.names }
  generalize hce : compEnvC scope cl sc.heap.objs.size X.env = ce at Id pg pt pe pi1 pg1 pt1 ⊢
  have cL : ce.locals = sc.heap.objs.size := by subst hce; rfl
  generalize hsd : ({ sc with heap := pushCells (sc.heap.push { cls := .type "dict", data := .dict #[] }) scope.names } : Shared) = sd at Id ⊢
  have std : tn 0 sd.heap := T.keep _ _ _ stc fun b _ o e => by subst hsd; exact pushCells_keeps _ _ _ _ (Heap.get?_push_of_some _ e)
  have nfp : ∀ b ∈ fp, Hc b = none := fun b hb => (fc b hb).1.1
  generalize hv0 : L2.wipe σ (own.map (·.2)) = σ0 at Id turn
  have stat : ∀ {σ' : L2.St} {H' : Hp} {s' : Shared}, Inv (X.blk sc Hc scope ce fp) [] σ' H' s' → (∀ b ∈ fp, H' b = none) → ∀ b ∈ fp, FpOk (X.blk sc Hc scope ce fp) [] H' b := fun {σ' H' s'} I' hn b hb => by
    refine ⟨hn b hb, (I'.ok.exf b hb).1, I'.ok.exfs b hb, .inl hb, (I'.ok.exf b hb).2, fun z hz => ?_⟩
    exact nomatch (show z ∈ ([] : List (Addr × Obj)) from hz)
  have done0 : ∀ {s' : Shared} {H' : Hp}, Inv (X.blk sc Hc scope ce fp) [] σ0 H' s' → Q (.ref D) H' → compPost (model X.prog X.w) X.A X.xe use Qf (.ref D) sc.heap.objs.size (.ok .next) s' := fun {s' H'} I6 qq => by
    have I7 : Inv X pins σ H' s' := Ic.call' (ch := fp) I6.os I6.base I6.hok I6.bare fun b hb =>
      let z := (fc b hb).1.2
      ⟨z.2.2.1, z.1, z.2.2.2.1, z.2.2.2.2⟩
    have nC : H' sc.heap.objs.size = none := by rw [← cL]; exact I6.free
    obtain ⟨m, hn, _⟩ := I6.loc
    rw [show (X.blk sc Hc scope ce fp).env.locals = sc.heap.objs.size from cL] at hn
    exact fin D sc.heap.objs.size s' m H' I7 qq hn (Ic.fpOk (Nat.le_refl _) nC)
  let Inn : Nat → Shared → Prop := fun n s' => ∃ i H', Inv (X.blk sc Hc scope ce fp) [] σ0 H' s' ∧ tn i s'.heap ∧ (∀ b ∈ fp, H' b = none) ∧ W i n H'
  have loop : codeAny (model X.prog X.w) X.A (.compLoop (Sc2 elt tg it tg1 it1 ifs ifs1 scope pos) 0 (.ref p) (.ref D) ce) (compPost (model X.prog X.w) X.A X.xe use Qf (.ref D) sc.heap.objs.size) sd := by
    refine loopS_out (hs1 ce) Inn ?_ m0 ⟨0, Hc, Id, std, nfp, w0⟩
    rintro n s5 ⟨i, H5, I5, st5, n5, w5⟩
    rcases turn i n H5 w5 with ⟨stop, qq⟩ | ⟨go, Nx, hNx, step⟩
    · refine thnF (T.done (X.blk sc Hc scope ce fp) rfl rfl rfl hc i [] s5 _ H5 (fun _ _ => False) I5 (stat I5 n5) st5 stop) fun r s6 z => ?_
      obtain ⟨rfl, I6⟩ := z
      exact done0 I6 qq
    · refine thnF (T.item (X.blk sc Hc scope ce fp) rfl rfl rfl hc i [] s5 _ H5 (fun _ _ => False) I5 (stat I5 n5) st5 go) fun r s6 z => ?_
      obtain ⟨u, rfl, h6⟩ := z
      refine thnF h6 fun _ s7 z => ?_
      obtain ⟨x, H7, I7, r7, y7, st7, n7⟩ := z
      have P7 := I7.pinned (stat I7 n7) (T.obj _ _ st7)
      refine thnF (pg.run _ s7 _ H7 x u _ P7 r7 (step x H7 y7)) fun _ s8 z => ?_
      obtain ⟨σ8, H8, I8, hw8, q8⟩ := z
      refine thnF (pt.run _ s8 σ8 H8 _ I8 q8) fun b s9 z => ?_
      obtain ⟨H9, I9, q9⟩ := z
      have back : ∀ {σ9 : L2.St} {s' : Shared} {H' : Hp}, Inv (X.blk sc Hc scope ce fp) ([] ++ pinsAt fp s7.heap) σ9 H' s' → σ0.length = σ9.length → (∀ (j : Nat) v, σ0[j]? = some (some v) → σ9[j]? = some (some v)) → Nx H' → ∃ m, m < n ∧ Inn m s' := fun {σ9 s' H'} I' hl hk nx => by
        obtain ⟨m', lt, w'⟩ := hNx H' nx
        have held : ∀ b ∈ fp, ∀ o, s7.heap.get? b = some o → s'.heap.get? b = some o ∧ H' b = none := fun b hb o e => by
          have z := I'.pin (b, o) (List.mem_append_right _ (List.mem_append_right _ (mem_pinsAt hb e)))
          exact ⟨z.1, z.2.1⟩
        refine ⟨m', lt, i + 1, H', (I'.unpinned (pins := [])).weak hl hk, T.keep _ _ _ st7 (fun b hb o e => (held b hb o e).1), fun b hb => ?_, w'⟩
        obtain ⟨o, e, _⟩ := T.obj _ _ st7 b hb
        exact (held b hb o e).2
      have l8 : σ0.length = σ8.length := by rw [← hv0, ← hw8.trans hv0.symm, wipe_length]
      have e8 : L2.wipe σ8 (own.map (·.2)) = σ0 := hw8
      have k8 : ∀ (j : Nat) v, σ0[j]? = some (some v) → σ8[j]? = some (some v) := fun j v e => (wipe_some (e8 ▸ e)).1
      have k9 : ∀ (j : Nat) v, σ0[j]? = some (some v) → (L2.wipe σ8 vs1)[j]? = some (some v) := fun j v e => by
        have z := wipe_some (e8 ▸ e)
        rw [wipe_out fun m => z.2 (hv j m)]
        exact z.1
      cases b with
      | false =>
        rw [if_neg Bool.false_ne_true] at q9 ⊢
        exact back I9 l8 k8 q9
      | true =>
        rw [if_pos rfl] at q9 ⊢
        refine thnF (pi1.run _ s9 σ8 H9 _ I9 q9) fun xv s10 hx => thnF hx fun itv s11 z => ?_
        obtain ⟨p1, fp1, tn1, J1, H11, rfl, I11, T1, st11, f11, W1, ⟨m1, w1⟩, turn1⟩ := z
        -- the inner loop
        have stat1 : ∀ {H' : Hp}, (∀ b ∈ fp1, H' b = none) → ∀ b ∈ fp1, FpOk (X.blk sc Hc scope ce fp) ([] ++ pinsAt fp s7.heap) H' b := fun hn b hb => ⟨hn b hb, (f11 b hb).2⟩
        let In1 : Nat → Shared → Prop := fun k s' => ∃ j H', Inv (X.blk sc Hc scope ce fp) ([] ++ pinsAt fp s7.heap) (L2.wipe σ8 vs1) H' s' ∧ tn1 j s'.heap ∧ (∀ b ∈ fp1, H' b = none) ∧ W1 j k H'
        have loop1 : codeAny (model X.prog X.w) X.A (.compLoop (Sc2 elt tg it tg1 it1 ifs ifs1 scope pos) 1 (.ref p1) (.ref D) ce) (fun r s' => match r with
            | .ok _ => ∃ m, m < n ∧ Inn m s'
            | .error _ => False) s11 := by
          refine loopS_in In1 ?_ m1 ⟨0, H11, I11.weak (wipe_length _ _) (fun j v e => (wipe_some e).1), st11, fun b hb => (f11 b hb).1, w1⟩
          rintro k s12 ⟨j, H12, I12, st12, n12, w12⟩
          rcases turn1 j k H12 w12 with ⟨stop1, nx1⟩ | ⟨go1, Nx1, hNx1, step1⟩
          · refine thnF (T1.done (X.blk sc Hc scope ce fp) rfl rfl rfl hc j _ s12 (L2.wipe σ8 vs1) H12 (fun _ _ => False) I12 (stat1 n12) st12 stop1) fun r s13 z => ?_
            obtain ⟨rfl, I13⟩ := z
            exact back I13 (l8.trans (wipe_length σ8 vs1).symm) k9 nx1
          · refine thnF (T1.item (X.blk sc Hc scope ce fp) rfl rfl rfl hc j _ s12 (L2.wipe σ8 vs1) H12 (fun _ _ => False) I12 (stat1 n12) st12 go1) fun r s13 z => ?_
            obtain ⟨u1, rfl, h13⟩ := z
            refine thnF h13 fun _ s14 z => ?_
            obtain ⟨x1, H14, I14, r14, y14, st14, n14⟩ := z
            have P14 := I14.pinned (stat1 n14) (T1.obj _ _ st14)
            refine thnF (pg1.run _ s14 (L2.wipe σ8 vs1) H14 x1 u1 _ P14 r14 (step1 x1 H14 y14)) fun _ s15 z => ?_
            obtain ⟨σ15, H15, I15, hw15, q15⟩ := z
            refine thnF (pt1.run _ s15 σ15 H15 _ I15 q15) fun b1 s16 z => ?_
            obtain ⟨H16, I16, q16⟩ := z
            have back1 : ∀ {s' : Shared} {H' : Hp}, Inv (X.blk sc Hc scope ce fp) (([] ++ pinsAt fp s7.heap) ++ pinsAt fp1 s14.heap) σ15 H' s' → Nx1 H' → ∃ m, m < k ∧ In1 m s' := fun {s' H'} I' nx => by
              obtain ⟨m', lt, w'⟩ := hNx1 H' nx
              have held : ∀ b ∈ fp1, ∀ o, s14.heap.get? b = some o → s'.heap.get? b = some o ∧ H' b = none := fun b hb o e => by
                have z := I'.pin (b, o) (List.mem_append_right _ (List.mem_append_right _ (mem_pinsAt hb e)))
                exact ⟨z.1, z.2.1⟩
              refine ⟨m', lt, j + 1, H', I'.unpinned.weak (by rw [← hw15, wipe_length]) (fun a v e => (wipe_some (hw15 ▸ e : (L2.wipe σ15 vs1)[a]? = some (some v))).1), T1.keep _ _ _ st14 (fun b hb o e => (held b hb o e).1), fun b hb => ?_, w'⟩
              obtain ⟨o, e, _⟩ := T1.obj _ _ st14 b hb
              exact (held b hb o e).2
            cases b1 with
            | false =>
              rw [if_neg Bool.false_ne_true] at q16 ⊢
              exact back1 I16 q16
            | true =>
              rw [if_pos rfl] at q16 ⊢
              refine thnF (pe.run _ s16 σ15 H16 _ I16 q16) fun u s17 z => ?_
              obtain ⟨yv, H17, I17, r17, c, S, n0, rfl, hD17, room, nx⟩ := z
              refine thnF (mt_sadd _ s17 σ15 H17 (.ref D) [.int c] (.ref D) [u] (fun _ H => Nx1 H) I17 rfl (.cons r17 .nil) ⟨D, c, S, n0, rfl, rfl, hD17, room, nx⟩) fun _ s18 z => ?_
              obtain ⟨_, H18, I18, _, nx⟩ := z
              exact back1 I18 nx
        exact startS_in loop1 (T1.self X.A 0 _ _ _ st11 loop1)
  exact PpSet.codeAny_compStart_set loop (T.self X.A 0 _ _ _ std loop)
theorem pe_sc2 {elt tg it tg1 it1 : Expr} {ifs ifs1 : List Expr} {scope : Scope} {own : List (PySem.Str × Nat)} {vs1 : List Nat} {pos : Pos} {wi wi1 : TI} {g g1 : TG} {tt tt1 : TT} {te : TE}
    (hc : X.calm = true) (hN : X.N.Nodup) (hi : PI X tg it wi) (ok : BlkOk X.N X.env.scope scope own) (hv : ∀ i ∈ vs1, i ∈ own.map (·.2))
    (hg : InBlk X scope fun B => PG B tg g) (ht : InBlk X scope fun B => PTs B ifs tt) (hi1 : InBlk X scope fun B => PI B tg1 it1 wi1) (hg1 : InBlk X scope fun B => PG B tg1 g1) (ht1 : InBlk X scope fun B => PTs B ifs1 tt1) (he : InBlk X scope fun B => PE B elt te)
    (hs : ∀ x, foldedSetIterable it X.env x = pure x) (hs1 : ∀ env x, foldedSetIterable it1 env x = pure x) :
    PE X (Sc2 elt tg it tg1 it1 ifs ifs1 scope pos) (tAc2 (S0 X.w) (AdI X.w) wi g tt wi1 g1 tt1 te (own.map (·.2)) vs1) := by
  refine ⟨fun pins s σ H Q I h => ?_⟩
  rw [PpSet.eval_SetComp]
  refine sc2_core hc hN I hi ok hv hg ht hi1 hg1 ht1 he hs hs1 h fun D C s' m H' I' q hn f => ⟨m, hn, fun h'' sb => ?_⟩
  refine ⟨.ref D, H', ?_, rfl, q⟩
  exact I'.turned (t' := s'.toks) (fun b o hb e => (sb.2 b hb).trans e) f.1 f.2.1 f.2.2.2.1 f.2.2.2.2.1 f.2.2.2.2.2
end
end Mn
namespace Mn
open PySem PySem.Spec PyProof.Rows L2
/-! sorted({..}) of ints, two clauses -/
def evSSet2 (e : EvF) : EvF := fun Γ st => match e Γ st with
  | some (rs, st1) => match intsD rs with
    | some ns => if ns.length ≤ 4000 ∧ (srtU ns).length < 64 then some ((srtU ns).map PyData.int, st1) else none
    | none => none
  | none => none
def int1 : V → Option Int
  | .int k => some k
  | _ => none
def intsV (vs : List V) : List Int := vs.filterMap int1
theorem intsV_map (ns : List Int) : intsV (ns.map V.int) = ns := by
  unfold intsV
  rw [List.filterMap_map]
  induction ns with
  | nil => rfl
  | cons n ns ih => rw [List.filterMap_cons]; exact congrArg (List.cons n) ih
theorem srtU_len_add (ns : List Int) (c : Int) : (srtU (ns ++ [c])).length = if decide (c ∈ ns) = true then (srtU ns).length else (srtU ns).length + 1 := by
  by_cases h : c ∈ ns
  · rw [if_pos (decide_eq_true h)]
    refine (srtU_len (ks := srtU ns) (nodup_of_lt (srtU_sorted ns)) fun j => ?_).symm
    rw [srtU_mem, List.mem_append, List.mem_singleton]
    exact ⟨.inl, fun z => z.elim id fun e => e ▸ h⟩
  · rw [if_neg (by simpa using h)]
    refine (srtU_len (ks := c :: srtU ns) (List.nodup_cons.mpr ⟨fun z => h ((srtU_mem c ns).mp z), nodup_of_lt (srtU_sorted ns)⟩) fun j => ?_).symm
    rw [List.mem_cons, srtU_mem, List.mem_append, List.mem_singleton]
    exact Or.comm
abbrev ObI (w : World) (D : Addr) (vs : List V) : HO := SetO w D (fun j => decide (j ∈ intsV vs)) (srtU (intsV vs)).length
theorem obI_add (w : World) (D : Addr) (ns : List Int) (c : Int) : ObI w D (ns.map V.int ++ [V.int c]) =
    SetO w D (fun j => decide (j ∈ intsV (ns.map V.int)) || decide (j = c)) (if decide (c ∈ intsV (ns.map V.int)) = true then (srtU (intsV (ns.map V.int))).length else (srtU (intsV (ns.map V.int))).length + 1) := by
  have e : ns.map V.int ++ [V.int c] = (ns ++ [c]).map V.int := by rw [List.map_append]; rfl
  unfold ObI
  rw [e, intsV_map, intsV_map, srtU_len_add]
  refine congrArg (fun S => SetO w D S _) (funext fun j => ?_)
  rw [Bool.eq_iff_iff, Bool.or_eq_true, decide_eq_true_iff, decide_eq_true_iff, decide_eq_true_iff, List.mem_append, List.mem_singleton]
theorem intsD_mid : ∀ (acc : List PyData) (x : PyData) (rest : List PyData) (ns : List Int), intsD (acc ++ x :: rest) = some ns → ∃ n1 c n2, intsD acc = some n1 ∧ x = .int c ∧ ns = n1 ++ c :: n2
  | [], x, rest, ns, h => by
    rw [List.nil_append] at h
    cases x with
    | int c =>
      unfold intsD at h
      cases h2 : intsD rest with
      | none => simp only [h2] at h; cases h
      | some n2 => simp only [h2] at h; cases h; exact ⟨[], c, n2, by unfold intsD; rfl, rfl, rfl⟩
    | _ => unfold intsD at h; cases h
  | a :: acc, x, rest, ns, h => by
    rw [List.cons_append] at h
    cases a with
    | int k =>
      unfold intsD at h
      cases h2 : intsD (acc ++ x :: rest) with
      | none => simp only [h2] at h; cases h
      | some n2 =>
        simp only [h2] at h
        cases h
        obtain ⟨n1, c, n3, e1, e2, e3⟩ := intsD_mid acc x rest n2 h2
        exact ⟨k :: n1, c, n3, by unfold intsD; rw [e1], e2, by rw [e3]; rfl⟩
    | _ => unfold intsD at h; cases h
section
variable {X : Cx} {elt tg it tg1 it1 : Expr} {ifs ifs1 : List Expr} {scope : Scope} {own : List (PySem.Str × Nat)} {pos p q : Pos} {ei ei1 : EvI} {t t1 : Tg} {c c1 : Option EvE} {el : EvE} {vs1 : List Nat}
theorem sf_sset2 (hc : X.calm = true) (hgl : Gl X "sorted") (hmg : X.mg "sorted" = none) (hN : X.N.Nodup) (hi : SnI X tg it ei) (ok : BlkOk X.N X.env.scope scope own) (hv : ∀ i ∈ tgS t, i ∈ own.map (·.2)) (hv1 : ∀ i ∈ tgS t1, i ∈ vs1) (hw : ∀ i ∈ vs1, i ∈ own.map (·.2))
    (hg : InBlk X scope fun B => SnT B tg t) (ht : InBlk X scope fun B => SnC B ifs c) (hi1 : InBlk X scope fun B => SnI B tg1 it1 ei1) (hg1 : InBlk X scope fun B => SnT B tg1 t1) (ht1 : InBlk X scope fun B => SnC B ifs1 c1) (he : InBlk X scope fun B => SnE B elt el)
    (hs : ∀ x, foldedSetIterable it X.env x = pure x) (hs1 : ∀ env x, foldedSetIterable it1 env x = pure x) (hst : starEach [Sc2 elt tg it tg1 it1 ifs ifs1 scope pos] X.env = (false, eval (Sc2 elt tg it tg1 it1 ifs ifs1 scope pos) X.env) :: starEach [] X.env) :
    SnF X (.Call (.Name "sorted" p) [Sc2 elt tg it tg1 it1 ifs ifs1 scope pos] [] q) (evSSet2 (evLc2 ei t c ei1 t1 c1 el (own.map (·.2)) vs1)) := fun F hK => by
  have pe := pe_sc2 (elt := elt) (pos := pos) (g := tGx X.K t) (tt := tCx X.K c) (wi1 := tIx X.K ei1) (g1 := tGx X.K t1) (tt1 := tCx X.K c1) (te := tEx X.K el) hc hN (hi F hK) ok hw (fun s H C cl fp => pg_x (hg s H C cl fp)) (fun s H C cl fp => ht s H C cl fp) (fun s H C cl fp => pi_x (hi1 s H C cl fp)) (fun s H C cl fp => pg_x (hg1 s H C cl fp)) (fun s H C cl fp => ht1 s H C cl fp) (fun s H C cl fp => pe_x (he s H C cl fp)) hs hs1
  refine peC (pe_callB (cr_sortedSet hc) hgl hmg (by decide +kernel) (pa_cons pe pa_nil hst)) fun σ H Q z => ?_
  obtain ⟨G, Γ, st, rs', st', R, hev, z⟩ := z
  unfold evSSet2 at hev
  split at hev
  · rename_i rs st9 h2
    split at hev
    · rename_i ns h3
      split at hev
      · rename_i hz
        obtain ⟨rfl, rfl⟩ := Prod.mk.inj (Option.some.inj hev)
        unfold evLc2 at h2
        split at h2
        · rename_i its st1 h1
          split at h2
          · rename_i rs0 st0 h0
            split at h2
            · obtain ⟨rfl, rfl⟩ := Prod.mk.inj (Option.some.inj h2)
              refine tAc2_of (o0 := S0 X.w) (AD := AdI X.w) (ob := ObI X.w) (Q := fun v H1 => rSortedSet X.w [v] H1 Q) hK (fun D => ?_) hv hv1 R h1 h0 (fun D vacc acc v x rest G2 H2 Nx e ra rv hD nx => ?_) fun D vacc H2 G2 E2 hn g2 hD ra => ?_
              · rfl
              · rw [e] at h3
                obtain ⟨n1, k, n2, i1, rfl, en⟩ := intsD_mid _ _ _ _ h3
                have ev := RpA.intsD ra i1
                subst ev
                cases rv
                have l1 : (srtU (intsV (n1.map V.int))).length ≤ 4000 := by
                  rw [intsV_map]
                  have := srtU_le n1
                  have := hz.1
                  rw [en, List.length_append] at this
                  omega
                refine ⟨k, _, _, rfl, hD, by unfold scanBound; omega, ?_⟩
                rw [← obI_add]
                exact nx
              · have ev := RpA.intsD ra h3
                subst ev
                refine ⟨D, _, _, rfl, hD, by rw [intsV_map]; exact hz.2, fun ns' p' hp hm' hl hn' => ?_⟩
                have en : ns' = srtU ns := srtU_of hp fun j => by rw [hm' j, intsV_map]; exact decide_eq_true_iff
                subst en
                exact fresh_of R E2 (RpA.ofInts _) hn' z
            · cases h2
          · cases h2
        · cases h2
      · cases hev
    · cases hev
  · cases hev
end
end Mn
namespace Mn
open PySem PySem.Spec PyProof.Rows L2
/-! the program's expressions, with places for names -/
inductive O2 where
  | add | sub | mul | pow | mod | fdiv | lt | le | gt | ge | eq | ne | is | isNot | in_ | notIn
  deriving DecidableEq
def O2.g : O2 → PyData → PyData → Option PyData
  | .add => gAdd
  | .sub => gSub
  | .mul => gMul
  | .pow => gPow
  | .mod => gMod
  | .fdiv => gFdiv
  | .lt => gLt
  | .le => gLe
  | .gt => gGt
  | .ge => gGe
  | .eq => gEq
  | .ne => gNe
  | .is => gIs
  | .isNot => gIsNot
  | .in_ => gIn
  | .notIn => gNotIn
inductive B1 where
  | len | tuple | all | any | min | max | int | repr
  deriving DecidableEq
def B1.g : B1 → List PyData → Option PyData
  | .len => gLen
  | .tuple => gTuple
  | .all => gAll
  | .any => gAny
  | .min => gMin2
  | .max => gMax2
  | .int => gInt1
  | .repr => gRepr
inductive F1 where
  | list | sorted
  deriving DecidableEq
def F1.g : F1 → List PyData → Option (List PyData)
  | .list => gListF
  | .sorted => gSortF
mutual
inductive IL where
  | k (d : PyData) | v (i : Nat) | tup (es : ILs) | fr (f : ILF)
  | and (a b : IL) | or (a b : IL) | not (a : IL) | neg (a : IL) | ite (c a b : IL)
  | op (o : O2) (a b : IL) | ix (a b : IL) | ch (o o' : O2) (a b c : IL)
  | cb (f : B1) (es : ILs) | isa (a : IL) (T : String) | tyis (a : IL) (T : String) (neg : Bool)
  | sl (a : IL) (lo hi : ILO) | lset (a : IL) | pix (i : Nat) (k : Int) | lenS (i : Nat) | d0 | rev (a : IL) | call (n : Nat) (as : ILG)
inductive ILs where
  | nil | cons (a : IL) (r : ILs)
inductive ILF where
  | lst (es : ILs) | cf (f : F1) (es : ILs) | sset (a : IL) | lrg (a : IL) | lc (it : ILI) (tg : Tg) (c : ILO) (el : IL) (vs : List Nat) | lc2 (it : ILI) (tg : Tg) (c : ILO) (it1 : ILI) (tg1 : Tg) (c1 : ILO) (el : IL) (vs vs1 : List Nat)
  | slc2 (it : ILI) (tg : Tg) (c : ILO) (it1 : ILI) (tg1 : Tg) (c1 : ILO) (el : IL) (vs vs1 : List Nat)
inductive ILI where
  | seq (a : IL) | r1 (a : IL) | r2 (a b : IL) | en (a : IL) | zp (a b : IL)
inductive ILO where
  | none | some (a : IL)
inductive ILG where
  | nil | d (a : IL) (r : ILG) | p (i : Nat) (r : ILG)
end
section
variable (Φ : Nat → Fn)
mutual
def evE : IL → EvE
  | .k d => evK d
  | .v i => evV i
  | .tup es => evTup (evEs es)
  | .fr f => evFr (evF f)
  | .and a b => evAnd (evE a) (evE b)
  | .or a b => evOr (evE a) (evE b)
  | .not a => evNot (evE a)
  | .neg a => evNeg (evE a)
  | .ite c a b => evIf (evE c) (evE a) (evE b)
  | .op o a b => ev2 o.g (evE a) (evE b)
  | .ix a b => ev2 gIx (evE a) (evE b)
  | .ch o o' a b c => evCh o.g o'.g (evE a) (evE b) (evE c)
  | .cb f es => evCall f.g (evEs es)
  | .isa a T => evIsa (evE a) T
  | .tyis a T n => evTyIs (evE a) T n
  | .sl a lo hi => evSl (evE a) (evO lo) (evO hi)
  | .lset a => evLSet (evE a)
  | .pix i k => evPix i k
  | .lenS i => evLenS i
  | .d0 => evD0
  | .rev a => evRev (evE a)
  | .call n as => evFn (Φ n) (evG as)
def evEs : ILs → EvA
  | .nil => evNil
  | .cons a r => evCons (evE a) (evEs r)
def evF : ILF → EvF
  | .lst es => evLst (evEs es)
  | .cf f es => evCallF f.g (evEs es)
  | .sset a => evSSet (evE a)
  | .lrg a => evLRg (evE a)
  | .lc it tg c el vs => evLc (evI it) tg (evC c) (evE el) vs
  | .lc2 it tg c it1 tg1 c1 el vs vs1 => evLc2 (evI it) tg (evC c) (evI it1) tg1 (evC c1) (evE el) vs vs1
  | .slc2 it tg c it1 tg1 c1 el vs vs1 => evSSet2 (evLc2 (evI it) tg (evC c) (evI it1) tg1 (evC c1) (evE el) vs vs1)
def evI : ILI → EvI
  | .seq a => evIt (evE a)
  | .r1 a => evRng1 (evE a)
  | .r2 a b => evRng2 (evE a) (evE b)
  | .en a => evEnum (evE a)
  | .zp a b => evZip (evE a) (evE b)
def evC : ILO → Option EvE
  | .none => .none
  | .some a => .some (evE a)
def evO : ILO → EvO
  | .none => evO0
  | .some a => evO1 (evE a)
def evG : ILG → EvG
  | .nil => evGN
  | .d a r => evGD (evE a) (evG r)
  | .p i r => evGP i (evG r)
end
end
/-! what a def's text leans on -/
structure Cc where
  N : List Str
  sc : Scope
  tgt : List Str
  bl : List Str
  gc : List (Str × Int)
  fns : List (Str × Nat)
  pens : List Nat
  rep : Bool
  own : List Nat := []
  scf : List Nat := []
  scr : List Nat := []
def gd {α : Type} (c : Bool) (x : Option α) : Option α := if c then x else none
theorem gd_some {α : Type} {c : Bool} {x : Option α} {r : α} (h : gd c x = some r) : c = true ∧ x = some r := by
  unfold gd at h
  split at h
  · exact ⟨by assumption, h⟩
  · cases h
theorem bd_some {α β : Type} {x : Option α} {f : α → Option β} {r : β} (h : x.bind f = some r) : ∃ a, x = some a ∧ f a = some r := Option.bind_eq_some_iff.mp h
def findIx : List Str → Str → Option Nat
  | [], _ => none
  | y :: r, x => if y == x then some 0 else (findIx r x).map (· + 1)
theorem findIx_get : ∀ {N : List Str} {x : Str} {i : Nat}, findIx N x = some i → N[i]? = some x
  | [], _, _, h => by cases h
  | y :: r, x, i, h => by
    unfold findIx at h
    split at h
    · rename_i e
      cases h
      rw [eq_of_beq e]
      rfl
    · cases h2 : findIx r x with
      | none => rw [h2] at h; cases h
      | some j =>
        rw [h2] at h
        cases h
        rw [List.getElem?_cons_succ]
        exact findIx_get h2
def visB (sc : Scope) (x : Str) : Bool := match sc.names.lookup x with
  | some .local => true
  | some .cell => true
  | some .free => true
  | _ => false
theorem visB_ok {sc : Scope} {x : Str} (h : visB sc x = true) : Vis sc x := by
  unfold visB at h
  split at h
  · exact .inl (by assumption)
  · exact .inr (.inl (by assumption))
  · exact .inr (.inr (by assumption))
  · cases h
def glB (sc : Scope) (x : Str) : Bool := decide (sc.names.lookup x = some .globalImplicit)
/-- no name that the machine takes for its own -/
def plainName (x : Str) : Bool := !(x == ("__debug__" : Str)) && !(x == ("__classdict__" : Str)) && !(x == ("__name__" : Str))
def notStar : Expr → Bool
  | .Starred .. => false
  | _ => true
def isIf : Expr → Bool
  | .IfExp .. => true
  | _ => false
theorem star_cons {e : Expr} {es : List Expr} {env : Env} (h : notStar e = true) : starEach (e :: es) env = (false, eval e env) :: starEach es env := by
  cases e <;> first | rfl | cases h
def opOf : Operator → Option O2
  | .Add => some .add
  | .Sub => some .sub
  | .Mult => some .mul
  | .Pow => some .pow
  | .Mod => some .mod
  | .FloorDiv => some .fdiv
  | _ => none
def cmpOf : CmpOp → Option O2
  | .Lt => some .lt
  | .LtE => some .le
  | .Gt => some .gt
  | .GtE => some .ge
  | .Eq => some .eq
  | .NotEq => some .ne
  | .Is => some .is
  | .IsNot => some .isNot
  | .In => some .in_
  | .NotIn => some .notIn
def bOf (x : Str) : Option B1 :=
  if x == ("len" : Str) then some .len else if x == ("tuple" : Str) then some .tuple else if x == ("all" : Str) then some .all else if x == ("any" : Str) then some .any
  else if x == ("min" : Str) then some .min else if x == ("max" : Str) then some .max else if x == ("int" : Str) then some .int else if x == ("repr" : Str) then some .repr else none
def fOf (x : Str) : Option F1 := if x == ("list" : Str) then some .list else if x == ("sorted" : Str) then some .sorted else none
def tyOf (x : Str) : Option String :=
  if x == ("int" : Str) then some "int" else if x == ("bool" : Str) then some "bool" else if x == ("tuple" : Str) then some "tuple" else if x == ("list" : Str) then some "list"
  else if x == ("str" : Str) then some "str" else if x == ("dict" : Str) then some "dict" else none
theorem tyOf_ok {x : Str} {T : String} (h : tyOf x = some T) : bootBuiltins x = some (.type T) := by
  unfold tyOf at h
  split at h
  · rename_i e; cases h; rw [eq_of_beq e]; decide +kernel
  · split at h
    · rename_i e; cases h; rw [eq_of_beq e]; decide +kernel
    · split at h
      · rename_i e; cases h; rw [eq_of_beq e]; decide +kernel
      · split at h
        · rename_i e; cases h; rw [eq_of_beq e]; decide +kernel
        · split at h
          · rename_i e; cases h; rw [eq_of_beq e]; decide +kernel
          · split at h
            · rename_i e; cases h; rw [eq_of_beq e]; decide +kernel
            · cases h
/-- set(e) -/
def setArg : Expr → Option Expr
  | .Call (.Name x _) [e] [] _ => if x == ("set" : Str) then some e else none
  | _ => none
theorem setArg_ok {e a : Expr} (h : setArg e = some a) : ∃ p q, e = .Call (.Name "set" p) [a] [] q := by
  unfold setArg at h
  split at h
  · split at h
    · rename_i e
      cases h
      rw [eq_of_beq e]
      exact ⟨_, _, rfl⟩
    · cases h
  · cases h
/-- range(e) -/
def rgArg : Expr → Option Expr
  | .Call (.Name x _) [e] [] _ => if x == ("range" : Str) then some e else none
  | _ => none
theorem rgArg_ok {e a : Expr} (h : rgArg e = some a) : ∃ p q, e = .Call (.Name "range" p) [a] [] q := by
  unfold rgArg at h
  split at h
  · split at h
    · rename_i e
      cases h
      rw [eq_of_beq e]
      exact ⟨_, _, rfl⟩
    · cases h
  · cases h
/-- type(e) -/
def tyArg : Expr → Option Expr
  | .Call (.Name x _) [e] [] _ => if x == ("type" : Str) then some e else none
  | _ => none
theorem tyArg_ok {e a : Expr} (h : tyArg e = some a) : ∃ p q, e = .Call (.Name "type" p) [a] [] q := by
  unfold tyArg at h
  split at h
  · split at h
    · rename_i e
      cases h
      rw [eq_of_beq e]
      exact ⟨_, _, rfl⟩
    · cases h
  · cases h
def plainIxB : Expr → Bool
  | .Slice .. => false
  | _ => true
theorem plainIx_ok {b : Expr} (h : plainIxB b = true) : PlainIx b := by
  intro o i
  cases b <;> first | rfl | cases h
/-- pen[k] -/
def penIx (cc : Cc) : Expr → Expr → Option (Nat × Int)
  | .Name x _, .Constant (.int k) _ _ => gd (plainName x && visB cc.sc x) ((findIx cc.N x).bind fun i => gd (cc.pens.contains i) (some (i, k)))
  | _, _ => none
/-- len(script) -/
def scrIx (cc : Cc) (x : Str) (a : Expr) (es : List Expr) : Option Nat := match a, es with
  | .Name y _, [] => gd (x == ("len" : Str) && plainName y && visB cc.sc y) ((findIx cc.N y).bind fun i => gd (cc.scr.contains i) (some i))
  | _, _ => none
def nameTy : Expr → Option String
  | .Name x _ => tyOf x
  | _ => none
def isTgt (cc : Cc) (x : Str) : Bool := cc.tgt.contains x
mutual
def compT : Nat → Cc → Expr → Option Tg
  | 0, _, _ => none
  | n + 1, cc, e => match e with
    | .Name x _ => gd (isTgt cc x) ((findIx cc.N x).bind fun i => some (.nm i))
    | .Tuple es _ _ => (compTs n cc es).bind fun ts => some (.tup ts)
    | _ => none
def compTs : Nat → Cc → List Expr → Option (List Tg)
  | 0, _, _ => none
  | n + 1, cc, es => match es with
    | [] => some []
    | e :: es => gd (notStar e) ((compT n cc e).bind fun t => (compTs n cc es).bind fun ts => some (t :: ts))
end
def blkOwn (N : List Str) (sc : Scope) : List (Str × Nat) := sc.names.filterMap fun y => match y.2 with
  | .local => (findIx N y.1).map fun i => (y.1, i)
  | .cell => (findIx N y.1).map fun i => (y.1, i)
  | _ => none
def blkCc (cc : Cc) (sc : Scope) : Cc := { cc with sc := relS sc cc.sc, tgt := sc.names.filterMap fun y => match y.2 with
  | .local => some y.1
  | .cell => some y.1
  | _ => none }
def isTupE : Expr → Bool
  | .Tuple .. => true
  | _ => false
def notSetD : Expr → Bool
  | .Set .. => false
  | _ => true
mutual
def compE : Nat → Cc → Expr → Option IL
  | 0, _, _ => none
  | n + 1, cc, e => match e with
    | .Constant c _ _ => (match c with
      | .int i => some (.k (.int i))
      | .bool b => some (.k (.bool b))
      | .none => some (.k .none)
      | .str x => some (.k (.str x))
      | _ => none)
    | .Name x _ => gd (plainName x) (if visB cc.sc x then (findIx cc.N x).bind fun i => some (.v i) else gd (glB cc.sc x) ((cc.gc.lookup x).bind fun i => some (.k (.int i))))
    | .Tuple es _ _ => (compEs n cc es).bind fun is => some (.tup is)
    | .List es p => (compF n cc (.List es p)).bind fun f => some (.fr f)
    | .ListComp el gs sc p => (compF n cc (.ListComp el gs sc p)).bind fun f => some (.fr f)
    | .BinOp a op b _ => (opOf op).bind fun o => (compE n cc a).bind fun ia => (compE n cc b).bind fun ib => some (.op o ia ib)
    | .Compare a [op] [b] _ => (match tyArg a, nameTy b with
      | some a', some T => gd (notStar a' && glB cc.sc "type" && cc.bl.contains "type" && (match b with | .Name x _ => glB cc.sc x && cc.bl.contains x && plainName x | _ => false) && (decide (op = .Is) || decide (op = .IsNot))) ((compE n cc a').bind fun ia => some (.tyis ia T (decide (op = .IsNot))))
      | _, _ => gd (!behindInMarks op b) ((cmpOf op).bind fun o => (compE n cc a).bind fun ia => (compE n cc b).bind fun ib => some (.op o ia ib)))
    | .Compare a [op, op'] [b, c] _ => gd (!lastMarks [op, op'] [b, c]) ((cmpOf op).bind fun o => (cmpOf op').bind fun o' => (compE n cc a).bind fun ia => (compE n cc b).bind fun ib => (compE n cc c).bind fun ic => some (.ch o o' ia ib ic))
    | .BoolOp op vs _ => compB n cc op vs
    | .UnaryOp .Not a _ => gd (!isIf a) ((compE n cc a).bind fun ia => some (.not ia))
    | .UnaryOp .USub a _ => (compE n cc a).bind fun ia => some (.neg ia)
    | .IfExp c a b _ => gd (!isIf c) ((compE n cc c).bind fun ic => (compE n cc a).bind fun ia => (compE n cc b).bind fun ib => some (.ite ic ia ib))
    | .Subscript a (.Slice none none (some (.UnaryOp .USub (.Constant (.int 1) _ _) _)) _) _ => (compE n cc a).bind fun ia => some (.rev ia)
    | .Subscript a (.Slice lo hi none _) _ => (compE n cc a).bind fun ia => (compO n cc lo).bind fun il => (compO n cc hi).bind fun ih => some (.sl ia il ih)
    | .Subscript a b _ => match penIx cc a b with
      | some (i, k) => some (.pix i k)
      | none => gd (plainIxB b) ((compE n cc a).bind fun ia => (compE n cc b).bind fun ib => some (.ix ia ib))
    | .Call (.Name x p) (a :: es) [] q => compCall n cc x p a es q
    | .Dict [] [] _ => some .d0
    | _ => none
def compCall : Nat → Cc → Str → Pos → Expr → List Expr → Pos → Option IL
  | 0, _, _, _, _, _, _ => none
  | n + 1, cc, x, p, a, es, q =>
    gd (glB cc.sc x && plainName x && notStar a && es.all notStar)
    (match cc.fns.lookup x with
    | some f => (compG n cc (a :: es)).bind fun g => some (.call f g)
    | none => gd (cc.bl.contains x)
      (match scrIx cc x a es with
      | some i => some (.lenS i)
      | none => if x == ("isinstance" : Str) then (match es with
        | [.Name y _] => (tyOf y).bind fun T => gd (glB cc.sc y && cc.bl.contains y && plainName y) ((compE n cc a).bind fun ia => some (.isa ia T))
        | _ => none)
      else match bOf x with
        | some b => (match setArg a, es with
          | some a', [] => if x == ("len" : Str) then gd (notStar a' && glB cc.sc "set" && cc.bl.contains "set") ((compE n cc a').bind fun ia => some (.lset ia)) else none
          | _, _ => gd (!decide (b = .repr) || cc.rep) ((compEs n cc (a :: es)).bind fun is => some (.cb b is)))
        | none => (compF n cc (.Call (.Name x p) (a :: es) [] q)).bind fun f => some (.fr f)))
def compB : Nat → Cc → BoolOp → List Expr → Option IL
  | 0, _, _, _ => none
  | n + 1, cc, op, vs => match vs with
    | [] => none
    | [a] => gd (!isIf a) (compE n cc a)
    | a :: b :: r => gd (!isIf a) ((compE n cc a).bind fun ia => (compB n cc op (b :: r)).bind fun ib => match op with
      | .And => some (.and ia ib)
      | .Or => some (.or ia ib))
def compEs : Nat → Cc → List Expr → Option ILs
  | 0, _, _ => none
  | n + 1, cc, es => match es with
    | [] => some .nil
    | e :: es => gd (notStar e) ((compE n cc e).bind fun i => (compEs n cc es).bind fun is => some (.cons i is))
def compF : Nat → Cc → Expr → Option ILF
  | 0, _, _ => none
  | n + 1, cc, e => match e with
    | .List es _ => (compEs n cc es).bind fun is => some (.lst is)
    | .Call (.Name x _) [.SetComp el [⟨tg, it, ifs, 0⟩, ⟨tg1, it1, ifs1, 0⟩] sc _] [] _ => gd ((x == ("sorted" : Str) && glB cc.sc x && cc.bl.contains x) && (blkC cc.N cc.sc sc (blkOwn cc.N sc) && notSetD it && notSetD it1)) ((compI n cc tg it).bind fun ii => (compT n (blkCc cc sc) tg).bind fun t => (compT n (blkCc cc sc) tg1).bind fun t1 =>
        gd ((tgS t).all (fun i => ((blkOwn cc.N sc).map (·.2)).contains i) && (tgS t1).all fun i => ((blkOwn cc.N sc).map (·.2)).contains i) ((compC n (blkCc cc sc) ifs).bind fun ic => (compI n (blkCc cc sc) tg1 it1).bind fun ii1 => (compC n (blkCc cc sc) ifs1).bind fun ic1 => (compE n (blkCc cc sc) el).bind fun ie => some (.slc2 ii t ic ii1 t1 ic1 ie ((blkOwn cc.N sc).map (·.2)) (tgS t1))))
    | .Call (.Name x _) (a :: es) [] _ => gd (glB cc.sc x && plainName x && notStar a && cc.bl.contains x) (match setArg a, es with
      | some a', [] => gd (x == ("sorted" : Str) && notStar a' && glB cc.sc "set" && cc.bl.contains "set") ((compE n cc a').bind fun ia => some (.sset ia))
      | _, _ => match rgArg a, es with
        | some a', [] => gd (x == ("list" : Str) && notStar a' && glB cc.sc "range" && cc.bl.contains "range") ((compE n cc a').bind fun ia => some (.lrg ia))
        | _, _ => (fOf x).bind fun f => gd (es.all notStar) ((compEs n cc (a :: es)).bind fun is => some (.cf f is)))
    | .ListComp el [⟨tg, it, ifs, 0⟩] sc _ => gd (blkC cc.N cc.sc sc (blkOwn cc.N sc) && notSetD it) ((compI n cc tg it).bind fun ii => (compT n (blkCc cc sc) tg).bind fun t =>
        gd ((tgS t).all fun i => ((blkOwn cc.N sc).map (·.2)).contains i) ((compC n (blkCc cc sc) ifs).bind fun ic => (compE n (blkCc cc sc) el).bind fun ie => some (.lc ii t ic ie ((blkOwn cc.N sc).map (·.2)))))
    | .ListComp el [⟨tg, it, ifs, 0⟩, ⟨tg1, it1, ifs1, 0⟩] sc _ => gd (blkC cc.N cc.sc sc (blkOwn cc.N sc) && notSetD it && notSetD it1) ((compI n cc tg it).bind fun ii => (compT n (blkCc cc sc) tg).bind fun t => (compT n (blkCc cc sc) tg1).bind fun t1 =>
        gd ((tgS t).all (fun i => ((blkOwn cc.N sc).map (·.2)).contains i) && (tgS t1).all fun i => ((blkOwn cc.N sc).map (·.2)).contains i) ((compC n (blkCc cc sc) ifs).bind fun ic => (compI n (blkCc cc sc) tg1 it1).bind fun ii1 => (compC n (blkCc cc sc) ifs1).bind fun ic1 => (compE n (blkCc cc sc) el).bind fun ie => some (.lc2 ii t ic ii1 t1 ic1 ie ((blkOwn cc.N sc).map (·.2)) (tgS t1))))
    | _ => none
def compI : Nat → Cc → Expr → Expr → Option ILI
  | 0, _, _, _ => none
  | n + 1, cc, tg, it => match it with
    | .Call (.Name x _) es [] _ =>
      if glB cc.sc x && cc.bl.contains x && x == ("range" : Str) then (match es with
        | [a] => gd (notStar a) ((compE n cc a).bind fun ia => some (.r1 ia))
        | [a, b] => gd (notStar a && notStar b) ((compE n cc a).bind fun ia => (compE n cc b).bind fun ib => some (.r2 ia ib))
        | _ => none)
      else if glB cc.sc x && cc.bl.contains x && x == ("enumerate" : Str) then (match es with
        | [a] => gd (isTupE tg && notStar a) ((compE n cc a).bind fun ia => some (.en ia))
        | _ => none)
      else if glB cc.sc x && cc.bl.contains x && x == ("zip" : Str) then (match es with
        | [a, b] => gd (isTupE tg && notStar a && notStar b) ((compE n cc a).bind fun ia => (compE n cc b).bind fun ib => some (.zp ia ib))
        | _ => none)
      else (compE n cc it).bind fun ia => some (.seq ia)
    | _ => (compE n cc it).bind fun ia => some (.seq ia)
def compC : Nat → Cc → List Expr → Option ILO
  | 0, _, _ => none
  | n + 1, cc, es => match es with
    | [] => some .none
    | [e] => gd (!isIf e) ((compE n cc e).bind fun i => some (.some i))
    | _ => none
def compO : Nat → Cc → Option Expr → Option ILO
  | 0, _, _ => none
  | n + 1, cc, e => match e with
    | none => some .none
    | some e => (compE n cc e).bind fun i => some (.some i)
def compG : Nat → Cc → List Expr → Option ILG
  | 0, _, _ => none
  | n + 1, cc, es => match es with
    | [] => some .nil
    | e :: es => gd (notStar e) (match (match e with | .Name x _ => gd (plainName x && visB cc.sc x) ((findIx cc.N x).bind fun i => if cc.pens.contains i then some i else none) | _ => none) with
      | some i => (compG n cc es).bind fun g => some (.p i g)
      | none => (compE n cc e).bind fun i => (compG n cc es).bind fun g => some (.d i g))
end
end Mn
namespace Mn
open PySem PySem.Spec PyProof.Rows L2
structure Ok (Φ : Nat → Fn) (X : Cx) (cc : Cc) : Prop where
  N : X.N = cc.N
  nd : X.N.Nodup
  sc : X.env.scope = cc.sc
  calm : X.calm = true
  tgt : ∀ x, isTgt cc x = true → Loc X.env.scope x ∧ (X.fn x = true ∨ X.env.scope.names.lookup x = some .local)
  bl : ∀ x, cc.bl.contains x = true → X.mg x = none
  gc : ∀ x i, cc.gc.lookup x = some i → ∃ t, X.mg x = some (.int i t)
  fn : ∀ x n, cc.fns.lookup x = some n → Cal X x (Φ n)
  hu : X.A.units + 70 < cLine
  rep : cc.rep = true → X.A.guards = some [] ∧ SM X
section
variable {Φ : Nat → Fn} {X : Cx} {cc : Cc}
theorem Ok.ix (ok : Ok Φ X cc) {x : Str} {i : Nat} (h : findIx cc.N x = some i) : X.N[i]? = some x := by rw [ok.N]; exact findIx_get h
theorem Ok.vis (ok : Ok Φ X cc) {x : Str} (h : visB cc.sc x = true) : Vis X.env.scope x := by rw [ok.sc]; exact visB_ok h
theorem Ok.gl (ok : Ok Φ X cc) {x : Str} (h : glB cc.sc x = true) : Gl X x := by
  show X.env.scope.names.lookup x = _
  rw [ok.sc]
  exact of_decide_eq_true h
theorem plain1 {x : Str} (h : plainName x = true) : (x == ("__debug__" : Str)) = false ∧ (x == ("__classdict__" : Str)) = false ∧ x ≠ "__name__" := by
  unfold plainName at h
  simp only [Bool.and_eq_true, Bool.not_eq_true'] at h
  refine ⟨h.1.1, h.1.2, fun e => ?_⟩
  subst e
  have := h.2
  revert this
  decide
theorem opOf_ok {op : Operator} {o : O2} (h : opOf op = some o) : OpR X (binaryOp op) (r2 X.K o.g) := by
  cases op <;> first | (cases h; done) | (cases h; first | exact d_add | exact d_sub | exact d_mul | exact d_pow | exact d_mod | exact d_fdiv)
theorem cmpOf_ok (hu : X.A.units + 70 < cLine) {op : CmpOp} {o : O2} (h : cmpOf op = some o) : OpR X (compareOp op) (r2 X.K o.g) := by
  cases op <;> first | (cases h; done) | (cases h; first | exact d_lt (by omega) | exact d_le (by omega) | exact d_gt (by omega) | exact d_ge (by omega) | exact d_eq (by omega) | exact d_ne (by omega) | exact d_is | exact d_isNot | exact d_in (by omega) | exact d_notIn (by omega))
theorem back_any {es : List Expr} {env : Env} {pos : Pos} (h : es.all notStar = true) : (backTo pos (starEach es env)).any (·.1) = false := by
  induction es with
  | nil => rfl
  | cons e es ih =>
    rw [List.all_cons, Bool.and_eq_true] at h
    rw [star_cons h.1]
    show (false || (backTo pos (starEach es env)).any (·.1)) = false
    rw [ih h.2]
    rfl
theorem bOf_ok (ok : Ok Φ X cc) {x : Str} {b : B1} (h : bOf x = some b) (hr : (!decide (b = .repr) || cc.rep) = true) (hg : Gl X x) (hm : X.mg x = none) (hp : plainName x = true) {a : Expr} {es : List Expr} {er : EvA} (ha : SnA X (a :: es) er) (hs : notStar a = true) (hes : es.all notStar = true) {p q : Pos} :
    SnE X (.Call (.Name x p) (a :: es) [] q) (evCall b.g er) := fun F hK => by
  obtain ⟨p1, p2, p3⟩ := plain1 hp
  have s1 := star_cons (es := es) (env := X.env) hs
  have s2 := back_any (env := X.env) (pos := q) hes
  have fin : ∀ {id : String} (hc : CallR X (.builtin id) (rn X.K b.g)) (hv : bootBuiltins x = some (.builtin id)), PE X (.Call (.Name x p) (a :: es) [] q) (tE F (evCall b.g er)) := fun hc hv =>
    peC (pe_callB hc hg hm hv (ha F hK) p3 p1 s1 s2) fun σ H Q q => tCB_of hK q
  have finT : ∀ {T : String} (hc : CallR X (.type T) (rn X.K b.g)) (hv : bootBuiltins x = some (.type T)), PE X (.Call (.Name x p) (a :: es) [] q) (tE F (evCall b.g er)) := fun hc hv =>
    peC (pe_callTy hc hg hm hv (ha F hK) p3 p1 s1 s2) fun σ H Q q => tCB_of hK q
  have hc := ok.calm
  unfold bOf at h
  split at h
  · rename_i e; cases h; exact fin d_len (by rw [eq_of_beq e]; decide +kernel)
  · split at h
    · rename_i e; cases h; exact finT d_tuple (by rw [eq_of_beq e]; decide +kernel)
    · split at h
      · rename_i e; cases h; exact fin (d_all hc) (by rw [eq_of_beq e]; decide +kernel)
      · split at h
        · rename_i e; cases h; exact fin (d_any hc) (by rw [eq_of_beq e]; decide +kernel)
        · split at h
          · rename_i e; cases h; exact fin (d_min2 hc) (by rw [eq_of_beq e]; decide +kernel)
          · split at h
            · rename_i e; cases h; exact fin (d_max2 hc) (by rw [eq_of_beq e]; decide +kernel)
            · split at h
              · rename_i e; cases h; exact finT d_int1 (by rw [eq_of_beq e]; decide +kernel)
              · split at h
                · rename_i e
                  cases h
                  have hr' : cc.rep = true := by simpa using hr
                  exact fin (d_repr ok.hu (ok.rep hr').1 (ok.rep hr').2) (by rw [eq_of_beq e]; decide +kernel)
                · cases h
theorem fOf_ok {x : Str} {f : F1} (h : fOf x = some f) (hg : Gl X x) (hm : X.mg x = none) (hp : plainName x = true) {a : Expr} {es : List Expr} {er : EvA} (ha : SnA X (a :: es) er) (hs : notStar a = true) (hes : es.all notStar = true) {p q : Pos} :
    SnF X (.Call (.Name x p) (a :: es) [] q) (evCallF f.g er) := fun F hK => by
  obtain ⟨p1, p2, p3⟩ := plain1 hp
  have s1 := star_cons (es := es) (env := X.env) hs
  have s2 := back_any (env := X.env) (pos := q) hes
  unfold fOf at h
  split at h
  · rename_i e; cases h
    exact peC (pe_callTy d_list hg hm (by rw [eq_of_beq e]; decide +kernel) (ha F hK) p3 p1 s1 s2) fun σ H Q q => tCBF_of hK q
  · split at h
    · rename_i e; cases h
      exact peC (pe_callB d_sorted hg hm (by rw [eq_of_beq e]; decide +kernel) (ha F hK) p3 p1 s1 s2) fun σ H Q q => tCBF_of hK q
    · cases h
/-- a comprehension's block -/
theorem Ok.blk (ok : Ok Φ X cc) {sc : Scope} (hb : BlkOk X.N X.env.scope sc (blkOwn cc.N sc)) (s : Shared) (H : Hp) (C : Addr) (cl : List (Str × Addr)) (fp : List Addr) : Ok Φ (X.blk s H sc (compEnvC sc cl C X.env) fp) (blkCc cc sc) where
  N := ok.N
  nd := ok.nd
  sc := by
    show relabel sc X.env = relS sc cc.sc
    rw [← ok.sc]
    rfl
  calm := ok.calm
  tgt := fun x h => by
    have hm : x ∈ (blkCc cc sc).tgt := by
      unfold isTgt at h
      exact List.contains_iff_mem.mp h
    unfold blkCc at hm
    dsimp only at hm
    obtain ⟨y, hy, e⟩ := List.mem_filterMap.mp hm
    have key : ∀ k, y.2 = k → k ≠ .free → sc.names.lookup y.1 = some k → (relS sc X.env.scope).names.lookup y.1 = some k := fun k _ hk h => lookup_relS_keep hk h
    have hl := hb.uniq y hy
    cases hk : y.2 with
    | «local» =>
      rw [hk] at e hl
      have e' : y.1 = x := Option.some.inj e
      subst e'
      have q := key _ hk (by decide) hl
      exact ⟨.inl q, .inr q⟩
    | cell =>
      rw [hk] at e hl
      have e' : y.1 = x := Option.some.inj e
      subst e'
      have q := key _ hk (by decide) hl
      refine ⟨.inr q, .inl ?_⟩
      show (sc.names.lookup y.1 == some .cell) = true
      rw [hl]
      rfl
    | _ => rw [hk] at e; cases e
  bl := ok.bl
  gc := ok.gc
  fn := fun x n h => ⟨(ok.fn x n h).ex⟩
  hu := ok.hu
  rep := ok.rep
theorem each_cons {e : Expr} {es : List Expr} {env : Env} (h : notStar e = true) : assignEach (e :: es) env = (false, assign e env) :: assignEach es env := by
  cases e <;> first | rfl | cases h
theorem compT_ok (ok : Ok Φ X cc) : ∀ n, (∀ e t, compT n cc e = some t → SnT X e t) ∧ ∀ es ts, compTs n cc es = some ts → SnTs X es ts
  | 0 => ⟨fun e t h => (by simp only [compT] at h; cases h), fun es ts h => (by simp only [compTs] at h; cases h)⟩
  | n + 1 => by
    obtain ⟨ih1, ih2⟩ := compT_ok ok n
    refine ⟨fun e t h => ?_, fun es ts h => ?_⟩
    · simp only [compT] at h
      split at h
      · replace h := gd_some h
        obtain ⟨h1, h⟩ := h
        replace h := bd_some h
        obtain ⟨i, h2, h⟩ := h
        cases h
        obtain ⟨a, b⟩ := ok.tgt _ h1
        exact st_name ok.nd (ok.ix h2) a b
      · replace h := bd_some h
        obtain ⟨ts, h2, h⟩ := h
        cases h
        exact st_tup ok.calm (ih2 _ _ h2)
      · cases h
    · simp only [compTs] at h
      split at h
      · cases h; exact sts_nil
      · replace h := gd_some h
        obtain ⟨h1, h⟩ := h
        replace h := bd_some h
        obtain ⟨t, h2, h⟩ := h
        replace h := bd_some h
        obtain ⟨ts', h3, h⟩ := h
        cases h
        exact sts_cons (ih1 _ _ h2) (ih2 _ _ h3) (each_cons h1)
end
theorem penIx_ok (ok : Ok Φ X cc) {a b : Expr} {i : Nat} {k : Int} (h : penIx cc a b = some (i, k)) : PE X a (tVar i) ∧ PE X b (tC (.int k)) ∧ PlainIx b ∧ (∃ y p, a = .Name y p) ∧ ∃ z p, b = .Constant (.int k) z p := by
  unfold penIx at h
  split at h
  · replace h := gd_some h
    obtain ⟨hc, h⟩ := h
    rw [Bool.and_eq_true] at hc
    replace h := bd_some h
    obtain ⟨j, h2, h⟩ := h
    replace h := gd_some h
    obtain ⟨_, h⟩ := h
    obtain ⟨rfl, rfl⟩ := Prod.mk.inj (Option.some.inj h)
    obtain ⟨p1, p2, _⟩ := plain1 hc.1
    exact ⟨pe_var (ok.ix h2) (ok.vis hc.2) p1 p2, pe_int, plainIx_ok rfl, ⟨_, _, rfl⟩, ⟨_, _, rfl⟩⟩
  · cases h
theorem scrIx_ok (ok : Ok Φ X cc) {x : Str} {a : Expr} {es : List Expr} {i : Nat} (h : scrIx cc x a es = some i) : x = "len" ∧ es = [] ∧ PE X a (tVar i) := by
  unfold scrIx at h
  split at h
  · replace h := gd_some h
    obtain ⟨hc, h⟩ := h
    simp only [Bool.and_eq_true] at hc
    replace h := bd_some h
    obtain ⟨j, h2, h⟩ := h
    replace h := gd_some h
    obtain ⟨_, h⟩ := h
    cases h
    obtain ⟨p1, p2, _⟩ := plain1 hc.1.2
    exact ⟨eq_of_beq hc.1.1, rfl, pe_var (ok.ix h2) (ok.vis hc.2) p1 p2⟩
  · cases h
def isRng : ILI → Bool
  | .r1 _ => true
  | .r2 _ _ => true
  | _ => false
structure PAll (Φ : Nat → Fn) (n : Nat) : Prop where
  e : ∀ X cc, Ok Φ X cc → ∀ e il, compE n cc e = some il → SnE X e (evE Φ il) ∧ (isIf e = false → Sn X e (evE Φ il))
  call : ∀ X cc, Ok Φ X cc → ∀ x p a es q il, compCall n cc x p a es q = some il → SnE X (.Call (.Name x p) (a :: es) [] q) (evE Φ il)
  b : ∀ X cc, Ok Φ X cc → ∀ op vs il pos, compB n cc op vs = some il → ∀ F : Fz, F.K = X.K → PE X (.BoolOp op vs pos) (tE F (evE Φ il)) ∧ PW X (.BoolOp op vs pos) (tT F (evE Φ il))
  es : ∀ X cc, Ok Φ X cc → ∀ es is, compEs n cc es = some is → SnA X es (evEs Φ is)
  f : ∀ X cc, Ok Φ X cc → ∀ e i, compF n cc e = some i → SnF X e (evF Φ i)
  i : ∀ X cc, Ok Φ X cc → ∀ tg e i, compI n cc tg e = some i → SnI X tg e (evI Φ i)
  ir : ∀ X cc, Ok Φ X cc → ∀ tg e i, compI n cc tg e = some i → isRng i = true → SnIR X tg e (evI Φ i)
  c : ∀ X cc, Ok Φ X cc → ∀ es i, compC n cc es = some i → SnC X es (evC Φ i)
  o : ∀ X cc, Ok Φ X cc → ∀ e i, compO n cc e = some i → ∀ F : Fz, F.K = X.K → PO X e (tOp1 F (evO Φ i))
  g : ∀ X cc, Ok Φ X cc → ∀ es i, compG n cc es = some i → SnG X es (evG Φ i)
theorem SnE.both {X : Cx} {e : Expr} {ev : EvE} (h : SnE X e ev) (he : ∀ whole, isTrue e X.env whole = (do let v ← whole; standAt e.pos; holding [v] (truthy v))) : SnE X e ev ∧ (isIf e = false → Sn X e ev) := ⟨h, fun _ => Sn.plain h he⟩
theorem Sn.both {X : Cx} {e : Expr} {ev : EvE} (h : Sn X e ev) : SnE X e ev ∧ (isIf e = false → Sn X e ev) := ⟨h.e, fun _ => h⟩
theorem notB {b : Bool} (h : (!b) = true) : b = false := by cases b <;> first | rfl | cases h
theorem stepE {Φ : Nat → Fn} {n : Nat} (P : PAll Φ n) : ∀ X cc, Ok Φ X cc → ∀ e il, compE (n + 1) cc e = some il → SnE X e (evE Φ il) ∧ (isIf e = false → Sn X e (evE Φ il)) := by
  intro X cc ok e il h
  simp only [compE] at h
  split at h
  · -- Constant
    split at h
    · cases h; exact SnE.both (fun F hK => sn_const pe_int fun G => .int _) fun _ => rfl
    · cases h; exact SnE.both (fun F hK => sn_const pe_bl fun G => .bl _) fun _ => rfl
    · cases h; exact SnE.both (fun F hK => sn_const pe_non fun G => .non) fun _ => rfl
    · cases h; exact SnE.both (fun F hK => sn_const pe_str fun G => .str _) fun _ => rfl
    · cases h
  · -- Name
    replace h := gd_some h
    obtain ⟨hp, h⟩ := h
    obtain ⟨p1, p2, p3⟩ := plain1 hp
    split at h
    · rename_i hv
      replace h := bd_some h
      obtain ⟨i, h2, h⟩ := h
      cases h
      exact SnE.both (fun F hK => sn_var (pe_var (ok.ix h2) (ok.vis hv) p1 p2)) fun _ => rfl
    · replace h := gd_some h
      obtain ⟨hg, h⟩ := h
      replace h := bd_some h
      obtain ⟨i, h2, h⟩ := h
      cases h
      obtain ⟨t, hm⟩ := ok.gc _ _ h2
      exact SnE.both (fun F hK => sn_const (pe_glob (v := .int i) (ok.gl hg) hm ⟨t, rfl⟩ p1) fun G => .int _) fun _ => rfl
  · -- Tuple
    replace h := bd_some h
    obtain ⟨is, h2, h⟩ := h
    cases h
    exact SnE.both (fun F hK => sn_tup (P.es X cc ok _ _ h2 F hK)) fun _ => rfl
  · -- List
    replace h := bd_some h
    obtain ⟨f, h2, h⟩ := h
    cases h
    exact SnE.both (fun F hK => sn_fr (P.f X cc ok _ _ h2 F hK)) fun _ => rfl
  · -- ListComp
    replace h := bd_some h
    obtain ⟨f, h2, h⟩ := h
    cases h
    exact SnE.both (fun F hK => sn_fr (P.f X cc ok _ _ h2 F hK)) fun _ => rfl
  · -- BinOp
    replace h := bd_some h
    obtain ⟨o, h2, h⟩ := h
    replace h := bd_some h
    obtain ⟨ia, h3, h⟩ := h
    replace h := bd_some h
    obtain ⟨ib, h4, h⟩ := h
    cases h
    exact SnE.both (fun F hK => pe_bin hK (opOf_ok h2) ((P.e X cc ok _ _ h3).1 F hK) ((P.e X cc ok _ _ h4).1 F hK)) fun _ => rfl
  · -- Compare, one
    split at h
    · rename_i a' T ha hb
      replace h := gd_some h
      obtain ⟨hc, h⟩ := h
      replace h := bd_some h
      obtain ⟨ia, h3, h⟩ := h
      cases h
      simp only [Bool.and_eq_true, Bool.or_eq_true, decide_eq_true_eq] at hc
      obtain ⟨⟨⟨⟨c1, c2⟩, c3⟩, c4⟩, c5⟩ := hc
      obtain ⟨p, q, e⟩ := tyArg_ok ha
      subst e
      unfold nameTy at hb
      split at hb
      · rename_i x px
        simp only [Bool.and_eq_true] at c4
        obtain ⟨⟨d1, d2⟩, d3⟩ := c4
        obtain ⟨q1, q2, q3⟩ := plain1 d3
        refine Sn.both ?_
        rcases c5 with rfl | rfl
        · exact sn_tyIs false (ok.gl c2) (ok.bl _ c3) (ok.gl d1) (ok.bl _ d2) (tyOf_ok hb) q3 q1 (P.e X cc ok _ _ h3).1 (star_cons c1)
        · exact sn_tyIs true (ok.gl c2) (ok.bl _ c3) (ok.gl d1) (ok.bl _ d2) (tyOf_ok hb) q3 q1 (P.e X cc ok _ _ h3).1 (star_cons c1)
      · cases hb
    · replace h := gd_some h
      obtain ⟨hm, h⟩ := h
      replace h := bd_some h
      obtain ⟨o, h2, h⟩ := h
      replace h := bd_some h
      obtain ⟨ia, h3, h⟩ := h
      replace h := bd_some h
      obtain ⟨ib, h4, h⟩ := h
      cases h
      exact Sn.both fun F hK => sn_cmp hK (cmpOf_ok ok.hu h2) ((P.e X cc ok _ _ h3).1 F hK) ((P.e X cc ok _ _ h4).1 F hK) (notB hm)
  · -- Compare, two
    replace h := gd_some h
    obtain ⟨hm, h⟩ := h
    replace h := bd_some h
    obtain ⟨o, h2, h⟩ := h
    replace h := bd_some h
    obtain ⟨o', h2', h⟩ := h
    replace h := bd_some h
    obtain ⟨ia, h3, h⟩ := h
    replace h := bd_some h
    obtain ⟨ib, h4, h⟩ := h
    replace h := bd_some h
    obtain ⟨ic, h5, h⟩ := h
    cases h
    exact Sn.both fun F hK => sn_chain hK (cmpOf_ok ok.hu h2) (cmpOf_ok ok.hu h2') ((P.e X cc ok _ _ h3).1 F hK) ((P.e X cc ok _ _ h4).1 F hK) ((P.e X cc ok _ _ h5).1 F hK) (notB hm)
  · -- BoolOp
    exact Sn.both fun F hK => ⟨(P.b X cc ok _ _ _ _ h F hK).1, (P.b X cc ok _ _ _ _ h F hK).2.pt⟩
  · -- Not
    replace h := gd_some h
    obtain ⟨hi, h⟩ := h
    replace h := bd_some h
    obtain ⟨ia, h3, h⟩ := h
    cases h
    exact Sn.both fun F hK => sn_not ((P.e X cc ok _ _ h3).2 (notB hi) F hK)
  · -- minus
    replace h := bd_some h
    obtain ⟨ia, h3, h⟩ := h
    cases h
    exact SnE.both (se_neg (P.e X cc ok _ _ h3).1) fun _ => rfl
  · -- IfExp
    replace h := gd_some h
    obtain ⟨hi, h⟩ := h
    replace h := bd_some h
    obtain ⟨ic, h2, h⟩ := h
    replace h := bd_some h
    obtain ⟨ia, h3, h⟩ := h
    replace h := bd_some h
    obtain ⟨ib, h4, h⟩ := h
    cases h
    exact ⟨fun F hK => sn_if ((P.e X cc ok _ _ h2).2 (notB hi) F hK) ((P.e X cc ok _ _ h3).1 F hK) ((P.e X cc ok _ _ h4).1 F hK), fun z => by cases z⟩
  · -- reversed
    replace h := bd_some h
    obtain ⟨ia, h2, h⟩ := h
    cases h
    exact SnE.both (sn_rev (P.e X cc ok _ _ h2).1) fun _ => rfl
  · -- slice
    replace h := bd_some h
    obtain ⟨ia, h2, h⟩ := h
    replace h := bd_some h
    obtain ⟨il, h3, h⟩ := h
    replace h := bd_some h
    obtain ⟨ih, h4, h⟩ := h
    cases h
    exact SnE.both (fun F hK => sn_slice hK ((P.e X cc ok _ _ h2).1 F hK) (P.o X cc ok _ _ h3 F hK) (P.o X cc ok _ _ h4 F hK)) fun _ => rfl
  · -- index
    split at h
    · rename_i i k hp
      cases h
      obtain ⟨q1, q2, q3, _⟩ := penIx_ok ok hp
      exact SnE.both (se_pix q1 q2 q3) fun _ => rfl
    · replace h := gd_some h
      obtain ⟨hi, h⟩ := h
      replace h := bd_some h
      obtain ⟨ia, h2, h⟩ := h
      replace h := bd_some h
      obtain ⟨ib, h3, h⟩ := h
      cases h
      exact SnE.both (fun F hK => pe_ix2 hK d_ix ((P.e X cc ok _ _ h2).1 F hK) ((P.e X cc ok _ _ h3).1 F hK) (plainIx_ok hi)) fun _ => rfl
  · -- call
    exact SnE.both (P.call X cc ok _ _ _ _ _ _ h) fun _ => rfl
  · -- {}
    cases h
    exact SnE.both se_d0 fun _ => rfl
  · cases h
theorem stepCall {Φ : Nat → Fn} {n : Nat} (P : PAll Φ n) : ∀ X cc, Ok Φ X cc → ∀ x p a es q il, compCall (n + 1) cc x p a es q = some il → SnE X (.Call (.Name x p) (a :: es) [] q) (evE Φ il) := by
  intro X cc ok x p a es q il h
  simp only [compCall] at h
  replace h := gd_some h
  obtain ⟨hc, h⟩ := h
  simp only [Bool.and_eq_true] at hc
  obtain ⟨⟨⟨c1, c2⟩, c3⟩, c4⟩ := hc
  obtain ⟨p1, p2, p3⟩ := plain1 c2
  split at h
  · rename_i f hf
    replace h := bd_some h
    obtain ⟨g, h2, h⟩ := h
    cases h
    exact sn_call (ok.fn _ _ hf) (ok.gl c1) (P.g X cc ok _ _ h2) p1 (star_cons c3) (back_any c4)
  · replace h := gd_some h
    obtain ⟨hb, h⟩ := h
    split at h
    · rename_i i hi
      cases h
      obtain ⟨e1, e2, q⟩ := scrIx_ok ok hi
      subst e1 e2
      exact se_lenS (ok.gl c1) (ok.bl _ hb) q (star_cons c3)
    · rename_i hsc
      clear hsc
      split at h
      · rename_i hx
        have hx := eq_of_beq hx
        subst hx
        split at h
        · rename_i y py
          replace h := bd_some h
          obtain ⟨T, h2, h⟩ := h
          replace h := gd_some h
          obtain ⟨hc, h⟩ := h
          replace h := bd_some h
          obtain ⟨ia, h3, h⟩ := h
          cases h
          simp only [Bool.and_eq_true] at hc
          obtain ⟨⟨d1, d2⟩, d3⟩ := hc
          obtain ⟨q1, q2, q3⟩ := plain1 d3
          exact sn_isa (ok.gl c1) (ok.bl _ hb) (ok.gl d1) (ok.bl _ d2) (tyOf_ok h2) q3 q1 (P.e X cc ok _ _ h3).1 (star_cons c3)
        · cases h
      · split at h
        · rename_i b hb1
          split at h
          · rename_i a' ha
            split at h
            · rename_i hx
              have hx := eq_of_beq hx
              subst hx
              replace h := gd_some h
              obtain ⟨hc, h⟩ := h
              replace h := bd_some h
              obtain ⟨ia, h3, h⟩ := h
              cases h
              simp only [Bool.and_eq_true] at hc
              obtain ⟨⟨d1, d2⟩, d3⟩ := hc
              obtain ⟨pp, qq, e⟩ := setArg_ok ha
              subst e
              exact se_lset ok.calm (ok.gl c1) (ok.bl _ hb) (ok.gl d2) (ok.bl _ d3) (P.e X cc ok _ _ h3).1 (star_cons d1)
            · cases h
          · replace h := gd_some h
            obtain ⟨hr, h⟩ := h
            replace h := bd_some h
            obtain ⟨is, h3, h⟩ := h
            cases h
            exact bOf_ok ok hb1 hr (ok.gl c1) (ok.bl _ hb) c2 (P.es X cc ok _ _ h3) c3 c4
        · replace h := bd_some h
          obtain ⟨f, h3, h⟩ := h
          cases h
          exact fun F hK => sn_fr (P.f X cc ok _ _ h3 F hK)
theorem stepB {Φ : Nat → Fn} {n : Nat} (P : PAll Φ n) : ∀ X cc, Ok Φ X cc → ∀ op vs il pos, compB (n + 1) cc op vs = some il → ∀ F : Fz, F.K = X.K → PE X (.BoolOp op vs pos) (tE F (evE Φ il)) ∧ PW X (.BoolOp op vs pos) (tT F (evE Φ il)) := by
  intro X cc ok op vs il pos h F hK
  simp only [compB] at h
  split at h
  · cases h
  · replace h := gd_some h
    obtain ⟨hi, h⟩ := h
    have s := (P.e X cc ok _ _ h).2 (notB hi) F hK
    refine ⟨pe_one s.pe, ?_⟩
    cases op with
    | And => exact pw_and1 s.pt
    | Or => exact pw_or1 s.pt
  · replace h := gd_some h
    obtain ⟨hi, h⟩ := h
    replace h := bd_some h
    obtain ⟨ia, h2, h⟩ := h
    replace h := bd_some h
    obtain ⟨ib, h3, h⟩ := h
    have s := (P.e X cc ok _ _ h2).2 (notB hi) F hK
    have t := P.b X cc ok _ _ _ pos h3 F hK
    cases op with
    | And =>
      cases h
      exact ⟨sn_and s t.1, pw_and' s t.2⟩
    | Or =>
      cases h
      exact ⟨sn_or s t.1, pw_or' s t.2⟩
theorem stepF {Φ : Nat → Fn} {n : Nat} (P : PAll Φ n) : ∀ X cc, Ok Φ X cc → ∀ e i, compF (n + 1) cc e = some i → SnF X e (evF Φ i) := by
  intro X cc ok e i h
  simp only [compF] at h
  split at h
  · replace h := bd_some h
    obtain ⟨is, h2, h⟩ := h
    cases h
    exact fun F hK => sn_lst (P.es X cc ok _ _ h2 F hK)
  · rename_i x p el tg it ifs tg1 it1 ifs1 sc pos q
    replace h := gd_some h
    obtain ⟨hc, h⟩ := h
    replace h := bd_some h
    obtain ⟨ii, h2, h⟩ := h
    replace h := bd_some h
    obtain ⟨t, h3, h⟩ := h
    replace h := bd_some h
    obtain ⟨t1, h31, h⟩ := h
    replace h := gd_some h
    obtain ⟨hv, h⟩ := h
    replace h := bd_some h
    obtain ⟨ic, h4, h⟩ := h
    replace h := bd_some h
    obtain ⟨ii1, h21, h⟩ := h
    replace h := bd_some h
    obtain ⟨ic1, h41, h⟩ := h
    replace h := bd_some h
    obtain ⟨ie, h5, h⟩ := h
    cases h
    rw [Bool.and_eq_true] at hc
    obtain ⟨hx, hc⟩ := hc
    rw [Bool.and_eq_true, Bool.and_eq_true] at hx hc
    obtain ⟨⟨hxn, hx1⟩, hx2⟩ := hx
    have hxn := eq_of_beq hxn
    subst hxn
    rw [Bool.and_eq_true] at hv
    have hb : BlkOk X.N X.env.scope sc (blkOwn cc.N sc) := by rw [ok.N, ok.sc]; exact blkOk_by hc.1.1
    refine sf_sset2 ok.calm (ok.gl hx1) (ok.bl _ hx2) ok.nd (P.i X cc ok _ _ _ h2) hb (fun i hi => ?_) (fun i hi => hi) (fun i hi => ?_) (fun s H C cl fp => (compT_ok (ok.blk hb s H C cl fp) n).1 _ _ h3) (fun s H C cl fp => P.c _ _ (ok.blk hb s H C cl fp) _ _ h4) (fun s H C cl fp => P.i _ _ (ok.blk hb s H C cl fp) _ _ _ h21) (fun s H C cl fp => (compT_ok (ok.blk hb s H C cl fp) n).1 _ _ h31) (fun s H C cl fp => P.c _ _ (ok.blk hb s H C cl fp) _ _ h41) (fun s H C cl fp => (P.e _ _ (ok.blk hb s H C cl fp) _ _ h5).1) ?_ ?_ (star_cons rfl)
    · have := List.all_eq_true.mp hv.1 i hi
      exact List.contains_iff_mem.mp this
    · have := List.all_eq_true.mp hv.2 i hi
      exact List.contains_iff_mem.mp this
    · intro x
      cases it <;> first | rfl | cases hc.1.2
    · intro env x
      cases it1 <;> first | rfl | cases hc.2
  · rename_i hov
    clear hov
    replace h := gd_some h
    obtain ⟨hc, h⟩ := h
    simp only [Bool.and_eq_true] at hc
    obtain ⟨⟨⟨c1, c2⟩, c3⟩, c4⟩ := hc
    split at h
    · rename_i a' ha
      replace h := gd_some h
      obtain ⟨hd, h⟩ := h
      replace h := bd_some h
      obtain ⟨ia, h3, h⟩ := h
      cases h
      simp only [Bool.and_eq_true] at hd
      obtain ⟨⟨⟨d0, d1⟩, d2⟩, d3⟩ := hd
      have hx := eq_of_beq d0
      subst hx
      obtain ⟨pp, qq, e⟩ := setArg_ok ha
      subst e
      exact sf_sset ok.calm ok.hu (ok.gl c1) (ok.bl _ c4) (ok.gl d2) (ok.bl _ d3) (P.e X cc ok _ _ h3).1 (star_cons d1)
    · rename_i hns
      clear hns
      split at h
      · rename_i a' ha
        replace h := gd_some h
        obtain ⟨hd, h⟩ := h
        replace h := bd_some h
        obtain ⟨ia, h3, h⟩ := h
        cases h
        simp only [Bool.and_eq_true] at hd
        obtain ⟨⟨⟨d0, d1⟩, d2⟩, d3⟩ := hd
        have hx := eq_of_beq d0
        subst hx
        obtain ⟨pp, qq, e⟩ := rgArg_ok ha
        subst e
        exact sf_lrg ok.calm (ok.gl c1) (ok.bl _ c4) (ok.gl d2) (ok.bl _ d3) (P.e X cc ok _ _ h3).1 (star_cons d1)
      · replace h := bd_some h
        obtain ⟨f, h2, h⟩ := h
        replace h := gd_some h
        obtain ⟨he, h⟩ := h
        replace h := bd_some h
        obtain ⟨is, h3, h⟩ := h
        cases h
        exact fOf_ok h2 (ok.gl c1) (ok.bl _ c4) c2 (P.es X cc ok _ _ h3) c3 he
  · rename_i el tg it ifs sc pos
    replace h := gd_some h
    obtain ⟨hc, h⟩ := h
    replace h := bd_some h
    obtain ⟨ii, h2, h⟩ := h
    replace h := bd_some h
    obtain ⟨t, h3, h⟩ := h
    replace h := gd_some h
    obtain ⟨hv, h⟩ := h
    replace h := bd_some h
    obtain ⟨ic, h4, h⟩ := h
    replace h := bd_some h
    obtain ⟨ie, h5, h⟩ := h
    cases h
    rw [Bool.and_eq_true] at hc
    have hb : BlkOk X.N X.env.scope sc (blkOwn cc.N sc) := by rw [ok.N, ok.sc]; exact blkOk_by hc.1
    refine sf_lc ok.calm ok.nd (P.i X cc ok _ _ _ h2) hb (fun i hi => ?_) (fun s H C cl fp => (compT_ok (ok.blk hb s H C cl fp) n).1 _ _ h3) (fun s H C cl fp => P.c _ _ (ok.blk hb s H C cl fp) _ _ h4) (fun s H C cl fp => (P.e _ _ (ok.blk hb s H C cl fp) _ _ h5).1) ?_
    · have := List.all_eq_true.mp hv i hi
      exact List.contains_iff_mem.mp this
    · intro x
      cases it <;> first | rfl | cases hc.2
  · rename_i el tg it ifs tg1 it1 ifs1 sc pos
    replace h := gd_some h
    obtain ⟨hc, h⟩ := h
    replace h := bd_some h
    obtain ⟨ii, h2, h⟩ := h
    replace h := bd_some h
    obtain ⟨t, h3, h⟩ := h
    replace h := bd_some h
    obtain ⟨t1, h31, h⟩ := h
    replace h := gd_some h
    obtain ⟨hv, h⟩ := h
    replace h := bd_some h
    obtain ⟨ic, h4, h⟩ := h
    replace h := bd_some h
    obtain ⟨ii1, h21, h⟩ := h
    replace h := bd_some h
    obtain ⟨ic1, h41, h⟩ := h
    replace h := bd_some h
    obtain ⟨ie, h5, h⟩ := h
    cases h
    rw [Bool.and_eq_true, Bool.and_eq_true] at hc
    rw [Bool.and_eq_true] at hv
    have hb : BlkOk X.N X.env.scope sc (blkOwn cc.N sc) := by rw [ok.N, ok.sc]; exact blkOk_by hc.1.1
    refine sf_lc2 ok.calm ok.nd (P.i X cc ok _ _ _ h2) hb (fun i hi => ?_) (fun i hi => hi) (fun i hi => ?_) (fun s H C cl fp => (compT_ok (ok.blk hb s H C cl fp) n).1 _ _ h3) (fun s H C cl fp => P.c _ _ (ok.blk hb s H C cl fp) _ _ h4) (fun s H C cl fp => P.i _ _ (ok.blk hb s H C cl fp) _ _ _ h21) (fun s H C cl fp => (compT_ok (ok.blk hb s H C cl fp) n).1 _ _ h31) (fun s H C cl fp => P.c _ _ (ok.blk hb s H C cl fp) _ _ h41) (fun s H C cl fp => (P.e _ _ (ok.blk hb s H C cl fp) _ _ h5).1) ?_ ?_
    · have := List.all_eq_true.mp hv.1 i hi
      exact List.contains_iff_mem.mp this
    · have := List.all_eq_true.mp hv.2 i hi
      exact List.contains_iff_mem.mp this
    · intro x
      cases it <;> first | rfl | cases hc.1.2
    · intro env x
      cases it1 <;> first | rfl | cases hc.2
  · cases h
theorem stepI {Φ : Nat → Fn} {n : Nat} (P : PAll Φ n) : ∀ X cc, Ok Φ X cc → ∀ tg e i, compI (n + 1) cc tg e = some i → SnI X tg e (evI Φ i) := by
  intro X cc ok tg e i h
  have seq : ∀ {e : Expr} {i : ILI}, ((compE n cc e).bind fun ia => some (ILI.seq ia)) = some i → SnI X tg e (evI Φ i) := fun {e i} h => by
    replace h := bd_some h
    obtain ⟨ia, h2, h⟩ := h
    cases h
    exact si_seq (P.e X cc ok _ _ h2).1
  simp only [compI] at h
  split at h
  · split at h
    · rename_i hc
      simp only [Bool.and_eq_true] at hc
      obtain ⟨⟨c1, c2⟩, c3⟩ := hc
      have hx := eq_of_beq c3
      subst hx
      split at h
      · replace h := gd_some h
        obtain ⟨hs, h⟩ := h
        replace h := bd_some h
        obtain ⟨ia, h2, h⟩ := h
        cases h
        exact si_rng1 (ok.gl c1) (ok.bl _ c2) (P.e X cc ok _ _ h2).1 (star_cons hs)
      · replace h := gd_some h
        obtain ⟨hs, h⟩ := h
        rw [Bool.and_eq_true] at hs
        replace h := bd_some h
        obtain ⟨ia, h2, h⟩ := h
        replace h := bd_some h
        obtain ⟨ib, h3, h⟩ := h
        cases h
        refine si_rng2 (ok.gl c1) (ok.bl _ c2) (P.e X cc ok _ _ h2).1 (P.e X cc ok _ _ h3).1 ?_ (star_cons hs.2)
        rw [star_cons hs.1, star_cons hs.2]
        rfl
      · cases h
    · split at h
      · rename_i hc
        simp only [Bool.and_eq_true] at hc
        obtain ⟨⟨c1, c2⟩, c3⟩ := hc
        have hx := eq_of_beq c3
        subst hx
        split at h
        · replace h := gd_some h
          obtain ⟨hs, h⟩ := h
          replace h := bd_some h
          obtain ⟨ia, h2, h⟩ := h
          cases h
          rw [Bool.and_eq_true] at hs
          cases tg with
          | Tuple ts k tp => exact si_enum (ok.gl c1) (ok.bl _ c2) (P.e X cc ok _ _ h2).1 (star_cons hs.2)
          | _ => cases hs.1
        · cases h
      · split at h
        · rename_i hc
          simp only [Bool.and_eq_true] at hc
          obtain ⟨⟨c1, c2⟩, c3⟩ := hc
          have hx := eq_of_beq c3
          subst hx
          split at h
          · replace h := gd_some h
            obtain ⟨hs, h⟩ := h
            replace h := bd_some h
            obtain ⟨ia, h2, h⟩ := h
            replace h := bd_some h
            obtain ⟨ib, h3, h⟩ := h
            cases h
            rw [Bool.and_eq_true, Bool.and_eq_true] at hs
            cases tg with
            | Tuple ts k tp => exact si_zip (ok.gl c1) (ok.bl _ c2) (P.e X cc ok _ _ h2).1 (P.e X cc ok _ _ h3).1 (star_cons hs.1.2) (star_cons hs.2) (by rw [star_cons hs.2]; rfl)
            | _ => cases hs.1.1
          · cases h
        · exact seq h
  · exact seq h
theorem stepIR {Φ : Nat → Fn} {n : Nat} (P : PAll Φ n) : ∀ X cc, Ok Φ X cc → ∀ tg e i, compI (n + 1) cc tg e = some i → isRng i = true → SnIR X tg e (evI Φ i) := by
  intro X cc ok tg e i h hr
  have seq : ∀ {e : Expr} {i : ILI}, ((compE n cc e).bind fun ia => some (ILI.seq ia)) = some i → isRng i = true → SnIR X tg e (evI Φ i) := fun {e i} h hr => by
    replace h := bd_some h
    obtain ⟨ia, h2, h⟩ := h
    cases h
    cases hr
  simp only [compI] at h
  split at h
  · split at h
    · rename_i hc
      simp only [Bool.and_eq_true] at hc
      obtain ⟨⟨c1, c2⟩, c3⟩ := hc
      have hx := eq_of_beq c3
      subst hx
      split at h
      · replace h := gd_some h
        obtain ⟨hs, h⟩ := h
        replace h := bd_some h
        obtain ⟨ia, h2, h⟩ := h
        cases h
        exact sir_1 (ok.gl c1) (ok.bl _ c2) (P.e X cc ok _ _ h2).1 (star_cons hs)
      · replace h := gd_some h
        obtain ⟨hs, h⟩ := h
        rw [Bool.and_eq_true] at hs
        replace h := bd_some h
        obtain ⟨ia, h2, h⟩ := h
        replace h := bd_some h
        obtain ⟨ib, h3, h⟩ := h
        cases h
        refine sir_2 (ok.gl c1) (ok.bl _ c2) (P.e X cc ok _ _ h2).1 (P.e X cc ok _ _ h3).1 ?_ (star_cons hs.2)
        rw [star_cons hs.1, star_cons hs.2]
        rfl
      · cases h
    · split at h
      · rename_i hc
        simp only [Bool.and_eq_true] at hc
        obtain ⟨⟨c1, c2⟩, c3⟩ := hc
        have hx := eq_of_beq c3
        subst hx
        split at h
        · replace h := gd_some h
          obtain ⟨hs, h⟩ := h
          replace h := bd_some h
          obtain ⟨ia, h2, h⟩ := h
          cases h
          cases hr
        · cases h
      · split at h
        · split at h
          · replace h := gd_some h
            obtain ⟨hs, h⟩ := h
            replace h := bd_some h
            obtain ⟨ia, h2, h⟩ := h
            replace h := bd_some h
            obtain ⟨ib, h3, h⟩ := h
            cases h
            cases hr
          · cases h
        · exact seq h hr
  · exact seq h hr
theorem comp_all (Φ : Nat → Fn) : ∀ n, PAll Φ n
  | 0 => by
    constructor
    · intro X cc ok e il h; simp only [compE] at h; cases h
    · intro X cc ok x p a es q il h; simp only [compCall] at h; cases h
    · intro X cc ok op vs il pos h; simp only [compB] at h; cases h
    · intro X cc ok es is h; simp only [compEs] at h; cases h
    · intro X cc ok e i h; simp only [compF] at h; cases h
    · intro X cc ok tg e i h; simp only [compI] at h; cases h
    · intro X cc ok tg e i h _; simp only [compI] at h; cases h
    · intro X cc ok es i h; simp only [compC] at h; cases h
    · intro X cc ok e i h; simp only [compO] at h; cases h
    · intro X cc ok es i h; simp only [compG] at h; cases h
  | n + 1 => by
    have P := comp_all Φ n
    refine ⟨stepE P, stepCall P, stepB P, ?_, stepF P, stepI P, stepIR P, ?_, ?_, ?_⟩
    · intro X cc ok es is h
      simp only [compEs] at h
      split at h
      · cases h; exact fun F hK => pa_nil'
      · replace h := gd_some h
        obtain ⟨hs, h⟩ := h
        replace h := bd_some h
        obtain ⟨i, h2, h⟩ := h
        replace h := bd_some h
        obtain ⟨is', h3, h⟩ := h
        cases h
        exact fun F hK => pa_cons' ((P.e X cc ok _ _ h2).1 F hK) (P.es X cc ok _ _ h3 F hK) (star_cons hs)
    · intro X cc ok es i h
      simp only [compC] at h
      split at h
      · cases h; exact sc_none
      · replace h := gd_some h
        obtain ⟨hi, h⟩ := h
        replace h := bd_some h
        obtain ⟨ia, h2, h⟩ := h
        cases h
        exact sc_one ((P.e X cc ok _ _ h2).2 (notB hi))
      · cases h
    · intro X cc ok e i h F hK
      simp only [compO] at h
      split at h
      · cases h; exact po0
      · replace h := bd_some h
        obtain ⟨ia, h2, h⟩ := h
        cases h
        exact po1 ((P.e X cc ok _ _ h2).1 F hK)
    · intro X cc ok es i h
      simp only [compG] at h
      split at h
      · cases h; exact sg_nil
      · replace h := gd_some h
        obtain ⟨hs, h⟩ := h
        split at h
        · rename_i i0 hi0
          replace h := bd_some h
          obtain ⟨g, h3, h⟩ := h
          cases h
          split at hi0
          · obtain ⟨hp, hi0⟩ := gd_some hi0
            obtain ⟨j, h4, hi0⟩ := bd_some hi0
            split at hi0
            · cases hi0
              rw [Bool.and_eq_true] at hp
              obtain ⟨p1, p2, p3⟩ := plain1 hp.1
              exact sg_pen (pe_var (ok.ix h4) (ok.vis hp.2) p1 p2) (P.g X cc ok _ _ h3) (star_cons hs)
            · cases hi0
          · cases hi0
        · replace h := bd_some h
          obtain ⟨ia, h2, h⟩ := h
          replace h := bd_some h
          obtain ⟨g, h3, h⟩ := h
          cases h
          exact sg_cons (P.e X cc ok _ _ h2).1 (P.g X cc ok _ _ h3) (star_cons hs)
end Mn
namespace Mn
open PySem PySem.Spec PyProof.Rows L2
/-! the program's statements, with places for names -/
inductive TL where
  | sc (a : IL) | fz (L : List Nat) (a : IL) | pop (i : Nat) (a : TL)
inductive TFL where
  | sc (a : ILF) | fz (L : List Nat) (a : ILF)
inductive CL where
  | ow (a : ILF) | da (a : IL)
mutual
inductive SL where
  | pass | brk | cont | retN | ret (a : TL) | drop (a : TL) | asg (tg : Tg) (a : TL) | own (i : Nat) (a : TFL) | lcD (i : Nat) (L : List Nat) (a : ILF)
  | par (i j : Nat) (L : List Nat) (c1 c2 : CL) | pset (i : Nat) (k : Int) (a : TL) | oset (i : Nat) (x a : TL) | app (i : Nat) (a : TL) | ext (i : Nat) (a : TL) | iff (c : IL) (a b : SLs) | for_ (L : List Nat) (it : ILI) (tg : Tg) (b : SLs) | forR (it : ILI) (tg : Tg) (b : SLs) | while_ (c : IL) (b : SLs)
inductive SLs where
  | nil | cons (a : SL) (r : SLs)
end
section
variable (Φ : Nat → Fn) (W : Nat)
def evTL : TL → EvT
  | .sc a => evSc (evE Φ a)
  | .fz L a => evFz L (evE Φ a)
  | .pop i a => evPop i (evTL a)
def evTFL : TFL → EvTF
  | .sc a => evScF (evF Φ a)
  | .fz L a => evFzF L (evF Φ a)
def evCL : CL → Cm
  | .ow a => .ow (evF Φ a)
  | .da a => .da (evE Φ a)
mutual
def evS : SL → EvS
  | .pass => esNext
  | .brk => fun Γ st => some (.bk Γ st)
  | .cont => fun Γ st => some (.ct Γ st)
  | .retN => fun _ st => some (.rt .none st)
  | .ret a => esRet (evTL Φ a)
  | .drop a => esDrop (evTL Φ a)
  | .asg tg a => esAsg tg (evTL Φ a)
  | .own i a => esOwn i (evTFL Φ a)
  | .lcD i L a => esLcD i L (evF Φ a)
  | .par i j L c1 c2 => esPar i j L (evCL Φ c1) (evCL Φ c2)
  | .pset i k a => esPset i k (evTL Φ a)
  | .oset i x a => esOset i (evTL Φ x) (evTL Φ a)
  | .app i a => esApp i (evTL Φ a)
  | .ext i a => esExt i (evTL Φ a)
  | .iff c a b => esIf (evE Φ c) (evB a) (evB b)
  | .for_ L it tg b => esFor L (evI Φ it) tg (evB b)
  | .forR it tg b => esForR (evI Φ it) tg (evB b)
  | .while_ c b => esWhile W (evE Φ c) (evB b)
def evB : SLs → EvS
  | .nil => esNext
  | .cons a r => esSeq (evS a) (evB r)
end
end
/-! which places are read -/
mutual
def rdE : IL → List Nat
  | .k _ => []
  | .v i => [i]
  | .tup es => rdEs es
  | .fr f => rdF f
  | .and a b => rdE a ++ rdE b
  | .or a b => rdE a ++ rdE b
  | .not a => rdE a
  | .neg a => rdE a
  | .ite c a b => rdE c ++ rdE a ++ rdE b
  | .op _ a b => rdE a ++ rdE b
  | .ix a b => rdE a ++ rdE b
  | .ch _ _ a b c => rdE a ++ rdE b ++ rdE c
  | .cb _ es => rdEs es
  | .isa a _ => rdE a
  | .tyis a _ _ => rdE a
  | .sl a lo hi => rdE a ++ rdO lo ++ rdO hi
  | .lset a => rdE a
  | .pix _ _ => []
  | .lenS _ => []
  | .d0 => []
  | .rev a => rdE a
  | .call _ as => rdG as
def rdEs : ILs → List Nat
  | .nil => []
  | .cons a r => rdE a ++ rdEs r
def rdF : ILF → List Nat
  | .lst es => rdEs es
  | .cf _ es => rdEs es
  | .sset a => rdE a
  | .lrg a => rdE a
  | .lc it _ c el _ => rdI it ++ rdO c ++ rdE el
  | .lc2 it _ c it1 _ c1 el _ _ => rdI it ++ rdO c ++ rdI it1 ++ rdO c1 ++ rdE el
  | .slc2 it _ c it1 _ c1 el _ _ => rdI it ++ rdO c ++ rdI it1 ++ rdO c1 ++ rdE el
def rdI : ILI → List Nat
  | .seq a => rdE a
  | .r1 a => rdE a
  | .r2 a b => rdE a ++ rdE b
  | .en a => rdE a
  | .zp a b => rdE a ++ rdE b
def rdO : ILO → List Nat
  | .none => []
  | .some a => rdE a
def rdG : ILG → List Nat
  | .nil => []
  | .d a r => rdE a ++ rdG r
  | .p _ r => rdG r
end
def scalG (scf : List Nat) : IL → Bool
  | .k _ => true
  | .and _ _ => true
  | .or _ _ => true
  | .not _ => true
  | .neg _ => true
  | .ite _ a b => scalG scf a && scalG scf b
  | .op o a b => if o = .add ∨ o = .mul then scalG scf a && scalG scf b else true
  | .ch _ _ _ _ _ => true
  | .cb f _ => decide (f ≠ .tuple)
  | .isa _ _ => true
  | .tyis _ _ _ => true
  | .lset _ => true
  | .pix _ k => decide (k ≠ 0)
  | .lenS _ => true
  | .call n _ => scf.contains n
  | _ => false
def ownRd (cc : Cc) (l : List Nat) : List Nat := (l.filter cc.own.contains).eraseDups
def popArg (cc : Cc) : Expr → Option (Nat × Expr)
  | .Call (.Attribute (.Name x _) m ap) [a] [] cp => gd (m == ("pop" : Str) && plainName x && visB cc.sc x && (ap.endLine == cp.line) && notStar a) ((findIx cc.N x).bind fun i => gd (cc.own.contains i) (some (i, a)))
  | _ => none
def compTL : Nat → Cc → Expr → Option TL
  | 0, _, _ => none
  | n + 1, cc, e => match popArg cc e with
    | some (i, a) => (compTL n cc a).bind fun t => some (.pop i t)
    | none => (compE n cc e).bind fun ia => match ownRd cc (rdE ia) with
      | [] => some (.fz [] ia)
      | L => if scalG cc.scf ia then some (.sc ia) else some (.fz L ia)
def compTFL (n : Nat) (cc : Cc) (e : Expr) : Option TFL := (compF n cc e).bind fun f => match ownRd cc (rdF f) with
  | [] => some (.fz [] f)
  | _ => some (.sc f)
def compCL (n : Nat) (cc : Cc) (i : Nat) (e : Expr) : Option CL := if cc.own.contains i then (compF n cc e).bind fun f => some (.ow f) else (compE n cc e).bind fun a => some (.da a)
def rdCL : CL → List Nat
  | .ow f => rdF f
  | .da a => rdE a
def notComp : Expr → Bool
  | .ListComp .. => false
  | .SetComp .. => false
  | .DictComp .. => false
  | _ => true
def notTup : Expr → Bool
  | .Tuple .. => false
  | _ => true
/-- a comprehension's own names, and its line -/
def lcSwap (sc : Scope) (y : Str) (py : Pos) : Expr → Bool
  | .ListComp _ [⟨_, _, _, 0⟩] s p => decide (sc.names.lookup y = some .local) && (py.line == p.line) && !(s.names.any fun (n, k) => n == y && (k == .local || k == .cell))
  | _ => false
def appArg (cc : Cc) : Expr → Option (Bool × Nat × Expr)
  | .Call (.Attribute (.Name x _) m ap) [a] [] cp => gd ((m == ("append" : Str) || m == ("extend" : Str)) && plainName x && visB cc.sc x && (ap.endLine == cp.line) && notStar a) ((findIx cc.N x).bind fun i => gd (cc.own.contains i) (some (m == ("append" : Str), i, a)))
  | _ => none
def parArg : Expr → Expr → Option (Str × Pos × Str × Pos × Expr × Expr)
  | .Tuple [.Name x px, .Name y py] _ _, .Tuple [a, b] _ _ => some (x, px, y, py, a, b)
  | _, _ => none
/-- pen[k] = .. -/
def psetArg (cc : Cc) : Expr → Option (Nat × Int)
  | .Subscript a b _ => penIx cc a b
  | _ => none
/-- own[k] = .. -/
def osetArg (cc : Cc) : Expr → Option (Nat × Expr)
  | .Subscript (.Name x _) b _ => gd (plainName x && visB cc.sc x && plainIxB b) ((findIx cc.N x).bind fun i => gd (cc.own.contains i) (some (i, b)))
  | _ => none
def nmArg : Expr → Option (Str × Pos)
  | .Name x p => some (x, p)
  | _ => none
mutual
def compS : Nat → Cc → Stmt → Option SL
  | 0, _, _ => none
  | n + 1, cc, s => match s with
    | .Pass _ => some .pass
    | .Break _ => some .brk
    | .Continue _ => some .cont
    | .Return none _ => some .retN
    | .Return (some e) _ => (compTL n cc e).bind fun t => some (.ret t)
    | .Expr e _ => (match appArg cc e with
      | some (true, i, a) => (compTL n cc a).bind fun t => some (.app i t)
      | some (false, i, a) => (compTL n cc a).bind fun t => some (.ext i t)
      | none => gd (notComp e) ((compTL n cc e).bind fun t => some (.drop t)))
    | .Assign [t] e _ => (match nmArg t with
      | some (x, px) => gd (isTgt cc x) ((findIx cc.N x).bind fun i =>
        if lcSwap cc.sc x px e then (compF n cc e).bind fun f => if cc.own.contains i then some (.own i (.fz (ownRd cc (rdF f)) f)) else some (.lcD i (ownRd cc (rdF f)) f)
        else gd (notComp e || decide (cc.sc.names.lookup x = some .cell)) (if cc.own.contains i then (compTFL n cc e).bind fun f => some (.own i f) else (compTL n cc e).bind fun tl => some (.asg (.nm i) tl)))
      | none => match parArg t e with
        | some (x, px, y, py, a, b) => if decide (cc.sc.names.lookup x = some .cell) || decide (cc.sc.names.lookup y = some .cell) then ((findIx cc.N x).bind fun i => (findIx cc.N y).bind fun j => if cc.own.contains i || cc.own.contains j then gd (!(i == j) && isTgt cc x && isTgt cc y && notStar a && notStar b) ((compCL n cc i a).bind fun c1 => (compCL n cc j b).bind fun c2 => some (.par i j (ownRd cc (rdCL c1 ++ rdCL c2)) c1 c2))
            else (compT n cc t).bind fun tg => (compTL n cc e).bind fun tl => some (.asg tg tl))
          else gd (decide (cc.sc.kind = .function) && decide (cc.sc.names.lookup x = some .local) && decide (cc.sc.names.lookup y = some .local) && (py.line == px.line) && !(x == y) && notStar a && notStar b && !(foldedForSure 8 a && foldedForSure 8 b) && !(constantsAlone 8 a && constantsAlone 8 b))
            ((findIx cc.N x).bind fun i => (findIx cc.N y).bind fun j => gd (!(i == j)) ((compCL n cc i a).bind fun c1 => (compCL n cc j b).bind fun c2 => some (.par i j (ownRd cc (rdCL c1 ++ rdCL c2)) c1 c2)))
        | none => match psetArg cc t with
          | some (i, k) => gd (notComp e && notTup e) ((compTL n cc e).bind fun tl => some (.pset i k tl))
          | none => match osetArg cc t with
            | some (i, b) => gd (notComp e && notTup e) ((compTL n cc b).bind fun tx => (compTL n cc e).bind fun tl => some (.oset i tx tl))
            | none => gd (notComp e && notTup e && notStar t) ((compT n cc t).bind fun tg => (compTL n cc e).bind fun tl => some (.asg tg tl)))
    | .If c a b _ => gd (!isIf c) ((compE n cc c).bind fun ic => (compB2 n cc a).bind fun sa => (compB2 n cc b).bind fun sb => some (.iff ic sa sb))
    | .For t it b [] _ => gd (notSetD it) ((compI n cc t it).bind fun ii => (compT n cc t).bind fun tg => (compB2 n cc b).bind fun sb => some (if isRng ii then .forR ii tg sb else .for_ (ownRd cc (rdI ii)) ii tg sb))
    | .While c b [] _ => gd (!isIf c) ((compE n cc c).bind fun ic => (compB2 n cc b).bind fun sb => some (.while_ ic sb))
    | _ => none
def compB2 : Nat → Cc → List Stmt → Option SLs
  | 0, _, _ => none
  | n + 1, cc, ss => match ss with
    | [] => some .nil
    | s :: r => (compS n cc s).bind fun a => (compB2 n cc r).bind fun b => some (.cons a b)
end
end Mn
namespace Mn
open PySem PySem.Spec PyProof.Rows L2
section
variable {Φ : Nat → Fn} {X : Cx} {cc : Cc}
theorem base_name {x : Str} {p : Pos} {m : Str} : attributeBase (.Name x p) m X.env (eval (.Name x p) X.env) = eval (.Name x p) X.env := rfl
theorem few_one {e : Expr} {cp : Pos} (h : notStar e = true) : ((backTo cp (starEach [e] X.env)).all (fun x => !x.1) && (backToKw cp (keywordEach [] X.env)).all (fun x => x.1.isSome) && decide ([e].length + ([] : List Keyword).length + (if ([] : List Keyword).isEmpty then 0 else 1) < 30)) = true := by
  rw [star_cons h]
  rfl
theorem popArg_ok (ok : Ok Φ X cc) {e a : Expr} {i : Nat} (h : popArg cc e = some (i, a)) {ea : EvT} (ha : SnP X a ea) : SnP X e (evPop i ea) := by
  unfold popArg at h
  split at h
  · replace h := gd_some h
    obtain ⟨hc, h⟩ := h
    replace h := bd_some h
    obtain ⟨j, h2, h⟩ := h
    replace h := gd_some h
    obtain ⟨h3, h⟩ := h
    obtain ⟨rfl, rfl⟩ := Prod.mk.inj (Option.some.inj h)
    simp only [Bool.and_eq_true] at hc
    obtain ⟨⟨⟨⟨c1, c2⟩, c3⟩, c4⟩, c5⟩ := hc
    have hm := eq_of_beq c1
    subst hm
    obtain ⟨p1, p2, p3⟩ := plain1 c2
    exact sp_pop (pe_var (ok.ix h2) (ok.vis c3) p1 p2) ha base_name (few_one c5) c4 (star_cons c5)
  · cases h
theorem compTL_ok (ok : Ok Φ X cc) : ∀ n e t, compTL n cc e = some t → SnP X e (evTL Φ t)
  | 0, e, t, h => by simp only [compTL] at h; cases h
  | n + 1, e, t, h => by
    simp only [compTL] at h
    split at h
    · rename_i i a hp
      replace h := bd_some h
      obtain ⟨t2, h2, h⟩ := h
      cases h
      exact popArg_ok ok hp (compTL_ok ok n _ _ h2)
    · replace h := bd_some h
      obtain ⟨ia, h2, h⟩ := h
      have s := ((comp_all Φ n).e X cc ok _ _ h2).1
      split at h
      · cases h; exact sp_fz [] s
      · split at h
        · cases h; exact sp_sc s
        · cases h; exact sp_fz _ s
theorem compTFL_ok (ok : Ok Φ X cc) {n : Nat} {e : Expr} {t : TFL} (h : compTFL n cc e = some t) : SnPF X e (evTFL Φ t) := by
  unfold compTFL at h
  replace h := bd_some h
  obtain ⟨f, h2, h⟩ := h
  have s := (comp_all Φ n).f X cc ok _ _ h2
  split at h
  · cases h; exact spf_fz [] s
  · cases h; exact spf_sc s
theorem compCL_ok (ok : Ok Φ X cc) {n i : Nat} {e : Expr} {t : CL} (h : compCL n cc i e = some t) : SnM X e (evCL Φ t) := by
  unfold compCL at h
  split at h
  · replace h := bd_some h
    obtain ⟨f, h2, h⟩ := h
    cases h
    exact sm_ow ((comp_all Φ n).f X cc ok _ _ h2)
  · replace h := bd_some h
    obtain ⟨f, h2, h⟩ := h
    cases h
    exact sm_da ((comp_all Φ n).e X cc ok _ _ h2).1
theorem swaps_plain {e : Expr} {t : Option Expr} {l : Nat} {env : Env} (h : notComp e = true) : swapsWith e t l env = pure false := by
  cases e <;> first | rfl | cases h
theorem swaps_cell {e : Expr} {x : Str} {p : Pos} {l : Nat} (hk : X.env.scope.names.lookup x = some .cell) (h : (notComp e || decide (cc.sc.names.lookup x = some .cell)) = true) : swapsWith e (some (.Name x p)) l X.env = pure false := by
  have kx : X.env.kindOf x = some .cell := hk
  cases e <;> first
    | rfl
    | (unfold swapsWith
       simp only [kx]
       show pure ((X.env.blockKind == .function && (some NameKind.cell == some NameKind.local) && _ && _)) = _
       rw [show (some NameKind.cell == some NameKind.local) = false from rfl, Bool.and_false, Bool.false_and, Bool.false_and])
theorem each_one {t : Expr} {env : Env} (h : notStar t = true) : (assignEach [t] env).map (·.2) = [assign t env] := by
  rw [each_cons h]
  rfl
theorem stores_name {x : Str} {p : Pos} {e : Expr} {env : Env} : swappedStores [.Name x p] e env = pure none := by cases e <;> rfl
theorem stores_plain {t e : Expr} {env : Env} (h : notTup e = true) : swappedStores [t] e env = pure none := by
  cases e <;> first
    | (cases t <;> rfl)
    | cases h
theorem lcSwap_ok (hk : X.env.scope.kind = .function) (ok : Ok Φ X cc) {x : Str} {px : Pos} {e : Expr} (h : lcSwap cc.sc x px e = true) {l : Nat} :
    (∃ el tg it ifs s p, e = .ListComp el [⟨tg, it, ifs, 0⟩] s p) ∧ X.env.scope.names.lookup x = some .local ∧ swapsWith e (some (.Name x px)) l X.env = pure true := by
  unfold lcSwap at h
  split at h
  · simp only [Bool.and_eq_true, decide_eq_true_eq, Bool.not_eq_true'] at h
    obtain ⟨⟨h1, h2⟩, h3⟩ := h
    rw [← ok.sc] at h1
    exact ⟨⟨_, _, _, _, _, _, rfl⟩, h1, sw_true hk h1 h2 h3⟩
  · cases h
theorem lc_own (hk : X.env.scope.kind = .function) (ok : Ok Φ X cc) {n i : Nat} {x : Str} {px spos : Pos} {e : Expr} {f : ILF} (L : List Nat) (h : lcSwap cc.sc x px e = true) (hi : findIx cc.N x = some i) (hf : compF n cc e = some f) :
    SnS X (.Assign [.Name x px] e spos) (esOwn i (evFzF L (evF Φ f))) ∧ SnS X (.Assign [.Name x px] e spos) (esLcD i L (evF Φ f)) := by
  obtain ⟨⟨el, tg, it, ifs, sc, pos, he⟩, hl, hsw⟩ := lcSwap_ok (l := spos.line) hk ok h
  subst he
  cases n with
  | zero => simp only [compF] at hf; cases hf
  | succ n =>
    have P := comp_all Φ n
    simp only [compF] at hf
    replace hf := gd_some hf
    obtain ⟨hc, hf⟩ := hf
    replace hf := bd_some hf
    obtain ⟨ii, h2, hf⟩ := hf
    replace hf := bd_some hf
    obtain ⟨t, h3, hf⟩ := hf
    replace hf := gd_some hf
    obtain ⟨hv, hf⟩ := hf
    replace hf := bd_some hf
    obtain ⟨ic, h4, hf⟩ := hf
    replace hf := bd_some hf
    obtain ⟨ie, h5, hf⟩ := hf
    cases hf
    rw [Bool.and_eq_true] at hc
    have hb : BlkOk X.N X.env.scope sc (blkOwn cc.N sc) := by rw [ok.N, ok.sc]; exact blkOk_by hc.1
    have hv' : ∀ i ∈ tgS t, i ∈ (blkOwn cc.N sc).map (·.2) := fun i hi => by
      have := List.all_eq_true.mp hv i hi
      exact List.contains_iff_mem.mp this
    have hset : ∀ x, foldedSetIterable it X.env x = pure x := fun x => by cases it <;> first | rfl | cases hc.2
    have g1 := fun (s : Shared) (H : Hp) (C : Addr) (cl : List (Str × Addr)) (fp : List Addr) => (compT_ok (ok.blk hb s H C cl fp) n).1 _ _ h3
    have g2 := fun (s : Shared) (H : Hp) (C : Addr) (cl : List (Str × Addr)) (fp : List Addr) => P.c _ _ (ok.blk hb s H C cl fp) _ _ h4
    have g3 := fun (s : Shared) (H : Hp) (C : Addr) (cl : List (Str × Addr)) (fp : List Addr) => (P.e _ _ (ok.blk hb s H C cl fp) _ _ h5).1
    exact ⟨ss_lcOwn L ok.calm ok.nd (ok.ix hi) hl hsw (P.i X cc ok _ _ _ h2) hb hv' g1 g2 g3 hset, ss_lcD L ok.calm ok.nd (ok.ix hi) hl hsw (P.i X cc ok _ _ _ h2) hb hv' g1 g2 g3 hset⟩
theorem appArg_ok (ok : Ok Φ X cc) {e a : Expr} {i : Nat} {w : Bool} {pos : Pos} (h : appArg cc e = some (w, i, a)) {ea : EvT} (ha : SnP X a ea) : if w then SnS X (.Expr e pos) (esApp i ea) else SnS X (.Expr e pos) (esExt i ea) := by
  unfold appArg at h
  split at h
  · replace h := gd_some h
    obtain ⟨hc, h⟩ := h
    replace h := bd_some h
    obtain ⟨j, h2, h⟩ := h
    replace h := gd_some h
    obtain ⟨h3, h⟩ := h
    have h := Option.some.inj h
    have e1 := congrArg Prod.fst h
    have e2 := congrArg (fun z => z.2.1) h
    have e3 := congrArg (fun z => z.2.2) h
    dsimp only at e1 e2 e3
    subst e2 e3
    simp only [Bool.and_eq_true, Bool.or_eq_true] at hc
    obtain ⟨⟨⟨⟨c1, c2⟩, c3⟩, c4⟩, c5⟩ := hc
    obtain ⟨p1, p2, p3⟩ := plain1 c2
    have hv := fun {p : Pos} => pe_var (pos := p) (ok.ix h2) (ok.vis c3) p1 p2
    rcases c1 with c1 | c1
    · have hm := eq_of_beq c1
      subst hm
      have ew : w = true := e1.symm
      subst ew
      exact iteT (ss_app hv ha base_name (few_one c5) c4 (star_cons c5))
    · have hm := eq_of_beq c1
      subst hm
      have ew : w = false := e1.symm
      subst ew
      exact iteF (ss_ext hv ha base_name (few_one c5) c4 (star_cons c5))
  · cases h
theorem nmArg_ok {t : Expr} {x : Str} {p : Pos} (h : nmArg t = some (x, p)) : t = .Name x p := by
  unfold nmArg at h
  split at h
  · cases h; rfl
  · cases h
theorem parArg_ok {t e : Expr} {x y : Str} {px py : Pos} {a b : Expr} (h : parArg t e = some (x, px, y, py, a, b)) : ∃ k pt k2 pt2, t = .Tuple [.Name x px, .Name y py] k pt ∧ e = .Tuple [a, b] k2 pt2 := by
  unfold parArg at h
  split at h
  · cases h; exact ⟨_, _, _, _, rfl, rfl⟩
  · cases h
theorem psetArg_ok (ok : Ok Φ X cc) {t e : Expr} {i : Nat} {k : Int} {pos : Pos} (h : psetArg cc t = some (i, k)) {ep : EvT} (he : SnP X e ep) (c1 : notComp e = true) (c2 : notTup e = true) : SnS X (.Assign [t] e pos) (esPset i k ep) := by
  unfold psetArg at h
  split at h
  · obtain ⟨q1, q2, q3, ⟨y, p, e1⟩, z, p2, e2⟩ := penIx_ok ok h
    subst e1 e2
    exact ss_pset he q1 q2 (fun _ => rfl) (by unfold swapsWithSole; exact swaps_plain c1) (stores_plain c2)
  · cases h
theorem osetArg_ok (ok : Ok Φ X cc) {t e b : Expr} {i : Nat} {pos : Pos} (h : osetArg cc t = some (i, b)) {ep tx : EvT} (he : SnP X e ep) (hx : SnP X b tx) (c1 : notComp e = true) (c2 : notTup e = true) : SnS X (.Assign [t] e pos) (esOset i tx ep) := by
  unfold osetArg at h
  split at h
  · replace h := gd_some h
    obtain ⟨hc, h⟩ := h
    simp only [Bool.and_eq_true] at hc
    replace h := bd_some h
    obtain ⟨j, h2, h⟩ := h
    replace h := gd_some h
    obtain ⟨_, h⟩ := h
    obtain ⟨rfl, rfl⟩ := Prod.mk.inj (Option.some.inj h)
    obtain ⟨p1, p2, _⟩ := plain1 hc.1.1
    rename_i b0 _ _ _
    exact ss_oset he (pe_var (ok.ix h2) (ok.vis hc.1.2) p1 p2) hx (fun v => by cases b0 <;> first | rfl | (exact nomatch (show false = true from hc.2))) (by unfold swapsWithSole; exact swaps_plain c1) (stores_plain c2)
  · cases h
structure PS2 (Φ : Nat → Fn) (W : Nat) (X : Cx) (cc : Cc) (n : Nat) : Prop where
  s : ∀ s sl, compS n cc s = some sl → SnS X s (evS Φ W sl)
  b : ∀ ss sl, compB2 n cc ss = some sl → SnB X ss (evB Φ W sl)
theorem stmt_ok (W : Nat) (ok : Ok Φ X cc) (hk : X.env.scope.kind = .function) (hp : PassesOwn (model X.prog X.w) X.A X.env X.xe) : ∀ n, PS2 Φ W X cc n
  | 0 => ⟨fun s sl h => (by simp only [compS] at h; cases h), fun s sl h => (by simp only [compB2] at h; cases h)⟩
  | n + 1 => by
    have P := stmt_ok W ok hk hp n
    have E := comp_all Φ n
    constructor
    · intro s sl h
      simp only [compS] at h
      split at h
      · cases h; exact ss_pass
      · cases h; exact ss_break
      · cases h; exact ss_cont
      · cases h
        exact psC ps_retN fun D σ H q => by
          obtain ⟨F, hK, G, Γ, st, r, R, hev, q⟩ := q
          cases hev
          exact q _ H G R.fin .non
      · replace h := bd_some h
        obtain ⟨t, h2, h⟩ := h
        cases h
        exact ss_ret (compTL_ok ok n _ _ h2)
      · split at h
        · rename_i i a ha
          replace h := bd_some h
          obtain ⟨t, h2, h⟩ := h
          cases h
          have q := appArg_ok (pos := by assumption) ok ha (compTL_ok ok n _ _ h2)
          exact q
        · rename_i i a ha
          replace h := bd_some h
          obtain ⟨t, h2, h⟩ := h
          cases h
          have q := appArg_ok (pos := by assumption) ok ha (compTL_ok ok n _ _ h2)
          exact q
        · replace h := gd_some h
          obtain ⟨hn, h⟩ := h
          replace h := bd_some h
          obtain ⟨t, h2, h⟩ := h
          cases h
          exact ss_drop (compTL_ok ok n _ _ h2) (swaps_plain hn)
      · split at h
        · rename_i x px hx
          have hx := nmArg_ok hx
          subst hx
          replace h := gd_some h
          obtain ⟨ht, h⟩ := h
          replace h := bd_some h
          obtain ⟨i, hi, h⟩ := h
          obtain ⟨t1, t2⟩ := ok.tgt _ ht
          split at h
          · rename_i hsw
            replace h := bd_some h
            obtain ⟨f, hf, h⟩ := h
            split at h
            · cases h; exact (lc_own hk ok _ hsw hi hf).1
            · cases h; exact (lc_own hk ok _ hsw hi hf).2
          · replace h := gd_some h
            obtain ⟨hn, h⟩ := h
            have hs : ∀ l, swapsWith (by assumption) (some (.Name x px)) l X.env = pure false := fun l => by
              by_cases hc : cc.sc.names.lookup x = some .cell
              · exact swaps_cell (by rw [ok.sc]; exact hc) hn
              · rw [decide_eq_false hc, Bool.or_false] at hn
                exact swaps_plain hn
            split at h
            · replace h := bd_some h
              obtain ⟨f, hf, h⟩ := h
              cases h
              exact ss_own ok.nd (ok.ix hi) t1 t2 (compTFL_ok ok hf) (hs _)
            · replace h := bd_some h
              obtain ⟨f, hf, h⟩ := h
              cases h
              exact ss_asg (compTL_ok ok n _ _ hf) (st_name ok.nd (ok.ix hi) t1 t2) (by unfold swapsWithSole; exact hs _) stores_name (each_one rfl)
        · split at h
          · rename_i x px y py a b hpar
            obtain ⟨k, pt, k2, pt2, e1, e2⟩ := parArg_ok hpar
            subst e1 e2
            split at h
            · rename_i hcell
              replace h := bd_some h
              obtain ⟨i, hi, h⟩ := h
              replace h := bd_some h
              obtain ⟨j, hj, h⟩ := h
              rw [Bool.or_eq_true, decide_eq_true_eq, decide_eq_true_eq, ← ok.sc] at hcell
              split at h
              · replace h := gd_some h
                obtain ⟨hc, h⟩ := h
                replace h := bd_some h
                obtain ⟨c1, h1, h⟩ := h
                replace h := bd_some h
                obtain ⟨c2, h2, h⟩ := h
                cases h
                simp only [Bool.and_eq_true] at hc
                obtain ⟨⟨⟨⟨k1, k2⟩, k3⟩, k4⟩, k5⟩ := hc
                have hij' : i ≠ j := fun e => by
                  subst e
                  rw [beq_self_eq_true] at k1
                  cases k1
                obtain ⟨u1, u2⟩ := ok.tgt _ k2
                obtain ⟨u3, u4⟩ := ok.tgt _ k3
                exact ss_parT _ ok.calm ok.nd (ok.ix hi) (ok.ix hj) hij' u1 u3 u2 u4 (compCL_ok ok h1) (compCL_ok ok h2) (star_cons k4) (star_cons k5) (sw_cell hcell)
              replace h := bd_some h
              obtain ⟨tg, h1, h⟩ := h
              replace h := bd_some h
              obtain ⟨tl, h2, h⟩ := h
              cases h
              exact ss_asg (compTL_ok ok n _ _ h2) ((compT_ok ok n).1 _ _ h1) (by unfold swapsWithSole; exact swaps_plain rfl) (sw_cell hcell) (each_one rfl)
            rename_i hcell
            clear hcell
            replace h := gd_some h
            obtain ⟨hc, h⟩ := h
            replace h := bd_some h
            obtain ⟨i, hi, h⟩ := h
            replace h := bd_some h
            obtain ⟨j, hj, h⟩ := h
            replace h := gd_some h
            obtain ⟨hij, h⟩ := h
            replace h := bd_some h
            obtain ⟨c1, h1, h⟩ := h
            replace h := bd_some h
            obtain ⟨c2, h2, h⟩ := h
            cases h
            simp only [Bool.and_eq_true, decide_eq_true_eq] at hc
            obtain ⟨⟨⟨⟨⟨⟨⟨⟨k1, k2⟩, k3⟩, k4⟩, k5⟩, k6⟩, k7⟩, k8⟩, k9⟩ := hc
            have l1 : X.env.scope.names.lookup x = some .local := by rw [ok.sc]; exact k2
            have l2 : X.env.scope.names.lookup y = some .local := by rw [ok.sc]; exact k3
            have ns : ∀ {z : Expr}, notStar z = true → (match z with | .Starred .. => true | _ => false) = false := fun {z} h => by cases z <;> first | rfl | cases h
            have hij' : i ≠ j := fun e => by
              subst e
              rw [beq_self_eq_true] at hij
              cases hij
            exact ss_par _ ok.calm ok.nd (ok.ix hi) (ok.ix hj) hij' l1 l2 (compCL_ok ok h1) (compCL_ok ok h2) (star_cons k6) (star_cons k7) (sw_par hk l1 l2 k4 (notB k5) (ns k6) (ns k7) (notB k8) (notB k9))
          · split at h
            · rename_i i k hps
              replace h := gd_some h
              obtain ⟨hc, h⟩ := h
              replace h := bd_some h
              obtain ⟨tl, h2, h⟩ := h
              cases h
              rw [Bool.and_eq_true] at hc
              obtain ⟨c1, c2⟩ := hc
              exact psetArg_ok ok hps (compTL_ok ok n _ _ h2) c1 c2
            · split at h
              · rename_i i b hos
                replace h := gd_some h
                obtain ⟨hc, h⟩ := h
                replace h := bd_some h
                obtain ⟨tx, h1, h⟩ := h
                replace h := bd_some h
                obtain ⟨tl, h2, h⟩ := h
                cases h
                rw [Bool.and_eq_true] at hc
                obtain ⟨c1, c2⟩ := hc
                exact osetArg_ok ok hos (compTL_ok ok n _ _ h2) (compTL_ok ok n _ _ h1) c1 c2
              · replace h := gd_some h
                obtain ⟨hc, h⟩ := h
                replace h := bd_some h
                obtain ⟨tg, h1, h⟩ := h
                replace h := bd_some h
                obtain ⟨tl, h2, h⟩ := h
                cases h
                simp only [Bool.and_eq_true] at hc
                obtain ⟨⟨c1, c2⟩, c3⟩ := hc
                exact ss_asg (compTL_ok ok n _ _ h2) ((compT_ok ok n).1 _ _ h1) (swaps_plain c1) (stores_plain c2) (each_one c3)
      · replace h := gd_some h
        obtain ⟨hi, h⟩ := h
        replace h := bd_some h
        obtain ⟨ic, h1, h⟩ := h
        replace h := bd_some h
        obtain ⟨sa, h2, h⟩ := h
        replace h := bd_some h
        obtain ⟨sb, h3, h⟩ := h
        cases h
        exact ss_if ((E.e X cc ok _ _ h1).2 (notB hi)) (P.b _ _ h2) (P.b _ _ h3)
      · replace h := gd_some h
        obtain ⟨hset, h⟩ := h
        replace h := bd_some h
        obtain ⟨ii, h1, h⟩ := h
        replace h := bd_some h
        obtain ⟨tg, h2, h⟩ := h
        replace h := bd_some h
        obtain ⟨sb, h3, h⟩ := h
        rename_i it _ _
        split at h
        · rename_i hr
          cases h
          refine ss_forR hp ok.calm (E.ir X cc ok _ _ _ h1 hr) ((compT_ok ok n).1 _ _ h2) (P.b _ _ h3) fun x => ?_
          cases it <;> first | rfl | cases hset
        · cases h
          refine ss_for _ hp ok.calm (E.i X cc ok _ _ _ h1) ((compT_ok ok n).1 _ _ h2) (P.b _ _ h3) fun x => ?_
          cases it <;> first | rfl | cases hset
      · replace h := gd_some h
        obtain ⟨hi, h⟩ := h
        replace h := bd_some h
        obtain ⟨ic, h1, h⟩ := h
        replace h := bd_some h
        obtain ⟨sb, h3, h⟩ := h
        cases h
        exact ss_while W hp ((E.e X cc ok _ _ h1).2 (notB hi)) (P.b _ _ h3)
      · cases h
    · intro ss sl h
      simp only [compB2] at h
      split at h
      · cases h; exact sb_nil
      · replace h := bd_some h
        obtain ⟨a, h1, h⟩ := h
        replace h := bd_some h
        obtain ⟨b, h2, h⟩ := h
        cases h
        exact sb_cons (P.s _ _ h1) (P.b _ _ h2)
end
end Mn
namespace Mn
open PySem PySem.Spec PyProof.Rows L2
/-! a def by its compiled body -/
def slOf : Arg → Sl
  | .d x => .d x
  | .pen => .pen
def startE (N : Nat) (args : List Arg) : Ev := args.map (fun a => some (slOf a)) ++ List.replicate (N - args.length) none
def endOf : Option Fl → Option (PyData × Pn)
  | some (.rt d st) => some (d, st)
  | some (.nx _ st) => some (.none, st)
  | _ => none
def runB (ev : EvS) (N : Nat) (args : List Arg) (st : Pn) : Option (PyData × Pn) := endOf (ev (startE N args) st)
theorem args_get {K : PySem.W.Frag} {pn : Option Addr} {G : Hp} {vs : List V} {as : List Arg} (h : ArgsOk K pn G vs as) : ∀ (i : Nat) (a : Arg), as[i]? = some a → ∃ v, vs[i]? = some v ∧ ArgOk K pn G v a := by
  induction h with
  | nil => intro i a e; simp at e
  | cons r t ih =>
    intro i a e
    cases i with
    | zero => simp at e; subst e; exact ⟨_, rfl, r⟩
    | succ i => simpa using ih i a (by simpa using e)
theorem start_rel {K : PySem.W.Frag} {pn : Option Addr} {pc : Addr} {H G : Hp} {vs : List V} {args : List Arg} {st : Pn} {N : List Str} (hN : args.length ≤ N.length) (le : Same G H) (pen : PenOk K pn pc G H st) (ha : ArgsOk K pn G vs args) :
    Rel ⟨K, pn, pc, H, G⟩ (L2.start N vs) H G (startE N.length args) st := by
  have hl := ha.length
  refine ⟨le, fun _ _ h => h, fun _ _ _ => rfl, fun _ _ h _ => h, pen, fun i s h => ?_, fun i j xs ys v hij h1 h2 f1 f2 => ?_, ?_⟩
  · unfold startE at h
    by_cases hi : i < args.length
    · rw [List.getElem?_append_left (by simpa using hi), List.getElem?_map, List.getElem?_eq_getElem hi] at h
      have e : slOf args[i] = s := Option.some.inj (Option.some.inj h)
      obtain ⟨v, hv, r⟩ := args_get ha i args[i] (List.getElem?_eq_getElem hi)
      refine ⟨v, ?_, ?_⟩
      · unfold L2.start
        rw [List.getElem?_append_left (by rw [List.length_map, hl]; exact hi), List.getElem?_map, hv]
        rfl
      · rw [← e]
        cases hx : args[i] with
        | d x => rw [hx] at r; exact r
        | pen => rw [hx] at r; exact r
    · rw [List.getElem?_append_right (by simpa using hi), List.getElem?_replicate] at h
      split at h <;> cases h
  · unfold startE at h1
    by_cases hi : i < args.length
    · rw [List.getElem?_append_left (by simpa using hi), List.getElem?_map, List.getElem?_eq_getElem hi] at h1
      have e : slOf args[i] = .own xs := Option.some.inj (Option.some.inj h1)
      cases hx : args[i] <;> (rw [hx] at e; cases e)
    · rw [List.getElem?_append_right (by simpa using hi), List.getElem?_replicate] at h1
      split at h1 <;> cases h1
  · unfold startE L2.start
    simp only [List.length_append, List.length_map, List.length_replicate, hl]
/-- what is known of the defs that a body calls -/
def Known (P : Program) (w : World) (K : PySem.W.Frag) (mg : Str → Option Value) (base : Heap) (k : Nat) (Φ : Nat → Fn) (fns : List (Str × Nat)) : Prop :=
  ∀ x n, fns.lookup x = some n → ∃ (fa : Addr) (fd : FuncData) (ps : List Str) (j m : Nat) (CX : CXT), FnOk P w K mg base CX j fa fd ps (spF K m (Φ n)) ∧ j ≤ k ∧ mg x = some (.ref fa) ∧ PySem.W.keepIn K (.ref fa) = true ∧ Binds K fd ps [] ∧
    (∀ outer H s e s', CX outer H s (fun _ _ _ => False) e s' → False) ∧ ∀ as st r, Φ n as st = some r → as.length = m
theorem Known.nil {P : Program} {w : World} {K : PySem.W.Frag} {mg : Str → Option Value} {base : Heap} {k : Nat} {Φ : Nat → Fn} : Known P w K mg base k Φ [] := fun x n h => by cases h
def tgtOk (cc : Cc) : Bool := cc.tgt.all fun x => decide (cc.sc.names.lookup x = some .local) || decide (cc.sc.names.lookup x = some .cell)
section
variable {P : Program} {w : World} {K : PySem.W.Frag} {mg : Str → Option Value} {base : Heap}
theorem ok_of {Φ : Nat → Fn} {X : Cx} {cc : Cc} {k : Nat} (hX : X.K = K ∧ X.mg = mg ∧ X.prog = P ∧ X.w = w ∧ X.base = base) (hN : X.N = cc.N) (nd : X.N.Nodup) (sc : X.env.scope = cc.sc) (calm : X.calm = true) (fn : ∀ x, X.fn x = true) (ht : tgtOk cc = true) (bl : ∀ x, cc.bl.contains x = true → mg x = none)
    (gc : ∀ x i, cc.gc.lookup x = some i → ∃ t, mg x = some (.int i t)) (kn : Known P w K mg base k Φ cc.fns) (hr : Room k X.A) (rep : cc.rep = true → X.A.guards = some [] ∧ SM X) : Ok Φ X cc := by
  obtain ⟨rfl, rfl, rfl, rfl, rfl⟩ := hX
  refine ⟨hN, nd, sc, calm, fun x h => ?_, bl, gc, fun x n h => ?_, ?_, rep⟩
  · have h1 := List.all_eq_true.mp ht x (by unfold isTgt at h; exact List.contains_iff_mem.mp h)
    simp only [Bool.or_eq_true, decide_eq_true_eq] at h1
    rw [sc]
    exact ⟨h1, .inl (fn x)⟩
  · obtain ⟨fa, fd, ps, j, m, CX, F, hj, h1, h2, h3, h4, h5⟩ := kn x n h
    exact ⟨fa, fd, ps, j, m, CX, F, hr.mono hj, h1, h2, h3, h4, h5⟩
  · have := hr.un
    omega
theorem def_ok {Φ : Nat → Fn} {x qual : Str} {st : Stmt} {f : Addr} {fd : FuncData} {ps : List Str} {k n : Nat} {cc : Cc} {sl : SLs} {mir : Fn} (F : Fun K x qual st f fd) (S : FnScope cc.N ps (defScope st)) (hsc : cc.sc = defScope st) (ht : tgtOk cc = true) (hrep : cc.rep = false)
    (hc : compB2 n cc (defBody st) = some sl) (bl : ∀ x, cc.bl.contains x = true → mg x = none) (gc : ∀ x i, cc.gc.lookup x = some i → ∃ t, mg x = some (.int i t)) (kn : Known P w K mg base k Φ cc.fns)
    (hm : ∀ args s r, mir args s = some r → args.length = ps.length ∧ ∃ W, runB (evB Φ W sl) cc.N.length args s = some r) : FnOk P w K mg base CX0 (k + 1) f fd ps (spF K ps.length mir) := by
  refine F.ok S (fun vs H Q E h => h.1) fun cdv A outer s H vs Q E hr h => ?_
  obtain ⟨hl, pn, pc, G, args, st0, d, st', le, pen, ha, hmir, q⟩ := h
  obtain ⟨hal, W, hrun⟩ := hm args st0 _ hmir
  have ok : Ok Φ (cxOf CX0 P w K mg base cc.N qual (defScope st) f cdv A outer s H E).nox cc := ok_of ⟨rfl, rfl, rfl, rfl, rfl⟩ rfl S.nd hsc.symm rfl (fun _ => rfl) ht bl gc kn hr (fun z => by rw [hrep] at z; cases z)
  refine ⟨_, (stmt_ok W ok S.kind PassesOwn.never n).b _ _ hc, ?_⟩
  have hpl : ps.length ≤ cc.N.length := by
    have := congrArg List.length S.pre
    rw [List.length_take] at this
    omega
  unfold runB at hrun
  cases hev : evB Φ W sl (startE cc.N.length args) st0 with
  | none => rw [hev] at hrun; cases hrun
  | some r =>
    rw [hev] at hrun
    refine ⟨⟨K, pn, pc, H, G⟩, rfl, G, _, st0, r, start_rel (by rw [hal]; exact hpl) le pen ha, hev, ?_⟩
    have fin : ∀ {H' G' : Hp} {st2 : Pn}, Fin ⟨K, pn, pc, H, G⟩ H' G' st2 → Ext K pn pc H G H' G' st2 := fun {H' G' st2} z => ⟨z.g0, z.le, fun b o h => z.fresh b o h, fun b o h n => z.keep b o h n, z.pen⟩
    cases r with
    | rt d2 st2 =>
      simp only [endOf] at hrun
      obtain ⟨rfl, rfl⟩ := Prod.mk.inj (Option.some.inj hrun)
      exact fun v H' G' z rp => q v H' G' (fin z) rp
    | nx Γ2 st2 =>
      simp only [endOf] at hrun
      obtain ⟨rfl, rfl⟩ := Prod.mk.inj (Option.some.inj hrun)
      exact fun σ' H' G' z => q _ H' G' (fin z.fin) .non
    | _ => cases hrun
end
end Mn
namespace Mn
open PySem PySem.Spec PyProof.Rows L2
/-! a def that may show data: nothing is being shown around it -/
structure FnG (P : Program) (w : World) (K : PySem.W.Frag) (mg : Str → Option Value) (base : Heap) (k : Nat) (f : Addr) (fd : FuncData) (ps : List Str) (sp : Sp) : Prop where
  run : ∀ (A : Around) (outer : List Env) (s : Shared) (H : Hp) (args : Args) (us : List Value) (vs : List V) (Q : VK) (E : XK),
    A.guards = some [] → Room k A → Env0 P w K mg base A outer s H →
    BindsTo s fd args (ps.zip us) → Vals vs us → sp vs H Q E →
    codeAny (model P w) A (.call (.ref f) args) (CR CX0 outer P w H s Q E) s
section
variable {P : Program} {w : World} {K : PySem.W.Frag} {mg : Str → Option Value} {base : Heap}
theorem funG {x qual : Str} {st : Stmt} {f : Addr} {fd : FuncData} {N ps : List Str} {k : Nat} {sp : Sp}
    (F : Fun K x qual st f fd) (S : FnScope N ps (defScope st))
    (hlen : ∀ vs H Q E, sp vs H Q E → vs.length = ps.length)
    (hb : ∀ (cdv : Value) (A : Around) (outer : List Env) (s : Shared) (H : Hp) (vs : List V) (Q : VK) (E : XK),
      A.guards = some [] → Room k (A.deeper (envOfC qual (defScope st) s.heap.objs.size f cdv)) → sp vs H Q E →
      ∃ t, PSs (cxOf CX0 P w K mg base N qual (defScope st) f cdv A outer s H E).nox (defBody st) t ∧
        t { nx := fun _ H' => Q .non H', rt := Q } (L2.start N vs) H) :
    FnG P w K mg base (k + 1) f fd ps sp := by
  obtain ⟨oc, od, kV, doc, pm, an, cdv, ct, osl, rfl, lk, hcd⟩ := F.ex
  constructor
  intro A outer s H args us vs Q E hg room e0 hbind rv hsp
  have hl := hlen vs H Q E hsp
  have kin : K.In s.heap := e0.mod.kin.keeps fun b o z => (e0.bs b o z).1
  have nolim : s.heap.NoLimit := e0.mod.nolimit.keeps fun b o z => (e0.bs b o z).1
  refine codeAny_call_function room.depth (kin _ _ lk) rfl S.co S.gen rfl (PySem.W.codeRec_of kin hcd) (hbind _ _ _ _ ?_)
  refine wpAny_newFunctionEnv_cells S.kind (fun pr hpr => ?_) fun env henv s1 inc => ?_
  · obtain ⟨n, v⟩ := pr
    cases S.par n (List.of_mem_zip hpr).1 with
    | inl q => exact Or.inl q
    | inr q => exact Or.inr ⟨q, PySem.W.cellsFrom_some _ _ _ (Or.inl q)⟩
  · subst henv
    refine ⟨nolim.keeps inc.toInCall.keep, codeAny_func ?_⟩
    obtain ⟨t, ht, hq⟩ := hb cdv A outer s H vs Q E hg (room.deeper _) hsp
    have inv := inv_start (CX := CX0) (E := E) S room.hd e0 hl rv inc
    refine wpAny_mono (ht.nox.run [] s1 (L2.start N vs) H _ inv hq) ?_ fun e s' z => z
    intro fl s' z
    have done : ∀ {σ' : L2.St} {H' : Hp} {v : V} {u : Value}, Inv (cxOf CX0 P w K mg base N qual (defScope st) f cdv A outer s H E) [] σ' H' s' →
        RelV v u → Q v H' → CE outer P w H s Q u s' := fun {σ' H' v u} J r q => ⟨v, H', J.os, J.bare, J.base, J.hok, r, q⟩
    cases fl with
    | ret u =>
      obtain ⟨v, σ', H', J, r, q⟩ := z
      exact done J r q
    | next =>
      obtain ⟨σ', H', J, q⟩ := z
      exact done (v := .non) (u := .none) J rfl q
    | brk =>
      obtain ⟨σ', H', J, q⟩ := z
      exact q.elim
    | cont =>
      obtain ⟨σ', H', J, q⟩ := z
      exact q.elim
/-- the law's call: true, and all that stood stays -/
theorem headG {mb : Str → Option Value} {k : Nat} {fa a : Addr} {fd : FuncData} {x : Str} {sp : Sp} {s₁ : Shared} {vs : List Value} {ns : List Int}
    (kin : K.In s₁.heap) (hns : s₁.heap.Ns mainGlobals mg) (hblt : s₁.heap.Ns builtinsNs mb)
    (hboot : ∀ z : Str, z ≠ "__name__" → mb z = bootBuiltins z) (nolim : s₁.heap.NoLimit) (hgens : s₁.gens = #[])
    (hmods : ∃ mm, s₁.heap.Ns sysModules mm)
    (hobj : s₁.heap.get? a = some { cls := .type "list", data := .seq vs.toArray }) (hints : IntsAre vs ns) (hl : ns.length ≤ sizeLine) (room : Room k callerA)
    (F : ∀ b : Heap, K.In b → b.Ns mainGlobals mg → SMb b → FnG P w K mg b k fa fd [x] sp)
    (hbind : ∀ (s : Shared) (u : Value), BindsTo s fd ⟨[u], []⟩ [(x, u)])
    (hsp : ∀ H : Hp, Only H → SqL K H a (ns.map V.int) → sp [.ref a] H (fun v _ => v = .bl true) fun _ _ _ => False) :
    codeAny (model P w) callerA (.call (.ref fa) ⟨[.ref a], []⟩) (fun r s' => r = .ok (.ret (.bool true)) ∧ OldK s₁.heap s'.heap ∧ s'.os = s₁.os ∧ AllBare s'.gens) s₁ := by
  have rv := vals_ints hints
  have hlv := hints.length
  have main : ∀ H : Hp, Only H → SqL K H a (ns.map V.int) → HOk P w H s₁.heap → (∀ b, H b ≠ none → b = a) → (H a ≠ none → K.lookup a = none) →
      codeAny (model P w) callerA (.call (.ref fa) ⟨[.ref a], []⟩) (fun r s' => r = .ok (.ret (.bool true)) ∧ OldK s₁.heap s'.heap ∧ s'.os = s₁.os ∧ AllBare s'.gens) s₁ := by
    intro H only sq hok one apart
    have see : ∀ {b : Addr} {o : Obj}, s₁.heap.get? b = some o → b ≠ a → (hidT s₁.heap H).get? b = some o := fun {b o} e n =>
      hidT_get e (Classical.byContradiction fun z => n (one b z))
    have noDict : ∀ {b : Addr} {o : Obj} {es : Array DictEntry} {ep : Nat}, s₁.heap.get? b = some o → o.data = .dict es ep → b ≠ a := fun {b o es ep} e d z => by
      subst z
      rw [hobj] at e
      cases e
      exact nomatch d
    have ns' : ∀ {b : Addr} {m : Str → Option Value}, s₁.heap.Ns b m → (hidT s₁.heap H).Ns b m := fun {b m} z => by
      obtain ⟨o, es, ep, e, d, r⟩ := z
      exact ⟨o, es, ep, see e (noDict e d), d, r⟩
    have kin' : K.In (hidT s₁.heap H) := fun b o e => hidT_get (kin b o e) (Classical.byContradiction fun z => by
      have eb := one b z
      subst eb
      rw [apart z] at e
      cases e)
    have lim' : (hidT s₁.heap H).NoLimit := by
      obtain ⟨mc, h1, h2⟩ := nolim
      exact ⟨mc, ns' h1, h2⟩
    have mod : Mod K mg (hidT s₁.heap H) := ⟨kin', ns' hns, ⟨mb, ns' hblt, hboot⟩, lim'⟩
    have e0 : Env0 P w K mg (hidT s₁.heap H) callerA [] s₁ H :=
      ⟨rfl, mod, fun b o e => of_hidT e, Nat.le_of_eq (hidT_size _ _), trivial, fun b hb => (nomatch hb), hok, .of_eq hgens⟩
    refine codeAny_mono ((F _ kin' (ns' hns) (by obtain ⟨mm, z⟩ := hmods; obtain ⟨o, es, ep, e, d, _⟩ := ns' z; exact ⟨o, es, ep, e, d⟩)).run callerA [] s₁ H ⟨[.ref a], []⟩ [.ref a] [.ref a] _ _ rfl room e0 (hbind s₁ (.ref a)) (.cons rfl .nil) (hsp H only sq)) fun r s' z => ?_
    cases r with
    | error e => exact z.elim
    | ok fl =>
      cases fl with
      | ret u =>
        obtain ⟨v, H', os, bare, un, hok', ru, q⟩ := z
        have ev : v = .bl true := q
        subst ev
        obtain rfl : u = Value.bool true := ru
        refine ⟨rfl, OldK.of_keep fun b o e => ?_, os, bare⟩
        cases hb : H b with
        | none => exact un.keep b o e hb (fun z => nomatch z) (fun z => nomatch z)
        | some y =>
          rcases only b with z | ⟨ob, xs, z⟩
          · exact absurd (z.symm.trans hb) (fun z => nomatch z)
          · have e1 := (hok b _ z).1
            have e2 := (hok' b _ (un.frzs b ob _ z)).1
            exact e2.trans (e1.symm.trans e)
      | _ => exact False.elim z
  cases hk : K.lookup a with
  | some o =>
    have e := kin a o hk
    rw [hobj] at e
    cases e
    exact main (fun _ => none) (fun _ => .inl rfl) (.inr ⟨_, vs.toArray, _, hk, rfl, rfl, rfl, by rw [List.size_toArray, hlv]; exact hl, by simpa using rv⟩)
      (fun b u z => (nomatch (show (none : Option HO) = some u from z))) (fun b z => absurd rfl z) fun z => absurd rfl z
  | none =>
    have at_ : ∀ {b : Addr} {u : HO}, (if b = a then some (HO.frz { cls := .type "list", data := .seq vs.toArray } (.lst (ns.map V.int))) else none) = some u → b = a ∧ u = .frz { cls := .type "list", data := .seq vs.toArray } (.lst (ns.map V.int)) := fun {b u} z => by
      split at z
      · exact ⟨by assumption, (Option.some.inj z).symm⟩
      · cases z
    refine main (fun b => if b = a then some (.frz { cls := .type "list", data := .seq vs.toArray } (.lst (ns.map V.int))) else none) (fun b => ?_) (.inl (.inr ⟨_, if_pos rfl⟩)) (fun b u z => ?_) (fun b z => ?_) fun _ => hk
    · by_cases hb : b = a
      · exact .inr ⟨_, _, if_pos hb⟩
      · exact .inl (if_neg hb)
    · obtain ⟨e1, e2⟩ := at_ z
      subst e1 e2
      exact ⟨hobj, by rw [List.length_map]; exact hl, vs, _, rv, hobj⟩
    · cases hq : (if b = a then some (HO.frz { cls := .type "list", data := .seq vs.toArray } (.lst (ns.map V.int))) else none) with
      | none => exact absurd hq z
      | some u => exact (at_ hq).1
end
theorem walkG {l : PySem.W.OpenLaw} {n k : Nat} {q : Program} {loose : List Str} {XP : (Str → Option Value) → Heap → Prop} {YP : World → Heap → Prop} {d : DefRec} {K : Params → PySem.W.Frag} {sp : World → Sp} {x : Str}
    (hn : l.most = some n) (hn2 : n ≤ sizeLine) (hdf : d.params.defaults = []) (hq : importsNone q = true) (room : Room k callerA)
    (hY : ∀ (w : World) (h : Heap), YP w h → (K w.params).In h)
    (F : ∀ (w : World) (mg : Str → Option Value) (fa : Addr) (h : Heap), (K w.params).In h → h.Ns mainGlobals mg → mg d.name = some (.ref fa) →
      ∃ fd : FuncData, (∀ (s : Shared) (u : Value), BindsTo s fd ⟨[u], []⟩ [(x, u)]) ∧
        ∀ b : Heap, (K w.params).In b → b.Ns mainGlobals mg → SMb b → FnG l.prog w (K w.params) mg b k fa fd [x] (sp w))
    (hsp : ∀ (w : World) (H : Hp) (a : Addr) (ns : List Int), ns.length ≤ n → (∀ z ∈ ns, Builtin.Int.intBits z ≤ 1048576) → Only H → SqL (K w.params) H a (ns.map V.int) →
      sp w [.ref a] H (fun v _ => v = .bl true) fun _ _ _ => False) :
    PySem.W.WalkO q loose XP YP l.row.toRowW d [] (fun f vs => PySem.call f vs) := by
  refine Att.attach_callB hn hdf ?_
  intro w s₀ s₁ mg mb fa o pm cd doc a vs ns G Y ho hd hcd hmg hobj hints hlen hbits hg
  have kin := hY w _ Y
  obtain ⟨fd, hb, hF⟩ := F w mg fa _ kin G.T.g hmg
  exact headG kin G.T.g G.T.b G.T.builtins G.T.nolimit hg (by obtain ⟨mm, z, _⟩ := (G.T.seer hq).mods; exact ⟨mm, z⟩) hobj hints (Nat.le_trans hlen hn2) room hF hb fun H only sq => hsp w H a ns hlen hbits only sq
end Mn
namespace Mn
open PySem PySem.Spec PyProof.Rows L2
/-! the laws' pen, and the law's own def -/
def spPen (K : PySem.W.Frag) : Sp := fun vs H Q _ => ∃ (a : Addr) (ns : List Int), vs = [.ref a] ∧ SqL K H a (ns.map V.int) ∧ ns.length ≤ 63 ∧
  ∀ (H' : Hp) (p c : Addr), Same H H' → H p = none → H c = none → p ≠ c → H' p = some (.lst [.ref c, .int 0, .int 0]) → H' c = some (.lst (ns.map V.int)) → Q (.ref p) H'
def PenBody (st : Stmt) : Prop := ∃ p1 p2 p3 p4 p5 p6 p7 p8 p9 p10 k1 k2 k3, defBody st =
  [.Return (some (.List [.Call (.Name "list" p1) [.Subscript (.Name "script" p2) (.Slice none (some (.Constant (.int 63) k1 p3)) none p4) p5] [] p6, .Constant (.int 0) k2 p7, .Constant (.int 0) k3 p8] p9)) p10]
theorem gl_of {sc : Scope} {x : Str} (h : glB sc x = true) : sc.names.lookup x = some .globalImplicit := of_decide_eq_true h
theorem same_new {H : Hp} {p : Addr} {o : HO} (h : H p = none) : Same H (upd H p o) := fun b u e => by
  have : b ≠ p := fun z => by subst z; rw [h] at e; cases e
  rw [upd_ne this]; exact e
theorem cut63 {ns : List Int} (h : ns.length ≤ 63) : cutV (ns.map V.int) none (some 63) = ns.map V.int := by
  have h1 : HT.sIx (ns.map V.int).length 0 none = 0 := HT.sIx_none _ _
  have h2 : HT.sIx (ns.map V.int).length (ns.map V.int).length (some 63) = (ns.map V.int).length := by
    rw [show HT.sIx (ns.map V.int).length (ns.map V.int).length (some 63) = min 63 (ns.map V.int).length from HT.sIx_nat _ _ 63, List.length_map]
    omega
  exact cut_whole h1 h2
section
variable {P : Program} {w : World} {K : PySem.W.Frag} {mg : Str → Option Value} {base : Heap}
theorem pen_ok {st : Stmt} {f : Addr} {fd : FuncData} {k : Nat} (F : Fun K "_law_pen" "_law_pen" st f fd) (S : FnScope ["script"] ["script"] (defScope st)) (hb : PenBody st) (hg : glB (defScope st) "list" = true) (hv : visB (defScope st) "script" = true) (ml : mg "list" = none) :
    FnOk P w K mg base CX0 (k + 1) f fd ["script"] (spPen K) := by
  refine F.ok S (fun vs H Q E h => ?_) fun cdv A outer s H vs Q E hr h => ?_
  · obtain ⟨a, ns, rfl, _⟩ := h
    rfl
  · obtain ⟨p1, p2, p3, p4, p5, p6, p7, p8, p9, p10, k1, k2, k3, hb⟩ := hb
    obtain ⟨a, ns, rfl, sq, hl, q⟩ := h
    rw [hb]
    refine ⟨_, pss_one (ps_ret (pe_lst (pa_cons (pe_callTy call_list_of (gl_of hg) ml (by decide +kernel) (pa_cons (pe_slice sl_list (pe_var (i := 0) rfl (visB_ok hv)) po_none (po_some pe_int)) pa_nil))
      (pa_cons pe_int (pa_cons pe_int pa_nil))))), ?_⟩
    refine ⟨.ref a, rfl, 63, rfl, a, ns.map V.int, rfl, sq, fun c1 n1 => ?_⟩
    rw [cut63 hl]
    refine ⟨c1, ns.map V.int, rfl, .inl (SqL.of upd_same), fun c n2 => ?_⟩
    refine ⟨(by decide : (3 : Nat) ≤ sizeLine), fun p n3 => ?_⟩
    have h1 : H c = none := by
      cases e : H c with
      | none => rfl
      | some o => rw [same_new n1 _ _ e] at n2; cases n2
    have h2 : H p = none := by
      cases e : H p with
      | none => rfl
      | some o => rw [same_new n2 _ _ (same_new n1 _ _ e)] at n3; cases n3
    have h3 : p ≠ c := fun e => by subst e; rw [upd_same] at n3; cases n3
    exact q _ p c (fun b o e => same_new n3 _ _ (same_new n2 _ _ (same_new n1 _ _ e))) h2 h1 h3 upd_same (by rw [upd_ne h3.symm, upd_same])
def spLaw (K : PySem.W.Frag) : Sp := fun vs H Q _ => ∃ (a : Addr) (ns : List Int), vs = [.ref a] ∧ Only H ∧ SqL K H a (ns.map V.int) ∧ ns.length ≤ 63 ∧ ∀ H', Q (.bl true) H'
def LawBody (st : Stmt) (rest : List Stmt) : Prop := ∃ p1 p2 p3 p4 p5, defBody st = .Assign [.Name "pen" p1] (.Call (.Name "_law_pen" p2) [.Name "script" p3] [] p4) p5 :: rest
theorem law_ok {Φ : Nat → Fn} {st : Stmt} {f fP : Addr} {fd fdP : FuncData} {k n : Nat} {cc : Cc} {sl : SLs} {rest : List Stmt} (F : Fun K "law" "law" st f fd) (S : FnScope cc.N ["script"] (defScope st)) (hsc : cc.sc = defScope st) (ht : tgtOk cc = true)
    (hb : LawBody st rest) (hc : compB2 n cc rest = some sl) (h0 : cc.N[0]? = some ("script" : Str)) (h1 : cc.N[1]? = some ("pen" : Str)) (hv : visB (defScope st) "script" = true) (hp : (defScope st).names.lookup ("pen" : Str) = some .local) (hg : glB (defScope st) "_law_pen" = true)
    (bl : ∀ x, cc.bl.contains x = true → mg x = none) (gc : ∀ x i, cc.gc.lookup x = some i → ∃ t, mg x = some (.int i t)) (kn : Known P w K mg base k Φ cc.fns) (hsm : SMb base)
    (GP : FnOk P w K mg base CX0 k fP fdP ["script"] (spPen K)) (mP : mg "_law_pen" = some (.ref fP)) (kP : PySem.W.keepIn K (.ref fP) = true) (bP : Binds K fdP ["script"] [])
    (hm : ∀ ns : List Int, ns.length ≤ 63 → ∃ W st', evB Φ W sl (some (.scr ns) :: some .pen :: List.replicate (cc.N.length - 2) none) ⟨ns, 0, 0⟩ = some (.rt (.bool true) st')) :
    FnG P w K mg base (k + 1) f fd ["script"] (spLaw K) := by
  refine funG F S (fun vs H Q E h => ?_) fun cdv A outer s H vs Q E hgd hr h => ?_
  · obtain ⟨a, ns, rfl, _⟩ := h
    rfl
  · obtain ⟨p1, p2, p3, p4, p5, hb⟩ := hb
    obtain ⟨a, ns, rfl, only, sq, hl, q⟩ := h
    obtain ⟨W, st', hev⟩ := hm ns hl
    rw [hb]
    have ok : Ok Φ (cxOf CX0 P w K mg base cc.N "law" (defScope st) f cdv A outer s H E).nox cc := ok_of ⟨rfl, rfl, rfl, rfl, rfl⟩ rfl S.nd hsc.symm rfl (fun _ => rfl) ht bl gc kn hr (fun _ => ⟨hgd, hsm⟩)
    refine ⟨_, pss_cons (ps_set (i := 1) S.nd h1 (.inl hp) (pe_call GP hr (gl_of hg) mP kP bP .nil pass0 (pa_cons (pe_var (i := 0) h0 (visB_ok hv)) pa_nil)))
      ((stmt_ok W ok S.kind PassesOwn.never n).b _ _ hc), ?_⟩
    have hlen : 2 ≤ cc.N.length := by
      have := List.getElem?_eq_some_iff.mp h1
      obtain ⟨z, _⟩ := this
      omega
    have hs0 : L2.start cc.N [V.ref a] = some (.ref a) :: none :: List.replicate (cc.N.length - 2) none := by
      unfold L2.start
      show some (V.ref a) :: List.replicate (cc.N.length - 1) none = _
      rw [show cc.N.length - 1 = (cc.N.length - 2) + 1 by omega, List.replicate_succ]
    refine ⟨.ref a, by rw [hs0]; rfl, a, ns, rfl, sq, hl, fun H' p c sm n1 n2 hpc e1 e2 => ?_⟩
    have hs1 : (L2.start cc.N [V.ref a]).set 1 (some (.ref p)) = some (.ref a) :: some (.ref p) :: List.replicate (cc.N.length - 2) none := by rw [hs0]; rfl
    refine ⟨⟨K, some p, c, H', fun b => if b = c then some (.lst (ns.map V.int)) else none⟩, rfl, fun b => if b = c then some (.lst (ns.map V.int)) else none, _, ⟨ns, 0, 0⟩, _, ?_, hev, fun v H2 G2 _ rp => ?_⟩
    · show Rel _ ((L2.start cc.N [V.ref a]).set 1 (some (.ref p))) _ _ _ _
      rw [hs1]
      refine ⟨fun b o h => ?_, fun _ _ h => h, fun _ _ _ => rfl, fun _ _ h _ => h, ⟨if_neg hpc, e1, if_pos rfl⟩, fun i sl h => ?_, fun i j xs ys v hij h2 h3 f1 f2 => ?_, by simp⟩
      · by_cases e : b = c
        · subst e
          rw [if_pos rfl] at h
          cases h
          exact e2
        · rw [if_neg e] at h
          cases h
      · match i, h with
        | 0, h =>
          simp only [List.getElem?_cons_zero, Option.some.injEq] at h
          subst h
          refine ⟨_, rfl, a, rfl, ?_⟩
          rcases sq with (z | ⟨o, z⟩) | z
          · rcases only a with y | ⟨o, xs, y⟩
            · rw [y] at z; cases z
            · rw [y] at z; cases z
          · refine ⟨o, .inl ⟨sm _ _ z, fun e => ?_⟩⟩
            cases e
            rw [n1] at z
            cases z
          · exact ⟨default, .inr (.inr z)⟩
        | 1, h =>
          simp only [List.getElem?_cons_succ, List.getElem?_cons_zero, Option.some.injEq] at h
          subst h
          exact ⟨_, rfl, p, rfl, rfl⟩
        | i + 2, h =>
          simp only [List.getElem?_cons_succ, List.getElem?_replicate] at h
          split at h <;> cases h
      · match i, h2 with
        | 0, h2 => simp at h2
        | 1, h2 => simp at h2
        | i + 2, h2 =>
          simp only [List.getElem?_cons_succ, List.getElem?_replicate] at h2
          split at h2 <;> cases h2
    · cases rp
      exact q _
end
end Mn
namespace Mn
open PySem PySem.Spec PyProof.Rows L2
/-! bodies that may raise one error with its fields -/
inductive FlX where
  | f (r : Fl)
  | ex (ds : List PyData) (st : Pn)
abbrev EvX := Ev → Pn → Option FlX
/-- the error's class, its fields, the wish -/
structure Wish where
  C : Addr
  flds : List Str
  W : WX
/-- an error's dict -/
def FldOk (flds : List Str) (vs : List V) (fs : List (Str × V)) : Prop := flds.length = vs.length ∧ ∀ p ∈ flds.zip vs, fs.lookup p.1 = some p.2
def PostX (F : Fz) (w : Wish) (D : Ends) : FlX → Prop
  | .f r => Post F D r
  | .ex ds st => ∀ σ H G vs dd fs, Fin F H G st → RpA F.K G vs ds → FldOk w.flds vs fs → H dd = some (.xd fs) → w.W (.ref w.C) (some dd) σ H
def tSX (K : PySem.W.Frag) (w : Wish) (ev : EvX) : TS := fun D σ H => ∃ F : Fz, F.K = K ∧ ∃ G Γ st r, Rel F σ H G Γ st ∧ ev Γ st = some r ∧ PostX F w D r
def SxS (X : Cx) (w : Wish) (s : Stmt) (ev : EvX) : Prop := PS X s (tSX X.K w ev)
def SxB (X : Cx) (w : Wish) (s : List Stmt) (ev : EvX) : Prop := PSs X s (tSX X.K w ev)
def exOf (a : EvS) : EvX := fun Γ st => match a Γ st with
  | some r => some (.f r)
  | none => none
def exSeq (a b : EvX) : EvX := fun Γ st => match a Γ st with
  | some (.f (.nx Γ1 st1)) => b Γ1 st1
  | r => r
def exIf (c : EvE) (a b : EvX) : EvX := fun Γ st => match c (frzBy allS 0 Γ) st with
  | some (.bool true, st1) => a Γ st1
  | some (.bool false, st1) => b Γ st1
  | _ => none
def exRaise (n : Nat) (a : EvA) : EvX := fun Γ st => match a (frzBy allS 0 Γ) st with
  | some (ds, st1) => if n = ds.length then some (.ex ds st1) else none
  | none => none
def exLoop (tg : Tg) (body : EvX) : List PyData → EvX
  | [], Γ, st => some (.f (.nx Γ st))
  | d :: ds, Γ, st => match asT tg d Γ with
    | some Γ1 => match body Γ1 st with
      | some (.f (.nx Γ2 st2)) => exLoop tg body ds Γ2 st2
      | some (.f (.ct Γ2 st2)) => exLoop tg body ds Γ2 st2
      | some (.f (.bk Γ2 st2)) => some (.f (.nx Γ2 st2))
      | some (.f (.rt d2 st2)) => some (.f (.rt d2 st2))
      | some (.ex d2 st2) => some (.ex d2 st2)
      | none => none
    | none => none
def exFor (L : List Nat) (it : EvI) (tg : Tg) (body : EvX) : EvX := fun Γ st => match it (frzBy L.contains 0 Γ) st with
  | some (ds, st1) => exLoop tg body ds (frzBy L.contains 0 Γ) st1
  | none => none
section
variable {X : Cx} {w : Wish} {s : Stmt} {ss s1 s2 : List Stmt} {c : Expr} {ev : EvS} {a b : EvX} {ec : EvE} {pos : Pos}
theorem sx_of (h : SnS X s ev) : SxS X w s (exOf ev) := psC h fun D σ H q => by
  obtain ⟨F, hK, G, Γ, st, r, R, hev, q⟩ := q
  unfold exOf at hev
  split at hev
  · rename_i r1 h1
    cases hev
    exact ⟨F, hK, G, Γ, st, r1, R, h1, q⟩
  · cases hev
theorem sxb_of (h : SnB X ss ev) : SxB X w ss (exOf ev) := pssC h fun D σ H q => by
  obtain ⟨F, hK, G, Γ, st, r, R, hev, q⟩ := q
  unfold exOf at hev
  split at hev
  · rename_i r1 h1
    cases hev
    exact ⟨F, hK, G, Γ, st, r1, R, h1, q⟩
  · cases hev
theorem sxb_cons (h1 : SxS X w s a) (h2 : SxB X w ss b) : SxB X w (s :: ss) (exSeq a b) := pssC (pss_cons h1 h2) fun D σ H q => by
  obtain ⟨F, hK, G, Γ, st, r, R, hev, q⟩ := q
  unfold exSeq at hev
  cases h : a Γ st with
  | none => rw [h] at hev; cases hev
  | some r1 =>
    rw [h] at hev
    refine ⟨F, hK, G, Γ, st, r1, R, h, ?_⟩
    cases r1 with
    | ex d st1 => cases hev; exact q
    | f r1 =>
      cases r1 with
      | nx Γ1 st1 => exact fun σ1 H1 G1 R1 => ⟨F, hK, G1, Γ1, st1, r, R1, hev, q⟩
      | _ => cases hev; exact q
theorem sx_if (hc : Sn X c ec) (ha : SxB X w s1 a) (hb : SxB X w s2 b) : SxS X w (.If c s1 s2 pos) (exIf ec a b) := psC (ps_if (pt_tst hc) ha hb) fun D σ H q => by
  obtain ⟨F, hK, G, Γ, st, r, R, hev, q⟩ := q
  unfold exIf at hev
  split at hev
  · rename_i st1 h1
    exact ⟨F, hK, G, Γ, st, true, st1, R, h1, fun H' G' R' _ => iteT ⟨F, hK, G', Γ, st1, r, R', hev, q⟩⟩
  · rename_i st1 h1
    exact ⟨F, hK, G, Γ, st, false, st1, R, h1, fun H' G' R' _ => iteF ⟨F, hK, G', Γ, st1, r, R', hev, q⟩⟩
  · cases hev
/-- C(e, ..): its own dict holds the fields -/
def tMk (w : Wish) (ta : TA) : L2.St → Hp → XK → Prop := fun σ H Q => ta σ H fun vs H1 => w.flds.length = vs.length ∧ ∀ d fs, H1 d = none → FldOk w.flds vs fs → Q (.ref w.C) (some d) (upd H1 d (.xd fs))
def tAx (K : PySem.W.Frag) (er : EvA) : TA := fun σ H Q => ∃ F : Fz, F.K = K ∧ tAs F er σ H Q
theorem pa_x {es : List Expr} {er : EvA} (h : SnA X es er) : PA X es (tAx X.K er) := ⟨fun pos pins s σ H Q I q => by
  obtain ⟨F, hK, q⟩ := q
  exact (h F hK).run pos pins s σ H Q I q⟩
theorem sx_raise {e : Expr} {er : EvA} (hc : X.calm = true) (tk : Takes X w.W) (mk : PMk X e (tMk w (tAx X.K er))) : SxS X w (.Raise (some e) none pos) (exRaise w.flds.length er) := psC (ps_raise hc tk mk) fun D σ H q => by
  obtain ⟨F, hK, G, Γ, st, r, R, hev, q⟩ := q
  unfold exRaise at hev
  split at hev
  · rename_i ds st1 h1
    split at hev
    · rename_i hn
      cases hev
      obtain ⟨sm, R1⟩ := R.frz allS
      refine ⟨F, hK, _, _, st, ds, st1, R1, h1, fun vs H1 G1 E1 ra => ⟨hn.trans (RpA.length ra).symm, fun dd fs hd hf => ?_⟩⟩
      have R2 := R1.step E1
      have R3 := R2.step (Ext.newH R2 (o := .xd fs) hd)
      exact q σ _ _ vs dd fs R3.fin ra hf upd_same
    · cases hev
  · cases hev
theorem sx_for {t it : Expr} {body : List Stmt} {tg : Tg} {ei : EvI} {eb : EvX} (L : List Nat) (hp : PassesOwn (model X.prog X.w) X.A X.env X.xe) (hc : X.calm = true) (hi : SnI X t it ei) (ht : SnT X t tg) (hb : SxB X w body eb) (hs : ∀ x, foldedSetIterable it X.env x = pure x) :
    SxS X w (.For t it body [] pos) (exFor L ei tg eb) := ⟨fun pins s σ H D I q => by
  obtain ⟨F, hK, G, Γ, st, r, R, hev, q⟩ := q
  unfold exFor at hev
  cases h1 : ei (frzBy L.contains 0 Γ) st with
  | none => rw [h1] at hev; cases hev
  | some p1 =>
    obtain ⟨ds, st1⟩ := p1
    simp only [h1] at hev
    obtain ⟨sm, R0⟩ := R.frz L.contains
    refine (ps_for hp hc (hi F hK) (pg_x ht) hb hs).run pins s σ H D I ⟨_, _, st, ds, st1, R0, h1, fun J H1 G1 E1 wk => ?_⟩
    have R1 := R0.step E1
    have key : ∀ (σ : L2.St) (H : Hp) (G' : Hp) (Γ' : Ev) (st' : Pn), Rel (F.at G1) σ H G' Γ' st' → Same G1 H := fun σ H G' Γ' st' R' b o h => R'.le b o (R'.g0 b o h)
    refine ⟨fun i m σ H => m = ds.length - i ∧ i ≤ ds.length ∧ ∃ G' Γ' st', Rel (F.at G1) σ H G' Γ' st' ∧ exLoop tg eb (ds.drop i) Γ' st' = some r, ⟨ds.length, by simp, Nat.zero_le _, G1, _, st1, R1.down, by simpa using hev⟩, ?_⟩
    rintro i m σ2 H2 ⟨rfl, hi, G', Γ', st', R', hl⟩
    by_cases hlt : i < ds.length
    · refine .inr ⟨wk.w.goes i H2 hlt (key _ _ _ _ _ R'), fun σ' H' => ∃ G' Γ' st', Rel (F.at G1) σ' H' G' Γ' st' ∧ exLoop tg eb (ds.drop (i + 1)) Γ' st' = some r, fun σ' H' n => ⟨ds.length - (i + 1), by omega, rfl, hlt, n⟩, fun x H3 y => ?_⟩
      obtain ⟨d, hd, yl⟩ := wk.w.yields i H2 x H3 hlt (key _ _ _ _ _ R') y
      obtain ⟨G3, nw, rp⟩ := yl G' R'.g0 R'.le
      rw [drop_at hd] at hl
      simp only [exLoop] at hl
      cases h2 : asT tg d Γ' with
      | none => rw [h2] at hl; cases hl
      | some Γ1 =>
        simp only [h2] at hl
        refine ⟨F.at G1, hK, G3, Γ', st', d, Γ1, R'.step (nw.ext R'), rp, h2, fun σ4 R4 _ => ?_⟩
        cases h3 : eb Γ1 st' with
        | none => rw [h3] at hl; cases hl
        | some r3 =>
          simp only [h3] at hl
          refine ⟨F.at G1, hK, G3, Γ1, st', r3, R4, h3, ?_⟩
          cases r3 with
          | ex d2 st2 =>
            cases hl
            exact fun σ5 H5 G5 v5 dd5 fs5 F5 r5 f5 e5 => q σ5 H5 G5 v5 dd5 fs5 (Fin.up R1 F5) r5 f5 e5
          | f r3 =>
            cases r3 with
            | nx Γ2 st2 => exact fun σ5 H5 G5 R5 => ⟨G5, Γ2, st2, R5, hl⟩
            | ct Γ2 st2 => exact fun σ5 H5 G5 R5 => ⟨G5, Γ2, st2, R5, hl⟩
            | bk Γ2 st2 =>
              cases hl
              exact fun σ5 H5 G5 R5 => q σ5 H5 G5 (R1.up R5)
            | rt d2 st2 =>
              cases hl
              exact fun v5 H5 G5 F5 r5 => q v5 H5 G5 (Fin.up R1 F5) r5
    · have e : i = ds.length := by omega
      subst e
      rw [List.drop_length] at hl
      simp only [exLoop] at hl
      cases hl
      exact .inl ⟨wk.w.stops H2 (key _ _ _ _ _ R'), q σ2 H2 G' (R1.up R')⟩⟩
end
end Mn
namespace Mn
open PySem PySem.Spec PyProof.Rows L2
/-! bodies that may raise, compiled -/
mutual
inductive XL where
  | st (a : SL) | raise (n : Nat) (es : ILs) | iff (c : IL) (a b : XLs) | for_ (L : List Nat) (it : ILI) (tg : Tg) (b : XLs)
inductive XLs where
  | nil | cons (a : XL) (r : XLs)
end
section
variable (Φ : Nat → Fn) (W : Nat)
mutual
def evX : XL → EvX
  | .st a => exOf (evS Φ W a)
  | .raise n es => exRaise n (evEs Φ es)
  | .iff c a b => exIf (evE Φ c) (evXB a) (evXB b)
  | .for_ L it tg b => exFor L (evI Φ it) tg (evXB b)
def evXB : XLs → EvX
  | .nil => exOf esNext
  | .cons a r => exSeq (evX a) (evXB r)
end
end
def raiseArg (exn : Str) (nf : Nat) (cc : Cc) : Stmt → Option (List Expr)
  | .Raise (some (.Call (.Name x _) (a :: es) [] _)) none _ => gd (x == exn && glB cc.sc x && plainName x && notStar a && es.all notStar && decide ((a :: es).length = nf)) (some (a :: es))
  | _ => none
mutual
def compX : Nat → Cc → Str → Nat → Stmt → Option XL
  | 0, _, _, _, _ => none
  | n + 1, cc, exn, nf, s => match raiseArg exn nf cc s with
    | some es => (compEs n cc es).bind fun ia => some (.raise nf ia)
    | none => match compS n cc s with
      | some sl => some (.st sl)
      | none => match s with
        | .If c a b _ => gd (!isIf c) ((compE n cc c).bind fun ic => (compXB n cc exn nf a).bind fun sa => (compXB n cc exn nf b).bind fun sb => some (.iff ic sa sb))
        | .For t it b [] _ => gd (notSetD it) ((compI n cc t it).bind fun ii => (compT n cc t).bind fun tg => (compXB n cc exn nf b).bind fun sb => some (.for_ (ownRd cc (rdI ii)) ii tg sb))
        | _ => none
def compXB : Nat → Cc → Str → Nat → List Stmt → Option XLs
  | 0, _, _, _, _ => none
  | n + 1, cc, exn, nf, ss => match ss with
    | [] => some .nil
    | s :: r => (compX n cc exn nf s).bind fun a => (compXB n cc exn nf r).bind fun b => some (.cons a b)
end
/-- how the error is made -/
def Mk (X : Cx) (exn : Str) (w : Wish) : Prop := ∀ (a : Expr) (es : List Expr) (er : EvA) (p q : Pos), SnA X (a :: es) er → Gl X exn → (exn == ("__debug__" : Str)) = false → (a :: es).length = w.flds.length →
  starEach (a :: es) X.env = (false, eval a X.env) :: starEach es X.env → (backTo q (starEach es X.env)).any (·.1) = false → PMk X (.Call (.Name exn p) (a :: es) [] q) (tMk w (tAx X.K er))
structure PX2 (Φ : Nat → Fn) (W : Nat) (X : Cx) (cc : Cc) (w : Wish) (exn : Str) (n : Nat) : Prop where
  s : ∀ s sl, compX n cc exn w.flds.length s = some sl → SxS X w s (evX Φ W sl)
  b : ∀ ss sl, compXB n cc exn w.flds.length ss = some sl → SxB X w ss (evXB Φ W sl)
theorem raise_ok {Φ : Nat → Fn} {X : Cx} {cc : Cc} {w : Wish} {exn : Str} (ok : Ok Φ X cc) (tk : Takes X w.W) (mk : Mk X exn w) {s : Stmt} {es : List Expr} (h : raiseArg exn w.flds.length cc s = some es) {er : EvA} (ha : SnA X es er) : SxS X w s (exRaise w.flds.length er) := by
  unfold raiseArg at h
  split at h
  · replace h := gd_some h
    obtain ⟨hc, h⟩ := h
    cases h
    simp only [Bool.and_eq_true] at hc
    obtain ⟨⟨⟨⟨⟨c1, c2⟩, c3⟩, c4⟩, c5⟩, c6⟩ := hc
    have hx := eq_of_beq c1
    subst hx
    exact sx_raise ok.calm tk (mk _ _ _ _ _ ha (ok.gl c2) (plain1 c3).1 (of_decide_eq_true c6) (star_cons c4) (back_any c5))
  · cases h
theorem raises_ok {Φ : Nat → Fn} {X : Cx} {cc : Cc} {w : Wish} {exn : Str} (W : Nat) (ok : Ok Φ X cc) (hk : X.env.scope.kind = .function) (hp : PassesOwn (model X.prog X.w) X.A X.env X.xe) (tk : Takes X w.W) (mk : Mk X exn w) : ∀ n, PX2 Φ W X cc w exn n
  | 0 => ⟨fun s sl h => (by simp only [compX] at h; cases h), fun s sl h => (by simp only [compXB] at h; cases h)⟩
  | n + 1 => by
    have P := raises_ok W ok hk hp tk mk n
    have E := comp_all Φ n
    have S := stmt_ok W ok hk hp n
    constructor
    · intro s sl h
      simp only [compX] at h
      split at h
      · rename_i a ha
        replace h := bd_some h
        obtain ⟨ia, h2, h⟩ := h
        cases h
        exact raise_ok ok tk mk ha (E.es X cc ok _ _ h2)
      · split at h
        · rename_i sl1 hs
          cases h
          exact sx_of (S.s _ _ hs)
        · split at h
          · replace h := gd_some h
            obtain ⟨hi, h⟩ := h
            replace h := bd_some h
            obtain ⟨ic, h1, h⟩ := h
            replace h := bd_some h
            obtain ⟨sa, h2, h⟩ := h
            replace h := bd_some h
            obtain ⟨sb, h3, h⟩ := h
            cases h
            exact sx_if ((E.e X cc ok _ _ h1).2 (notB hi)) (P.b _ _ h2) (P.b _ _ h3)
          · replace h := gd_some h
            obtain ⟨hset, h⟩ := h
            replace h := bd_some h
            obtain ⟨ii, h1, h⟩ := h
            replace h := bd_some h
            obtain ⟨tg, h2, h⟩ := h
            replace h := bd_some h
            obtain ⟨sb, h3, h⟩ := h
            cases h
            rename_i it _ _ _ _
            refine sx_for _ hp ok.calm (E.i X cc ok _ _ _ h1) ((compT_ok ok n).1 _ _ h2) (P.b _ _ h3) fun x => ?_
            cases it <;> first | rfl | cases hset
          · cases h
    · intro ss sl h
      simp only [compXB] at h
      split at h
      · cases h; exact sxb_of sb_nil
      · replace h := bd_some h
        obtain ⟨a, h1, h⟩ := h
        replace h := bd_some h
        obtain ⟨b, h2, h⟩ := h
        cases h
        exact sxb_cons (P.s _ _ h1) (P.b _ _ h2)
/-! a def that may raise -/
abbrev FnX := List Arg → Pn → Option (Sum (PyData × Pn) (List PyData × Pn))
def spX (K : PySem.W.Frag) (n : Nat) (C : Addr) (flds : List Str) (f : FnX) : Sp := fun vs H Q E => vs.length = n ∧ ∃ pn pc G args st r, Same G H ∧ PenOk K pn pc G H st ∧ ArgsOk K pn G vs args ∧ f args st = some r ∧ match r with
  | .inl z => ∀ v H' G', Ext K pn pc H G H' G' z.2 → Rp K G' v z.1 → Q v H'
  | .inr z => ∀ vs dd fs H' G', Ext K pn pc H G H' G' z.2 → RpA K G' vs z.1 → FldOk flds vs fs → H' dd = some (.xd fs) → E (.ref C) (some dd) H'
def endX : Option FlX → Option (Sum (PyData × Pn) (List PyData × Pn))
  | some (.f (.rt d st)) => some (.inl (d, st))
  | some (.f (.nx _ st)) => some (.inl (.none, st))
  | some (.ex d st) => some (.inr (d, st))
  | _ => none
def runX (ev : EvX) (N : Nat) (args : List Arg) (st : Pn) : Option (Sum (PyData × Pn) (List PyData × Pn)) := endX (ev (startE N args) st)
section
variable {P : Program} {w : World} {K : PySem.W.Frag} {mg : Str → Option Value} {base : Heap}
theorem def_okX {Φ : Nat → Fn} {x qual exn : Str} {flds : List Str} {C : Addr} {st : Stmt} {f : Addr} {fd : FuncData} {ps : List Str} {k n : Nat} {cc : Cc} {sl : XLs} {mir : FnX} (F : Fun K x qual st f fd) (S : FnScope cc.N ps (defScope st)) (hsc : cc.sc = defScope st) (ht : tgtOk cc = true) (hrep : cc.rep = false)
    (hc : compXB n cc exn flds.length (defBody st) = some sl) (bl : ∀ x, cc.bl.contains x = true → mg x = none) (gc : ∀ x i, cc.gc.lookup x = some i → ∃ t, mg x = some (.int i t)) (kn : Known P w K mg base k Φ cc.fns)
    (mk : ∀ X : Cx, X.K = K → X.mg = mg → X.prog = P → X.w = w → X.base = base → Room k X.A → ∀ W0 : WX, Mk X exn ⟨C, flds, W0⟩)
    (hm : ∀ args s r, mir args s = some r → args.length = ps.length ∧ ∃ W, runX (evXB Φ W sl) cc.N.length args s = some r) : FnOk P w K mg base (L2.CX P w) (k + 1) f fd ps (spX K ps.length C flds mir) := by
  refine F.okX S (fun vs H Q E h => h.1) fun cdv A outer s H vs Q E hr h => ?_
  obtain ⟨hl, pn, pc, G, args, st0, r0, le, pen, ha, hmir, q⟩ := h
  obtain ⟨hal, W, hrun⟩ := hm args st0 _ hmir
  have ok : Ok Φ (cxOf (L2.CX P w) P w K mg base cc.N qual (defScope st) f cdv A outer s H E) cc := ok_of ⟨rfl, rfl, rfl, rfl, rfl⟩ rfl S.nd hsc.symm rfl (fun _ => rfl) ht bl gc kn hr (fun z => by rw [hrep] at z; cases z)
  refine ⟨_, (raises_ok (w := ⟨C, flds, fun cls d _ H => E cls d H⟩) W ok S.kind (passes_of rfl) (takes_of rfl rfl rfl rfl) (mk _ rfl rfl rfl rfl rfl hr _) n).b _ _ hc, ?_⟩
  have hpl : ps.length ≤ cc.N.length := by
    have := congrArg List.length S.pre
    rw [List.length_take] at this
    omega
  unfold runX at hrun
  cases hev : evXB Φ W sl (startE cc.N.length args) st0 with
  | none => rw [hev] at hrun; cases hrun
  | some r =>
    rw [hev] at hrun
    refine ⟨⟨K, pn, pc, H, G⟩, rfl, G, _, st0, r, start_rel (by rw [hal]; exact hpl) le pen ha, hev, ?_⟩
    have fin : ∀ {H' G' : Hp} {st2 : Pn}, Fin ⟨K, pn, pc, H, G⟩ H' G' st2 → Ext K pn pc H G H' G' st2 := fun {H' G' st2} z => ⟨z.g0, z.le, fun b o h => z.fresh b o h, fun b o h n => z.keep b o h n, z.pen⟩
    cases r with
    | ex d2 st2 =>
      simp only [endX] at hrun
      cases hrun
      exact fun σ' H' G' v dd fs z rp f e => q v dd fs H' G' (fin z) rp f e
    | f r =>
      cases r with
      | rt d2 st2 =>
        simp only [endX] at hrun
        cases hrun
        exact fun v H' G' z rp => q v H' G' (fin z) rp
      | nx Γ2 st2 =>
        simp only [endX] at hrun
        cases hrun
        exact fun σ' H' G' z => q _ H' G' (fin z.fin) .non
      | _ => cases hrun
end
end Mn
namespace Mn
open PySem PySem.Spec PyProof.Rows L2
/-! what an evaluation gives -/
def W {α : Type} (o : Option α) (Q : α → Prop) : Prop := ∃ r, o = some r ∧ Q r
section
variable {α β : Type} {Q : α → Prop}
theorem W_some {r : α} : W (some r) Q ↔ Q r := ⟨fun ⟨_, e, q⟩ => by cases e; exact q, fun q => ⟨r, rfl, q⟩⟩
theorem W_none : W (none : Option α) Q ↔ False := ⟨fun ⟨_, e, _⟩ => (nomatch e), False.elim⟩
theorem W_bind {o : Option β} {f : β → Option α} : W (o.bind f) Q ↔ W o fun p => W (f p) Q := by
  cases o with
  | none => rw [Option.bind_none, W_none, W_none]
  | some p => rw [Option.bind_some, W_some]
theorem W_ite {c : Prop} [Decidable c] {o : Option α} : W (if c then o else none) Q ↔ c ∧ W o Q := by
  by_cases h : c
  · rw [if_pos h]; exact ⟨fun q => ⟨h, q⟩, fun q => q.2⟩
  · rw [if_neg h, W_none]; exact ⟨False.elim, fun q => h q.1⟩
theorem W_mono {o : Option α} {Q' : α → Prop} (h : W o Q) (f : ∀ r, Q r → Q' r) : W o Q' := by
  obtain ⟨r, e, q⟩ := h
  exact ⟨r, e, f r q⟩
end
section
variable {Γ : Ev} {st : Pn} {Q : PyData × Pn → Prop} {QA : List PyData × Pn → Prop} {QG : List Arg × Pn → Prop} {QT : PyData × Ev × Pn → Prop} {QTF : List PyData × Ev × Pn → Prop} {QO : Option Int × Pn → Prop} {QS : Fl → Prop}
  {a b c : EvE} {f : EvF} {i : Nat} {r : EvA} {it : EvI} {lo hi : EvO} {rg : EvG} {t : EvT} {tf : EvTF} {s s2 : EvS} {tg : Tg} {L : List Nat} {g g' : PyData → PyData → Option PyData} {gn : List PyData → Option PyData} {gf : List PyData → Option (List PyData)}
theorem w_k {d : PyData} : W (evK d Γ st) Q ↔ Q (d, st) := W_some
theorem w_v : W (evV i Γ st) Q ↔ ∃ x, Γ[i]? = some (some (.d x)) ∧ Q (x, st) := by
  unfold evV
  constructor
  · intro h
    split at h
    · rename_i x e; exact ⟨x, e, W_some.mp h⟩
    · exact (W_none.mp h).elim
  · rintro ⟨x, e, q⟩
    rw [e]
    exact W_some.mpr q
theorem w_2 : W (ev2 g a b Γ st) Q ↔ W (a Γ st) fun p => W (b Γ p.2) fun q => W (g p.1 q.1) fun z => Q (z, q.2) := by
  unfold ev2
  rcases a Γ st with _ | ⟨d, st1⟩
  · simp only [W_none]
  · simp only [W_some]
    rcases b Γ st1 with _ | ⟨e, st2⟩
    · simp only [W_none]
    · simp only [W_some]
      rcases g d e with _ | z
      · simp only [W_none]
      · simp only [W_some]
theorem w_tup : W (evTup r Γ st) Q ↔ W (r Γ st) fun p => p.1.length ≤ LIM ∧ Q (.tuple p.1, p.2) := by
  unfold evTup
  rcases r Γ st with _ | ⟨d, st1⟩
  · simp only [W_none]
  · simp only [W_some, W_ite]
theorem w_fr : W (evFr f Γ st) Q ↔ W (f Γ st) fun p => Q (.list p.1, p.2) := by
  unfold evFr
  rcases f Γ st with _ | ⟨d, st1⟩
  · simp only [W_none]
  · simp only [W_some]
theorem w_lst : W (evLst r Γ st) QA ↔ W (r Γ st) fun p => p.1.length ≤ LIM ∧ QA (p.1, p.2) := by
  unfold evLst
  rcases r Γ st with _ | ⟨d, st1⟩
  · simp only [W_none]
  · simp only [W_some, W_ite]
theorem w_nil : W (evNil Γ st) QA ↔ QA ([], st) := W_some
theorem w_cons : W (evCons a r Γ st) QA ↔ W (a Γ st) fun p => W (r Γ p.2) fun q => QA (p.1 :: q.1, q.2) := by
  unfold evCons
  rcases a Γ st with _ | ⟨d, st1⟩
  · simp only [W_none]
  · simp only [W_some]
    rcases r Γ st1 with _ | ⟨e, st2⟩
    · simp only [W_none]
    · simp only [W_some]
theorem w_and : W (evAnd a b Γ st) Q ↔ W (a Γ st) fun p => ∃ k, p.1 = .bool k ∧ (k = true → W (b Γ p.2) Q) ∧ (k = false → Q (.bool false, p.2)) := by
  unfold evAnd
  rcases a Γ st with _ | ⟨d, st1⟩
  · simp only [W_none]
  · cases d with
    | bool k => cases k <;> simp [W_some]
    | _ => simp [W_none, W_some]
theorem w_or : W (evOr a b Γ st) Q ↔ W (a Γ st) fun p => ∃ k, p.1 = .bool k ∧ (k = true → Q (.bool true, p.2)) ∧ (k = false → W (b Γ p.2) Q) := by
  unfold evOr
  rcases a Γ st with _ | ⟨d, st1⟩
  · simp only [W_none]
  · cases d with
    | bool k => cases k <;> simp [W_some]
    | _ => simp [W_none, W_some]
theorem w_not : W (evNot a Γ st) Q ↔ W (a Γ st) fun p => ∃ k, p.1 = .bool k ∧ Q (.bool (!k), p.2) := by
  unfold evNot
  rcases a Γ st with _ | ⟨d, st1⟩
  · simp only [W_none]
  · cases d with
    | bool k => cases k <;> simp [W_some]
    | _ => simp [W_none, W_some]
theorem w_neg : W (evNeg a Γ st) Q ↔ W (a Γ st) fun p => ∃ k, p.1 = .int k ∧ Q (.int (-k), p.2) := by
  unfold evNeg
  rcases a Γ st with _ | ⟨d, st1⟩
  · simp only [W_none]
  · cases d <;> simp [W_none, W_some]
theorem w_if : W (evIf c a b Γ st) Q ↔ W (c Γ st) fun p => ∃ k, p.1 = .bool k ∧ (k = true → W (a Γ p.2) Q) ∧ (k = false → W (b Γ p.2) Q) := by
  unfold evIf
  rcases c Γ st with _ | ⟨d, st1⟩
  · simp only [W_none]
  · cases d with
    | bool k => cases k <;> simp [W_some]
    | _ => simp [W_none, W_some]
theorem w_ch : W (evCh g g' a b c Γ st) Q ↔ W (a Γ st) fun p => W (b Γ p.2) fun q => W (g p.1 q.1) fun z => ∃ k, z = .bool k ∧ (k = true → W (c Γ q.2) fun y => W (g' q.1 y.1) fun u => Q (u, y.2)) ∧ (k = false → Q (.bool false, q.2)) := by
  unfold evCh
  rcases a Γ st with _ | ⟨d, st1⟩
  · simp only [W_none]
  · simp only [W_some]
    rcases b Γ st1 with _ | ⟨e, st2⟩
    · simp only [W_none]
    · simp only [W_some]
      rcases g d e with _ | z
      · simp only [W_none]
      · simp only [W_some]
        cases z with
        | bool k =>
          cases k with
          | false => simp [W_some]
          | true =>
            rcases c Γ st2 with _ | ⟨y, st3⟩
            · simp [W_none]
            · simp only [W_some]
              rcases g' e y with _ | u
              · simp [W_none]
              · simp [W_some]
        | _ => simp [W_none]
theorem w_call : W (evCall gn r Γ st) Q ↔ W (r Γ st) fun p => W (gn p.1) fun z => Q (z, p.2) := by
  unfold evCall
  rcases r Γ st with _ | ⟨d, st1⟩
  · simp only [W_none]
  · simp only [W_some]
    rcases gn d with _ | z
    · simp only [W_none]
    · simp only [W_some]
theorem w_callF : W (evCallF gf r Γ st) QA ↔ W (r Γ st) fun p => W (gf p.1) fun z => QA (z, p.2) := by
  unfold evCallF
  rcases r Γ st with _ | ⟨d, st1⟩
  · simp only [W_none]
  · simp only [W_some]
    rcases gf d with _ | z
    · simp only [W_none]
    · simp only [W_some]
theorem w_isa {T : String} : W (evIsa a T Γ st) Q ↔ W (a Γ st) fun p => W (isaD p.1 T) fun z => Q (.bool z, p.2) := by
  unfold evIsa
  rcases a Γ st with _ | ⟨d, st1⟩
  · simp only [W_none]
  · simp only [W_some]
    rcases isaD d T with _ | z
    · simp only [W_none]
    · simp only [W_some]
theorem w_tyis {T : String} {n : Bool} : W (evTyIs a T n Γ st) Q ↔ W (a Γ st) fun p => Q (.bool (if n then !decide (tyD p.1 = T) else decide (tyD p.1 = T)), p.2) := by
  unfold evTyIs
  rcases a Γ st with _ | ⟨d, st1⟩
  · simp only [W_none]
  · simp only [W_some]
theorem w_o0 : W (evO0 Γ st) QO ↔ QO (none, st) := W_some
theorem w_o1 : W (evO1 a Γ st) QO ↔ W (a Γ st) fun p => ∃ k, p.1 = .int k ∧ QO (some k, p.2) := by
  unfold evO1
  rcases a Γ st with _ | ⟨d, st1⟩
  · simp only [W_none]
  · cases d <;> simp [W_none, W_some]
def cutD (d : PyData) (lo hi : Option Int) : Option PyData := match d with
  | .list xs => some (.list (cutL xs lo hi))
  | .tuple xs => some (.tuple (cutL xs lo hi))
  | _ => none
theorem w_sl : W (evSl a lo hi Γ st) Q ↔ W (a Γ st) fun p => W (lo Γ p.2) fun q => W (hi Γ q.2) fun y => W (cutD p.1 q.1 y.1) fun z => Q (z, y.2) := by
  unfold evSl
  rcases a Γ st with _ | ⟨d, st1⟩
  · simp only [W_none]
  · simp only [W_some]
    rcases lo Γ st1 with _ | ⟨e, st2⟩
    · simp only [W_none]
    · simp only [W_some]
      rcases hi Γ st2 with _ | ⟨y, st3⟩
      · simp only [W_none]
      · simp only [W_some]
        cases d <;> simp [cutD, W_some, W_none]
theorem w_sset : W (evSSet a Γ st) QA ↔ W (a Γ st) fun p => W (ssetD p.1) fun z => QA (z, p.2) := by
  unfold evSSet
  rcases a Γ st with _ | ⟨d, st1⟩
  · simp only [W_none]
  · simp only [W_some]
    rcases ssetD d with _ | z
    · simp only [W_none]
    · simp only [W_some]
def sset2D (rs : List PyData) : Option (List PyData) := (intsD rs).bind fun ns => if ns.length ≤ 4000 ∧ (srtU ns).length < 64 then some ((srtU ns).map PyData.int) else none
theorem w_sset2 {e : EvF} : W (evSSet2 e Γ st) QA ↔ W (e Γ st) fun p => W (sset2D p.1) fun z => QA (z, p.2) := by
  unfold evSSet2 sset2D
  rcases e Γ st with _ | ⟨rs, st1⟩
  · simp only [W_none]
  · simp only [W_some, W_bind]
    rcases intsD rs with _ | ns
    · simp only [W_none]
    · simp only [W_some, W_ite]
def lsetD (d : PyData) : Option PyData := (itemsD d).bind fun xs => (intsD xs).bind fun ns => if ns.length ≤ 4000 then some (.int ((srtU ns).length : Nat)) else none
theorem w_lset : W (evLSet a Γ st) Q ↔ W (a Γ st) fun p => W (lsetD p.1) fun z => Q (z, p.2) := by
  unfold evLSet lsetD
  rcases a Γ st with _ | ⟨d, st1⟩
  · simp only [W_none]
  · simp only [W_some, W_bind]
    rcases itemsD d with _ | xs
    · simp only [W_none]
    · simp only [W_some]
      rcases intsD xs with _ | ns
      · simp only [W_none]
      · simp only [W_some, W_ite]
theorem w_lrg : W (evLRg a Γ st) QA ↔ W (a Γ st) fun p => ∃ j, p.1 = .int j ∧ (-(2 ^ 62) ≤ j ∧ j ≤ LIM) ∧ QA (rngD 0 j.toNat, p.2) := by
  unfold evLRg
  rcases a Γ st with _ | ⟨d, st1⟩
  · simp only [W_none]
  · cases d <;> simp [W_none, W_some, W_ite]
theorem w_pix {k : Int} : W (evPix i k Γ st) Q ↔ Γ[i]? = some (some .pen) ∧ W (penD k st) fun z => Q (z, st) := by
  unfold evPix
  constructor
  · intro h
    split at h
    · rename_i e
      refine ⟨e, ?_⟩
      split at h
      · rename_i d hd
        rw [hd]
        exact W_some.mpr (W_some.mp h)
      · exact (W_none.mp h).elim
    · exact (W_none.mp h).elim
  · rintro ⟨e, d, hd, q⟩
    rw [e]
    simp only [hd]
    exact W_some.mpr q
theorem w_d0 : W (evD0 Γ st) Q ↔ Q (.dict [], st) := W_some
theorem w_lenS : W (evLenS i Γ st) Q ↔ ∃ ns, Γ[i]? = some (some (.scr ns)) ∧ Q (.int ns.length, st) := by
  unfold evLenS
  constructor
  · intro h
    split at h
    · rename_i x e; exact ⟨x, e, W_some.mp h⟩
    · exact (W_none.mp h).elim
  · rintro ⟨x, e, q⟩
    rw [e]
    exact W_some.mpr q
theorem w_fn {fn : Fn} : W (evFn fn rg Γ st) Q ↔ W (rg Γ st) fun p => W (fn p.1 p.2) Q := by
  unfold evFn
  rcases rg Γ st with _ | ⟨d, st1⟩
  · simp only [W_none]
  · simp only [W_some]
theorem w_gn : W (evGN Γ st) QG ↔ QG ([], st) := W_some
theorem w_gd : W (evGD a rg Γ st) QG ↔ W (a Γ st) fun p => W (rg Γ p.2) fun q => QG (.d p.1 :: q.1, q.2) := by
  unfold evGD
  rcases a Γ st with _ | ⟨d, st1⟩
  · simp only [W_none]
  · simp only [W_some]
    rcases rg Γ st1 with _ | ⟨e, st2⟩
    · simp only [W_none]
    · simp only [W_some]
theorem w_gp : W (evGP i rg Γ st) QG ↔ Γ[i]? = some (some .pen) ∧ W (rg Γ st) fun q => QG (.pen :: q.1, q.2) := by
  unfold evGP
  constructor
  · intro h
    split at h
    · rename_i e
      refine ⟨e, ?_⟩
      split at h
      · rename_i d hd
        rw [hd]
        exact W_some.mpr (W_some.mp h)
      · exact (W_none.mp h).elim
    · exact (W_none.mp h).elim
  · rintro ⟨e, d, hd, q⟩
    rw [e]
    simp only [hd]
    exact W_some.mpr q
theorem w_it : W (evIt a Γ st) QA ↔ W (a Γ st) fun p => W (itemsD p.1) fun z => QA (z, p.2) := by
  unfold evIt
  rcases a Γ st with _ | ⟨d, st1⟩
  · simp only [W_none]
  · simp only [W_some]
    rcases itemsD d with _ | z
    · simp only [W_none]
    · simp only [W_some]
theorem w_enum : W (evEnum a Γ st) QA ↔ W (a Γ st) fun p => W (itemsD p.1) fun z => QA (zipD 0 z, p.2) := by
  unfold evEnum
  rcases a Γ st with _ | ⟨d, st1⟩
  · simp only [W_none]
  · simp only [W_some]
    rcases itemsD d with _ | z
    · simp only [W_none]
    · simp only [W_some]
theorem w_zip : W (evZip a b Γ st) QA ↔ W (a Γ st) fun p => W (b Γ p.2) fun q => W (zipsD p.1 q.1) fun z => QA (z, q.2) := by
  unfold evZip
  rcases a Γ st with _ | ⟨d, st1⟩
  · simp only [W_none]
  · simp only [W_some]
    rcases b Γ st1 with _ | ⟨e, st2⟩
    · simp only [W_none]
    · simp only [W_some]
      rcases zipsD d e with _ | z
      · simp only [W_none]
      · simp only [W_some]
theorem w_rng1 : W (evRng1 a Γ st) QA ↔ W (a Γ st) fun p => ∃ j, p.1 = .int j ∧ (-(2 ^ 62) ≤ j ∧ j < 2 ^ 62) ∧ QA (rngD 0 j.toNat, p.2) := by
  unfold evRng1
  rcases a Γ st with _ | ⟨d, st1⟩
  · simp only [W_none]
  · cases d <;> simp [W_none, W_some, W_ite]
theorem w_lc {cc : Option EvE} {vs : List Nat} : W (evLc it tg cc a vs Γ st) QA ↔ W (it Γ st) fun p => p.1.length ≤ LIM ∧ W (lcLoop tg cc a (wipeE Γ vs) p.1 p.2) QA := by
  unfold evLc
  rcases it Γ st with _ | ⟨d, st1⟩
  · simp only [W_none]
  · simp only [W_some, W_ite]
theorem w_lc2 {cc cc1 : Option EvE} {it1 : EvI} {tg1 : Tg} {vs vs1 : List Nat} : W (evLc2 it tg cc it1 tg1 cc1 a vs vs1 Γ st) QA ↔ W (it Γ st) fun p => W (lcLoop2 tg cc it1 tg1 cc1 a vs1 (wipeE (Γ.map noOwn1) vs) p.1 p.2) fun q => q.1.length ≤ LIM ∧ QA (q.1, q.2) := by
  unfold evLc2
  rcases it Γ st with _ | ⟨d, st1⟩
  · simp only [W_none]
  · simp only [W_some]
    rcases lcLoop2 tg cc it1 tg1 cc1 a vs1 (wipeE (Γ.map noOwn1) vs) d st1 with _ | ⟨e, st2⟩
    · simp only [W_none]
    · simp only [W_some, W_ite]
theorem w_sc : W (evSc a Γ st) QT ↔ W (a (frzBy allS 0 Γ) st) fun p => scalD p.1 = true ∧ QT (p.1, Γ, p.2) := by
  unfold evSc
  rcases a (frzBy allS 0 Γ) st with _ | ⟨d, st1⟩
  · simp only [W_none]
  · simp only [W_some, W_ite]
theorem w_fz : W (evFz L a Γ st) QT ↔ W (a (frzBy L.contains 0 Γ) st) fun p => QT (p.1, frzBy L.contains 0 Γ, p.2) := by
  unfold evFz
  rcases a (frzBy L.contains 0 Γ) st with _ | ⟨d, st1⟩
  · simp only [W_none]
  · simp only [W_some]
theorem w_pop : W (evPop i t Γ st) QT ↔ (∃ xs, Γ[i]? = some (some (.own xs))) ∧ W (t Γ st) fun p => ∃ k ys, p.1 = .int k ∧ p.2.1[i]? = some (some (.own ys)) ∧ ys.length ≤ LIM ∧ W (ixN ys.length k) fun j => W ys[j]? fun d => QT (d, p.2.1.set i (some (.own (ys.eraseIdx j))), p.2.2) := by
  unfold evPop
  constructor
  · intro h
    split at h
    · rename_i xs e
      refine ⟨⟨xs, e⟩, ?_⟩
      split at h
      · rename_i k Γ1 st1 e1
        rw [e1, W_some]
        split at h
        · rename_i ys e2
          rw [W_ite] at h
          obtain ⟨h1, h⟩ := h
          refine ⟨k, ys, rfl, e2, h1, ?_⟩
          split at h
          · rename_i j e3
            rw [e3, W_some]
            split at h
            · rename_i d e4
              rw [e4, W_some]
              exact W_some.mp h
            · exact (W_none.mp h).elim
          · exact (W_none.mp h).elim
        · exact (W_none.mp h).elim
      · exact (W_none.mp h).elim
    · exact (W_none.mp h).elim
  · rintro ⟨⟨xs, e⟩, ⟨d, Γ1, st1⟩, e1, k, ys, rfl, e2, h1, j, e3, d, e4, q⟩
    rw [e]
    simp only [e1]
    simp only at e2 q
    simp only [e2, if_pos h1, e3, e4]
    exact W_some.mpr q
theorem w_scF : W (evScF f Γ st) QTF ↔ W (f (frzBy allS 0 Γ) st) fun p => p.1.all scalD = true ∧ QTF (p.1, Γ, p.2) := by
  unfold evScF
  rcases f (frzBy allS 0 Γ) st with _ | ⟨d, st1⟩
  · simp only [W_none]
  · simp only [W_some, W_ite]
theorem w_fzF : W (evFzF L f Γ st) QTF ↔ W (f (frzBy L.contains 0 Γ) st) fun p => QTF (p.1, frzBy L.contains 0 Γ, p.2) := by
  unfold evFzF
  rcases f (frzBy L.contains 0 Γ) st with _ | ⟨d, st1⟩
  · simp only [W_none]
  · simp only [W_some]
/-! statements -/
theorem w_next : W (esNext Γ st) QS ↔ QS (.nx Γ st) := W_some
theorem w_seq : W (esSeq s s2 Γ st) QS ↔ W (s Γ st) fun r => match r with
    | .nx Γ1 st1 => W (s2 Γ1 st1) QS
    | .rt d st1 => QS (.rt d st1)
    | .bk Γ1 st1 => QS (.bk Γ1 st1)
    | .ct Γ1 st1 => QS (.ct Γ1 st1) := by
  unfold esSeq
  rcases s Γ st with _ | r
  · simp only [W_none]
  · cases r <;> simp only [W_some]
theorem w_ret : W (esRet t Γ st) QS ↔ W (t Γ st) fun p => QS (.rt p.1 p.2.2) := by
  unfold esRet
  rcases t Γ st with _ | ⟨d, Γ1, st1⟩
  · simp only [W_none]
  · simp only [W_some]
theorem w_drop : W (esDrop t Γ st) QS ↔ W (t Γ st) fun p => QS (.nx p.2.1 p.2.2) := by
  unfold esDrop
  rcases t Γ st with _ | ⟨d, Γ1, st1⟩
  · simp only [W_none]
  · simp only [W_some]
theorem w_asg : W (esAsg tg t Γ st) QS ↔ W (t Γ st) fun p => W (asT tg p.1 p.2.1) fun Γ2 => QS (.nx Γ2 p.2.2) := by
  unfold esAsg
  rcases t Γ st with _ | ⟨d, Γ1, st1⟩
  · simp only [W_none]
  · simp only [W_some]
    rcases asT tg d Γ1 with _ | Γ2
    · simp only [W_none]
    · simp only [W_some]
theorem w_ifS : W (esIf c s s2 Γ st) QS ↔ W (c (frzBy allS 0 Γ) st) fun p => ∃ k, p.1 = .bool k ∧ (k = true → W (s Γ p.2) QS) ∧ (k = false → W (s2 Γ p.2) QS) := by
  unfold esIf
  rcases c (frzBy allS 0 Γ) st with _ | ⟨d, st1⟩
  · simp only [W_none]
  · cases d with
    | bool k => cases k <;> simp [W_some]
    | _ => simp [W_none, W_some]
theorem w_own : W (esOwn i tf Γ st) QS ↔ W (tf Γ st) fun p => QS (.nx (p.2.1.set i (some (.own p.1))) p.2.2) := by
  unfold esOwn
  rcases tf Γ st with _ | ⟨d, Γ1, st1⟩
  · simp only [W_none]
  · simp only [W_some]
theorem w_lcD : W (esLcD i L f Γ st) QS ↔ W (f (frzBy L.contains 0 Γ) st) fun p => QS (.nx ((frzBy L.contains 0 Γ).set i (some (.d (.list p.1)))) p.2) := by
  unfold esLcD
  rcases f (frzBy L.contains 0 Γ) st with _ | ⟨d, st1⟩
  · simp only [W_none]
  · simp only [W_some]
theorem w_cmO {QC : Sl × Pn → Prop} : W (evCm (.ow f) Γ st) QC ↔ W (f Γ st) fun p => QC (.own p.1, p.2) := by
  simp only [evCm]
  rcases f Γ st with _ | ⟨d, st1⟩
  · simp only [W_none]
  · simp only [W_some]
theorem w_cmD {QC : Sl × Pn → Prop} : W (evCm (.da a) Γ st) QC ↔ W (a Γ st) fun p => QC (.d p.1, p.2) := by
  simp only [evCm]
  rcases a Γ st with _ | ⟨d, st1⟩
  · simp only [W_none]
  · simp only [W_some]
theorem w_par {j : Nat} {c1 c2 : Cm} : W (esPar i j L c1 c2 Γ st) QS ↔ W (evCm c1 (frzBy L.contains 0 Γ) st) fun p => W (evCm c2 (frzBy L.contains 0 Γ) p.2) fun q => QS (.nx (((frzBy L.contains 0 Γ).set i (some p.1)).set j (some q.1)) q.2) := by
  unfold esPar
  rcases evCm c1 (frzBy L.contains 0 Γ) st with _ | ⟨d, st1⟩
  · simp only [W_none]
  · simp only [W_some]
    rcases evCm c2 (frzBy L.contains 0 Γ) st1 with _ | ⟨e, st2⟩
    · simp only [W_none]
    · simp only [W_some]
theorem w_app : W (esApp i t Γ st) QS ↔ (∃ xs, Γ[i]? = some (some (.own xs))) ∧ W (t Γ st) fun p => ∃ ys, p.2.1[i]? = some (some (.own ys)) ∧ ys.length < LIM ∧ QS (.nx (p.2.1.set i (some (.own (ys ++ [p.1])))) p.2.2) := by
  unfold esApp
  constructor
  · intro h
    split at h
    · rename_i xs e
      refine ⟨⟨xs, e⟩, ?_⟩
      split at h
      · rename_i d Γ1 st1 e1
        rw [e1, W_some]
        split at h
        · rename_i ys e2
          rw [W_ite, W_some] at h
          exact ⟨ys, e2, h⟩
        · exact (W_none.mp h).elim
      · exact (W_none.mp h).elim
    · exact (W_none.mp h).elim
  · rintro ⟨⟨xs, e⟩, ⟨d, Γ1, st1⟩, e1, ys, e2, h1, q⟩
    rw [e]
    simp only [e1]
    simp only at e2 q
    simp only [e2, if_pos h1]
    exact W_some.mpr q
theorem w_ext : W (esExt i t Γ st) QS ↔ (∃ xs, Γ[i]? = some (some (.own xs))) ∧ W (t Γ st) fun p => ∃ ds ys, p.1 = .list ds ∧ p.2.1[i]? = some (some (.own ys)) ∧ ys.length + ds.length ≤ LIM ∧ QS (.nx (p.2.1.set i (some (.own (ys ++ ds)))) p.2.2) := by
  unfold esExt
  constructor
  · intro h
    split at h
    · rename_i xs e
      refine ⟨⟨xs, e⟩, ?_⟩
      split at h
      · rename_i ds Γ1 st1 e1
        rw [e1, W_some]
        split at h
        · rename_i ys e2
          rw [W_ite, W_some] at h
          exact ⟨ds, ys, rfl, e2, h⟩
        · exact (W_none.mp h).elim
      · exact (W_none.mp h).elim
    · exact (W_none.mp h).elim
  · rintro ⟨⟨xs, e⟩, ⟨d, Γ1, st1⟩, e1, ds, ys, rfl, e2, h1, q⟩
    rw [e]
    simp only [e1]
    simp only at e2 q
    simp only [e2, if_pos h1]
    exact W_some.mpr q
theorem w_pset {k : Int} : W (esPset i k t Γ st) QS ↔ W (t Γ st) fun p => ∃ z, p.1 = .int z ∧ p.2.1[i]? = some (some .pen) ∧ W (penPut k z p.2.2) fun st2 => QS (.nx p.2.1 st2) := by
  unfold esPset
  constructor
  · intro h
    split at h
    · rename_i z Γ1 st1 e1
      rw [e1, W_some]
      split at h
      · rename_i e2
        refine ⟨z, rfl, e2, ?_⟩
        split at h
        · rename_i st2 e3
          rw [e3, W_some]
          exact W_some.mp h
        · exact (W_none.mp h).elim
      · exact (W_none.mp h).elim
    · exact (W_none.mp h).elim
  · rintro ⟨⟨d, Γ1, st1⟩, e1, z, rfl, e2, st2, e3, q⟩
    simp only [e1]
    simp only at e2 e3 q
    simp only [e2, e3]
    exact W_some.mpr q
theorem w_oset {tx : EvT} : W (esOset i tx t Γ st) QS ↔ W (t Γ st) fun p => (∃ xs, p.2.1[i]? = some (some (.own xs))) ∧ W (tx p.2.1 p.2.2) fun q => ∃ k ys, q.1 = .int k ∧ q.2.1[i]? = some (some (.own ys)) ∧ W (ixN ys.length k) fun j => QS (.nx (q.2.1.set i (some (.own (ys.set j p.1)))) q.2.2) := by
  unfold esOset
  rcases t Γ st with _ | ⟨d, Γ1, st1⟩
  · simp only [W_none]
  · simp only [W_some]
    constructor
    · intro h
      split at h
      · rename_i xs e
        refine ⟨⟨xs, e⟩, ?_⟩
        split at h
        · rename_i k Γ2 st2 e1
          rw [e1, W_some]
          split at h
          · rename_i ys e2
            refine ⟨k, ys, rfl, e2, ?_⟩
            split at h
            · rename_i j e3
              rw [e3, W_some]
              exact W_some.mp h
            · exact (W_none.mp h).elim
          · exact (W_none.mp h).elim
        · exact (W_none.mp h).elim
      · exact (W_none.mp h).elim
    · rintro ⟨⟨xs, e⟩, ⟨d2, Γ2, st2⟩, e1, k, ys, rfl, e2, j, e3, q⟩
      simp only at e2 e3 q
      rw [e]
      simp only [e1, e2, e3]
      exact W_some.mpr q
theorem w_for : W (esFor L it tg s Γ st) QS ↔ W (it (frzBy L.contains 0 Γ) st) fun p => W (esLoop tg s p.1 (frzBy L.contains 0 Γ) p.2) QS := by
  unfold esFor
  rcases it (frzBy L.contains 0 Γ) st with _ | ⟨d, st1⟩
  · simp only [W_none]
  · simp only [W_some]
theorem w_forR : W (esForR it tg s Γ st) QS ↔ W (it (frzBy allS 0 Γ) st) fun p => W (esLoop tg s p.1 Γ p.2) QS := by
  unfold esForR
  rcases it (frzBy allS 0 Γ) st with _ | ⟨d, st1⟩
  · simp only [W_none]
  · simp only [W_some]
theorem w_loop0 : W (esLoop tg s [] Γ st) QS ↔ QS (.nx Γ st) := by
  unfold esLoop
  exact W_some
theorem w_loop1 {d : PyData} {ds : List PyData} : W (esLoop tg s (d :: ds) Γ st) QS ↔ W (asT tg d Γ) fun Γ1 => W (s Γ1 st) fun r => match r with
    | .nx Γ2 st2 => W (esLoop tg s ds Γ2 st2) QS
    | .ct Γ2 st2 => W (esLoop tg s ds Γ2 st2) QS
    | .bk Γ2 st2 => QS (.nx Γ2 st2)
    | .rt d2 st2 => QS (.rt d2 st2) := by
  rw [esLoop]
  rcases asT tg d Γ with _ | Γ1
  · simp only [W_none]
  · simp only [W_some]
    rcases s Γ1 st with _ | r
    · simp only [W_none]
    · cases r <;> simp only [W_some]
/-- a loop over a list by an invariant of what is left -/
theorem loopI {I : List PyData → Ev → Pn → Prop} (step : ∀ d ds Γ st, I (d :: ds) Γ st → W (asT tg d Γ) fun Γ1 => W (s Γ1 st) fun r => match r with
    | .nx Γ2 st2 => I ds Γ2 st2
    | .ct Γ2 st2 => I ds Γ2 st2
    | .bk Γ2 st2 => QS (.nx Γ2 st2)
    | .rt d2 st2 => QS (.rt d2 st2)) (fin : ∀ Γ st, I [] Γ st → QS (.nx Γ st)) : ∀ ds Γ st, I ds Γ st → W (esLoop tg s ds Γ st) QS
  | [], Γ, st, h => w_loop0.mpr (fin Γ st h)
  | d :: ds, Γ, st, h => w_loop1.mpr (W_mono (step d ds Γ st h) fun Γ1 h1 => W_mono h1 fun r h2 => by
    cases r with
    | nx Γ2 st2 => exact loopI step fin ds Γ2 st2 h2
    | ct Γ2 st2 => exact loopI step fin ds Γ2 st2 h2
    | bk Γ2 st2 => exact h2
    | rt d2 st2 => exact h2)
theorem w_while {n : Nat} : W (esWhile (n + 1) c s Γ st) QS ↔ W (c (frzBy allS 0 Γ) st) fun p => ∃ k, p.1 = .bool k ∧ (k = false → QS (.nx Γ p.2)) ∧ (k = true → W (s Γ p.2) fun r => match r with
    | .nx Γ2 st2 => W (esWhile n c s Γ2 st2) QS
    | .ct Γ2 st2 => W (esWhile n c s Γ2 st2) QS
    | .bk Γ2 st2 => QS (.nx Γ2 st2)
    | .rt d2 st2 => QS (.rt d2 st2)) := by
  rw [esWhile]
  rcases c (frzBy allS 0 Γ) st with _ | ⟨d, st1⟩
  · simp only [W_none]
  · simp only [W_some]
    cases d with
    | bool k =>
      cases k with
      | false => simp [W_some]
      | true =>
        dsimp only
        generalize s Γ st1 = o
        rcases o with _ | r
        · simp [W_none]
        · cases r <;> simp [W_some]
    | _ => simp [W_none]
/-- a comprehension whose items are told -/
theorem lcMap {cc : Option EvE} {f : PyData → PyData} {p : PyData → Bool} : ∀ ds : List PyData, (∀ d ∈ ds, W (asT tg d Γ) fun Γ1 => W (lcTest cc Γ1 st) fun z => z = (p d, st) ∧ (p d = true → W (a Γ1 st) fun y => y = (f d, st))) → lcLoop tg cc a Γ ds st = some ((ds.filter p).map f, st)
  | [], _ => rfl
  | d :: ds, h => by
    obtain ⟨Γ1, e1, z, e2, rfl, q⟩ := h d (List.mem_cons_self ..)
    have ih := lcMap ds fun x hx => h x (List.mem_cons_of_mem _ hx)
    rw [lcLoop, e1]
    simp only [e2]
    cases hp : p d with
    | false => simp only [hp, ih, List.filter_cons]; rfl
    | true =>
      obtain ⟨y, e3, rfl⟩ := q hp
      simp only [hp, e3, ih, List.filter_cons]
      rfl
/-- a comprehension with the pen -/
theorem lcPen {P : PyData → Prop} : ∀ (ds : List PyData) (st : Pn), (∀ d ∈ ds, ∀ st, W (asT tg d Γ) fun Γ1 => W (a Γ1 st) fun y => P y.1) → W (lcLoop tg none a Γ ds st) fun y => y.1.length = ds.length ∧ ∀ x ∈ y.1, P x
  | [], st, _ => W_some.mpr ⟨rfl, fun x hx => nomatch hx⟩
  | d :: ds, st, h => by
    obtain ⟨Γ1, e1, ⟨x, st2⟩, e2, q⟩ := h d (List.mem_cons_self ..) st
    obtain ⟨⟨xs, st3⟩, e3, q1, q2⟩ := lcPen ds st2 fun x hx => h x (List.mem_cons_of_mem _ hx)
    rw [lcLoop, e1]
    simp only [lcTest, e2, e3]
    refine W_some.mpr ⟨by simp only [List.length_cons] at q1 ⊢; omega, fun z hz => ?_⟩
    rcases List.mem_cons.mp hz with rfl | hz
    · exact q
    · exact q2 z hz
end
end Mn
namespace Mn
open PySem PySem.Spec PyProof.Rows L2
/-! what the evaluation of a body that may raise gives -/
section
variable {Γ : Ev} {st : Pn} {Q : FlX → Prop} {a : EvA} {n : Nat} {s : EvS} {x y : EvX} {it : EvI} {tg : Tg} {L : List Nat}
theorem w_xof : W (exOf s Γ st) Q ↔ W (s Γ st) fun r => Q (.f r) := by
  unfold exOf
  rcases s Γ st with _ | r
  · simp only [W_none]
  · simp only [W_some]
theorem w_xseq : W (exSeq x y Γ st) Q ↔ W (x Γ st) fun r => match r with
    | .f (.nx Γ1 st1) => W (y Γ1 st1) Q
    | .f (.rt d st1) => Q (.f (.rt d st1))
    | .f (.bk Γ1 st1) => Q (.f (.bk Γ1 st1))
    | .f (.ct Γ1 st1) => Q (.f (.ct Γ1 st1))
    | .ex d st1 => Q (.ex d st1) := by
  unfold exSeq
  rcases x Γ st with _ | r
  · simp only [W_none]
  · cases r with
    | ex d st1 => simp only [W_some]
    | f r => cases r <;> simp only [W_some]
theorem w_xif {c : EvE} : W (exIf c x y Γ st) Q ↔ W (c (frzBy allS 0 Γ) st) fun p => ∃ k, p.1 = .bool k ∧ (k = true → W (x Γ p.2) Q) ∧ (k = false → W (y Γ p.2) Q) := by
  unfold exIf
  rcases c (frzBy allS 0 Γ) st with _ | ⟨d, st1⟩
  · simp only [W_none]
  · cases d with
    | bool k => cases k <;> simp [W_some]
    | _ => simp [W_none, W_some]
theorem w_xraise : W (exRaise n a Γ st) Q ↔ W (a (frzBy allS 0 Γ) st) fun p => n = p.1.length ∧ Q (.ex p.1 p.2) := by
  unfold exRaise
  rcases a (frzBy allS 0 Γ) st with _ | ⟨d, st1⟩
  · simp only [W_none]
  · simp only [W_some, W_ite]
theorem w_xfor : W (exFor L it tg x Γ st) Q ↔ W (it (frzBy L.contains 0 Γ) st) fun p => W (exLoop tg x p.1 (frzBy L.contains 0 Γ) p.2) Q := by
  unfold exFor
  rcases it (frzBy L.contains 0 Γ) st with _ | ⟨d, st1⟩
  · simp only [W_none]
  · simp only [W_some]
theorem w_xloop0 : W (exLoop tg x [] Γ st) Q ↔ Q (.f (.nx Γ st)) := by
  unfold exLoop
  exact W_some
theorem w_xloop1 {d : PyData} {ds : List PyData} : W (exLoop tg x (d :: ds) Γ st) Q ↔ W (asT tg d Γ) fun Γ1 => W (x Γ1 st) fun r => match r with
    | .f (.nx Γ2 st2) => W (exLoop tg x ds Γ2 st2) Q
    | .f (.ct Γ2 st2) => W (exLoop tg x ds Γ2 st2) Q
    | .f (.bk Γ2 st2) => Q (.f (.nx Γ2 st2))
    | .f (.rt d2 st2) => Q (.f (.rt d2 st2))
    | .ex d2 st2 => Q (.ex d2 st2) := by
  rw [exLoop]
  rcases asT tg d Γ with _ | Γ1
  · simp only [W_none]
  · simp only [W_some]
    rcases x Γ1 st with _ | r
    · simp only [W_none]
    · cases r with
      | ex d2 st2 => simp only [W_some]
      | f r => cases r <;> simp only [W_some]
theorem xloopI {I : List PyData → Ev → Pn → Prop} (step : ∀ d ds Γ st, I (d :: ds) Γ st → W (asT tg d Γ) fun Γ1 => W (x Γ1 st) fun r => match r with
    | .f (.nx Γ2 st2) => I ds Γ2 st2
    | .f (.ct Γ2 st2) => I ds Γ2 st2
    | .f (.bk Γ2 st2) => Q (.f (.nx Γ2 st2))
    | .f (.rt d2 st2) => Q (.f (.rt d2 st2))
    | .ex d2 st2 => Q (.ex d2 st2)) (fin : ∀ Γ st, I [] Γ st → Q (.f (.nx Γ st))) : ∀ ds Γ st, I ds Γ st → W (exLoop tg x ds Γ st) Q
  | [], Γ, st, h => w_xloop0.mpr (fin Γ st h)
  | d :: ds, Γ, st, h => w_xloop1.mpr (W_mono (step d ds Γ st h) fun Γ1 h1 => W_mono h1 fun r h2 => by
    cases r with
    | ex d2 st2 => exact h2
    | f r =>
      cases r with
      | nx Γ2 st2 => exact xloopI step fin ds Γ2 st2 h2
      | ct Γ2 st2 => exact xloopI step fin ds Γ2 st2 h2
      | bk Γ2 st2 => exact h2
      | rt d2 st2 => exact h2)
/-- a raising def's body as a function -/
def fnX (np N W : Nat) (Φ : Nat → Fn) (sl : XLs) : FnX := fun args st => if args.length = np then runX (evXB Φ W sl) N args st else none
theorem w_fnX {np N k : Nat} {Φ : Nat → Fn} {sl : XLs} {args : List Arg} {st : Pn} {Q : Sum (PyData × Pn) (List PyData × Pn) → Prop} (h : args.length = np) : W (fnX np N k Φ sl args st) Q ↔ W (evXB Φ k sl (startE N args) st) fun r => match r with
    | .f (.rt d st1) => Q (.inl (d, st1))
    | .f (.nx _ st1) => Q (.inl (.none, st1))
    | .ex d st1 => Q (.inr (d, st1))
    | _ => False := by
  unfold fnX runX
  rw [if_pos h]
  rcases evXB Φ k sl (startE N args) st with _ | r
  · simp only [endX, W_none]
  · cases r with
    | ex d st1 => simp only [endX, W_some]
    | f r => cases r <;> simp only [endX, W_some, W_none]
end
end Mn
namespace Mn
open PySem PySem.Spec PyProof.Rows L2
/-! the error's class, its own __init__ -/
structure ExF (K : PySem.W.Frag) (mg : Str → Option Value) (exn : Str) (flds : List Str) (C fI : Addr) : Prop where
  gC : mg exn = some (.ref C)
  ox : OexC K C
  iC : PySem.W.findIn K (.ref C) "__init__" = some (some (.ref fI))
  tI : PySem.W.typeIn K (.ref fI) = some (.type "function")
  no : ∀ f ∈ flds, PySem.W.findIn K (.ref C) f = some none
def spIni (flds : List Str) (C : Addr) : Sp := fun vs H Q _ => ∃ (a : Addr) (ws : List V), vs = .ref a :: ws ∧ ws.length = flds.length ∧ H a = some (exo a C none) ∧
  ∀ (d : Addr) (fs : List (Str × V)) (H' : Hp), H d = none → d ≠ a → FldOk flds ws fs → H' a = some (exo a C (some d)) → H' d = some (exd d fs) → (∀ b, b ≠ a → b ≠ d → H' b = H b) → Q .non H'
def visS (sc : Scope) (x : Str) : Prop := sc.names.lookup x = some .local ∨ sc.names.lookup x = some .cell
theorem visS.vis {sc : Scope} {x : Str} (h : visS sc x) : Vis sc x := by
  rcases h with h | h
  · exact .inl h
  · exact .inr (.inl h)
section
variable {P : Program} {w : World} {K : PySem.W.Frag} {mg : Str → Option Value} {base : Heap}
theorem ini1 {qual f1 : Str} {C f : Addr} {fd : FuncData} {st : Stmt} {k : Nat} {q1 q2 q3 q4 : Pos} (F : Fun K "__init__" qual st f fd) (S : FnScope ["self", f1] ["self", f1] (defScope st)) (hb : defBody st = [.Assign [.Attribute (.Name "self" q1) f1 q2] (.Name f1 q3) q4])
    (h1 : (f1 == ("__debug__" : Str)) = false) (h2 : (f1 == ("__classdict__" : Str)) = false) (T : OexC K C) (no : PySem.W.findIn K (.ref C) f1 = some none) : FnOk P w K mg base CX0 (k + 1) f fd ["self", f1] (spIni [f1] C) := by
  refine F.ok S (fun vs H Q E h => ?_) fun cdv A outer s H vs Q E hr h => ⟨tOst K f1 (tVar 0) (tVar 1), ?_, ?_⟩
  · obtain ⟨a, ws, rfl, hl, _⟩ := h
    simp only [List.length_cons, hl, List.length_nil]
  · rw [hb]
    exact pss_one (ps_ost (pe_var rfl (visS.vis (S.par _ (by simp)))) (pe_var (i := 1) rfl (visS.vis (S.par _ (by simp))) h1 h2))
  · obtain ⟨a, ws, rfl, hl, ha, q⟩ := h
    match ws, hl with
    | [w1], _ =>
      refine ⟨w1, rfl, .ref a, rfl, a, C, rfl, T, no, .inl ⟨ha, fun d hd hne => ?_⟩⟩
      refine q d [(f1, w1)] _ hd hne ⟨rfl, fun p hp => ?_⟩ upd_same ?_ fun b h1 h2 => ?_
      · simp only [List.zip_cons_cons, List.zip_nil_right, List.mem_singleton] at hp
        subst hp
        simp [List.lookup]
      · rw [upd_ne hne, upd_same]
      · rw [upd_ne h1, upd_ne h2]
theorem ini2 {qual f1 f2 : Str} {C f : Addr} {fd : FuncData} {st : Stmt} {k : Nat} {q1 q2 q3 q4 q5 q6 q7 q8 : Pos} (F : Fun K "__init__" qual st f fd) (S : FnScope ["self", f1, f2] ["self", f1, f2] (defScope st))
    (hb : defBody st = [.Assign [.Attribute (.Name "self" q1) f1 q2] (.Name f1 q3) q4, .Assign [.Attribute (.Name "self" q5) f2 q6] (.Name f2 q7) q8])
    (h1 : (f1 == ("__debug__" : Str)) = false) (h2 : (f1 == ("__classdict__" : Str)) = false) (h3 : (f2 == ("__debug__" : Str)) = false) (h4 : (f2 == ("__classdict__" : Str)) = false) (h5 : (f1 == f2) = false) (T : OexC K C)
    (no1 : PySem.W.findIn K (.ref C) f1 = some none) (no2 : PySem.W.findIn K (.ref C) f2 = some none) : FnOk P w K mg base CX0 (k + 1) f fd ["self", f1, f2] (spIni [f1, f2] C) := by
  refine F.ok S (fun vs H Q E h => ?_) fun cdv A outer s H vs Q E hr h => ⟨tSeq (tOst K f1 (tVar 0) (tVar 1)) (tOst K f2 (tVar 0) (tVar 2)), ?_, ?_⟩
  · obtain ⟨a, ws, rfl, hl, _⟩ := h
    simp only [List.length_cons, hl, List.length_nil]
  · rw [hb]
    exact pss_cons (ps_ost (pe_var rfl (visS.vis (S.par _ (by simp)))) (pe_var (i := 1) rfl (visS.vis (S.par _ (by simp))) h1 h2)) (pss_one (ps_ost (pe_var rfl (visS.vis (S.par _ (by simp)))) (pe_var (i := 2) rfl (visS.vis (S.par _ (by simp))) h3 h4)))
  · obtain ⟨a, ws, rfl, hl, ha, q⟩ := h
    match ws, hl with
    | [w1, w2], _ =>
      refine ⟨w1, rfl, .ref a, rfl, a, C, rfl, T, no1, .inl ⟨ha, fun d hd hne => ?_⟩⟩
      refine ⟨w2, rfl, .ref a, rfl, a, C, rfl, T, no2, .inr ⟨d, [(f1, w1)], upd_same, by rw [upd_ne hne, upd_same], by show 1 ≤ 900; decide, ?_⟩⟩
      refine q d [(f2, w2), (f1, w1)] _ hd hne ⟨rfl, fun p hp => ?_⟩ (by rw [upd_ne (Ne.symm hne), upd_same]) upd_same fun b h1 h2 => ?_
      · simp only [List.zip_cons_cons, List.zip_nil_right, List.mem_cons, List.not_mem_nil, or_false] at hp
        rcases hp with rfl | rfl
        · simp [List.lookup, h5]
        · simp [List.lookup]
      · rw [upd_ne h2, upd_ne h1, upd_ne h2]
end
theorem pmkC {X : Cx} {e : Expr} {t t' : L2.St → Hp → XK → Prop} (h : PMk X e t) (f : ∀ σ H Q, t' σ H Q → t σ H Q) : PMk X e t' := fun pins s σ H Q I q => h pins s σ H Q I (f _ _ _ q)
theorem tAx_mono {K : PySem.W.Frag} {er : EvA} {σ : L2.St} {H : Hp} {Q Q' : List V → Hp → Prop} (h : tAx K er σ H Q) (f : ∀ vs H', Q vs H' → Q' vs H') : tAx K er σ H Q' := by
  obtain ⟨F, hK, G, Γ, st, ds, st', R, hev, q⟩ := h
  exact ⟨F, hK, G, Γ, st, ds, st', R, hev, fun vs H' G' E r => f _ _ (q vs H' G' E r)⟩
theorem mk_ok {X : Cx} {exn : Str} {flds ps : List Str} {C fI : Addr} {k : Nat} {fd : FuncData} (E : ExF X.K X.mg exn flds C fI) (F1 : FnOk X.prog X.w X.K X.mg X.base CX0 k fI fd ps (spIni flds C)) (hr : Room (k + 1) X.A) (hb : Binds X.K fd ps []) (hl : flds.length ≤ 1000) (W0 : WX) : Mk X exn ⟨C, flds, W0⟩ := by
  intro a es er p q ha hg hdb hn he hpl
  refine pmkC (pmk_oex (dvs := []) E.ox E.iC E.tI F1 hr hb .nil (fun _ _ _ _ _ _ _ h => h.elim) hg E.gC (pa_x ha) hdb he hpl) fun σ H Q q => ?_
  refine tAx_mono q fun vs H1 z => ?_
  obtain ⟨hlen, z⟩ := z
  have hlen : flds.length = vs.length := hlen
  refine ⟨by omega, fun a0 h0 => ?_⟩
  refine ⟨a0, vs, by rw [List.append_nil], hlen.symm, upd_same, fun d fs H' hd hne hf h1 h2 h3 => ⟨rfl, d, fs, h1, h2, ?_, ?_⟩⟩
  · rw [upd_ne hne] at hd; exact hd
  · have hd1 : H1 d = none := by rw [upd_ne hne] at hd; exact hd
    have e : upd (del H' a0) d (.xd fs) = upd H1 d (.xd fs) := by
      funext b
      by_cases e1 : b = d
      · subst e1; rw [upd_same, upd_same]
      · rw [upd_ne e1, upd_ne e1]
        by_cases e2 : b = a0
        · subst e2; rw [del_same, h0]
        · rw [del_ne e2, h3 b e2 e1, upd_ne e2]
    rw [e]
    exact z d fs hd1 hf
/-! a call that may raise -/
def tAgx (K : PySem.W.Frag) (er : EvG) : TA := fun σ H Q => ∃ F : Fz, F.K = K ∧ tAg F er σ H Q
theorem pa_gx {X : Cx} {es : List Expr} {er : EvG} (h : SnG X es er) : PA X es (tAgx X.K er) := ⟨fun pos pins s σ H Q I q => by
  obtain ⟨F, hK, q⟩ := q
  exact (h F hK).run pos pins s σ H Q I q⟩
/-- isinstance(e, T) of the caught error -/
structure ExIs (K : PySem.W.Frag) (C : Addr) (T : String) : Prop where
  xf : XfC K C
  ha : PySem.W.findIn K (.ref C) "__class__" = some (some (.builtin "object.__class__"))
  hn : PySem.W.specialIn K (.builtin "object.__class__") "__get__" = some (some (.builtin "getset_descriptor.__get__"))
  ht : PySem.W.takesIn K (.builtin "object.__class__") = some true
  hm : PySem.W.mroIn K C (.type "object") = some true
  is : PySem.W.kitOne K (.ref C) (.type T) = some true
def rIsX (T : String) (C a : Addr) (cls : Value) (d : Option Addr) : List V → Hp → VK → Prop := fun xs H Q => xs = [.ref a, .ty T] ∧ cls = .ref C ∧ (∃ dd fs, d = some dd ∧ H dd = some (.xd fs)) ∧ Q (.bl true) H
theorem call_isX {X : Cx} {a C : Addr} {cls : Value} {d : Option Addr} {oe : Obj} {pn : List (Addr × Obj)} {T : String} (E : ExIs X.K C T) (hz : Zc cls d oe) (hf : ∃ vs, oe.data = .fields vs) : CallR (X.suite a ((a, oe) :: pn)) (.builtin "isinstance") (rIsX T C a cls d) := by
  intro pins s σ H xs us Q I r h
  obtain ⟨rfl, rfl, ⟨dd, fs, rfl, hdd⟩, q⟩ := h
  cases r with
  | cons rx rr =>
    cases rr with
    | cons rt rr =>
      cases rr
      cases rx
      cases rt
      obtain ⟨hget, _⟩ := I.pin (a, oe) (List.mem_append.mpr (.inl List.mem_cons_self))
      obtain ⟨vs, hv⟩ := hf
      have hx : ObjOk X.prog X.w H s.heap dd (.xd fs) := I.hok dd _ hdd
      obtain ⟨mA, hns, hr⟩ := hx
      obtain ⟨od, ho, hl⟩ := lookIn_ns hns
      have J : PySem.W.InstAt s.heap a oe C (some od) := ⟨hget, hz.1, by unfold PySem.W.notCls; rw [hv] <;> rfl, by rw [hz.2]; exact ho⟩
      obtain ⟨cd, hc, _⟩ := PySem.W.any_some E.xf.hdC
      exact PySem.W.kia_one (PySem.W.kitx_exc (by rw [hc]; rfl) E.xf.ga E.xf.gg E.xf.exC E.ha E.hn E.ht E.hm) I.kIn J E.is (fun z => nomatch z) fun tk => ⟨.bl true, H, I.kept (t' := tk) fun _ _ z => z, rfl, q⟩
/-- the reading of the caught error's fields -/
def SelR (K : PySem.W.Frag) (C : Addr) (flds : List Str) (i : Nat) (tsel : Addr → Value → Option Addr → TE) (gsel : List PyData → PyData) : Prop :=
  ∀ (σ : L2.St) (H G : Hp) (ds : List PyData) (vs : List V) (a dd : Addr) (fs : List (Str × V)) (Q : VK), σ[i]? = some (some (.ref a)) → H dd = some (.xd fs) → FldOk flds vs fs → RpA K G vs ds → Same G H →
    (∀ v H' G', Nw H G H' G' → Rp K G' v (gsel ds) → Q v H') → tsel a (.ref C) (some dd) σ H Q
def SelE (K : PySem.W.Frag) (C : Addr) (i : Nat) (sel : Expr) (tsel : Addr → Value → Option Addr → TE) : Prop :=
  ∀ (X : Cx), X.K = K → X.N[i]? = some "e" → Vis X.env.scope "e" → ∀ (a : Addr) (oe : Obj) (cls : Value) (d : Option Addr) (pn : List (Addr × Obj)), Zc cls d oe → (∃ vs, oe.data = .fields vs) → PE (X.suite a ((a, oe) :: pn)) sel (tsel a cls d)
def sel1 (C : Addr) (i : Nat) (f : Str) : Addr → Value → Option Addr → TE := fun a cls d => tXf a cls d C f (tVar i)
def sel2 (C : Addr) (i : Nat) (f g : Str) : Addr → Value → Option Addr → TE := fun a cls d => tTup (tCons (tXf a cls d C f (tVar i)) (tCons (tXf a cls d C g (tVar i)) tNil))
def g1of (ds : List PyData) : PyData := ds.getD 0 .none
def g2of (ds : List PyData) : PyData := .tuple ds
theorem selE1 {K : PySem.W.Frag} {C : Addr} {i : Nat} {f : Str} {p1 p2 : Pos} (T : XfC K C) (no : PySem.W.findIn K (.ref C) f = some none) : SelE K C i (.Attribute (.Name "e" p1) f p2) (sel1 C i f) := fun X hK hN hv a oe cls d pn hz hf => by
  subst hK
  exact pe_xf T no hz hf (pe_var (X := X.suite a ((a, oe) :: pn)) hN hv)
theorem selE2 {K : PySem.W.Frag} {C : Addr} {i j : Nat} {f g : Str} {p1 p2 p3 p4 p5 : Pos} (T : XfC K C) (no1 : PySem.W.findIn K (.ref C) f = some none) (no2 : PySem.W.findIn K (.ref C) g = some none) : SelE K C i (.Tuple [.Attribute (.Name "e" p1) f p2, .Attribute (.Name "e" p3) g p4] j p5) (sel2 C i f g) := fun X hK hN hv a oe cls d pn hz hf => by
  subst hK
  exact pe_tup (pa_cons (pe_xf T no1 hz hf (pe_var (X := X.suite a ((a, oe) :: pn)) hN hv)) (pa_cons (pe_xf T no2 hz hf (pe_var (X := X.suite a ((a, oe) :: pn)) hN hv)) pa_nil))
theorem selR1 {K : PySem.W.Frag} {C : Addr} {i : Nat} {f : Str} : SelR K C [f] i (sel1 C i f) g1of := fun σ H G ds vs a dd fs Q hσ hH hf ha le q => by
  obtain ⟨hl, hf⟩ := hf
  match vs, hl, ha, hf with
  | [v], _, ha, hf =>
    cases ha with
    | cons r rn =>
      cases rn
      exact ⟨.ref a, hσ, rfl, rfl, dd, fs, v, rfl, hH, hf (f, v) (by simp), q v H G (Nw.refl le) r⟩
theorem selR2 {K : PySem.W.Frag} {C : Addr} {i : Nat} {f g : Str} : SelR K C [f, g] i (sel2 C i f g) g2of := fun σ H G ds vs a dd fs Q hσ hH hf ha le q => by
  obtain ⟨hl, hf⟩ := hf
  match vs, hl, ha, hf with
  | [v, u], _, ha, hf =>
    refine ⟨.ref a, hσ, rfl, rfl, dd, fs, v, rfl, hH, hf (f, v) (by simp), .ref a, hσ, rfl, rfl, dd, fs, u, rfl, hH, hf (g, u) (by simp), ?_, fun p hp => ?_⟩
    · show 2 ≤ sizeLine
      rw [sizeLine_eq]; decide
    · exact q _ _ _ (Nw.new le hp) (.tup upd_same (RpA.mono (Nw.new le hp).gg ha))
/-! try: return [told, f(..)] except C as e: return [s1, e.f] if isinstance(e, T) else [s2] -/
def reqFn (told s1 : Str) (np N : Nat) (er : EvG) (gsel : List PyData → PyData) (g : FnX) : Fn := fun args st => if args.length = np then match er (startE N args) st with
  | some (as, st1) => match g as st1 with
    | some (.inl (d, st2)) => some (.list [.str told, d], st2)
    | some (.inr (ds, st2)) => some (.list [.str s1, gsel ds], st2)
    | none => none
  | none => none else none
theorem Ok.tr {Φ : Nat → Fn} {X : Cx} {cc : Cc} (ok : Ok Φ X cc) (pn : List (Addr × Obj)) (xe : Value → Shared → Prop) : Ok Φ (X.tr pn xe) cc :=
  ⟨ok.N, ok.nd, ok.sc, ok.calm, ok.tgt, ok.bl, ok.gc, fun x n h => ⟨(ok.fn x n h).ex⟩, ok.hu, ok.rep⟩
section
variable {P : Program} {w : World} {K : PySem.W.Frag} {mg : Str → Option Value} {base : Heap}
theorem req_ok {Φ : Nat → Fn} {x qual exn told s1 s2 fn bn : Str} {T : String} {flds : List Str} {C : Addr} {st : Stmt} {f fa : Addr} {fd fdc : FuncData} {ps psc : List Str} {k j m n i : Nat} {cc : Cc} {g : FnX} {ig : ILG} {gsel : List PyData → PyData}
    {tsel : Addr → Value → Option Addr → TE} {sel a0 : Expr} {args : List Expr} {k1 k2 k3 : Nat} {p1 p2 p3 p4 p5 p6 p7 p8 p9 p10 p11 p12 p13 p14 p15 p16 p17 p18 : Pos}
    (F : Fun K x qual st f fd) (S : FnScope cc.N ps (defScope st)) (hsc : cc.sc = defScope st) (ht : tgtOk cc = true) (hrep : cc.rep = false)
    (hb : defBody st = [.Try [.Return (some (.List [.Constant (.str told) k1 p1, .Call (.Name fn p2) (a0 :: args) [] p3] p4)) p5] [.ExceptHandler (some (.Name exn p6)) (some "e")
      [.Return (some (.IfExp (.Call (.Name "isinstance" p7) [.Name "e" p8, .Name bn p9] [] p10) (.List [.Constant (.str s1) k2 p11, sel] p12) (.List [.Constant (.str s2) k3 p13] p14) p15)) p16] p17] [] [] p18])
    (hi : findIx cc.N "e" = some i) (hie : decide (cc.sc.names.lookup ("e" : Str) = some NameKind.local) = true) (hcg : compG n cc (a0 :: args) = some ig) (hst : (notStar a0 && args.all notStar) = true) (hss : notStar sel = true)
    (hgl : (glB cc.sc fn && plainName fn && glB cc.sc exn && plainName exn && glB cc.sc "isinstance" && cc.bl.contains "isinstance" && glB cc.sc bn && plainName bn && cc.bl.contains bn) = true) (hT : bootBuiltins bn = some (.type T))
    (bl : ∀ x, cc.bl.contains x = true → mg x = none) (gc : ∀ x i, cc.gc.lookup x = some i → ∃ t, mg x = some (.int i t)) (kn : Known P w K mg base k Φ cc.fns)
    (Fc : FnOk P w K mg base (L2.CX P w) j fa fdc psc (spX K m C flds g)) (hj : j ≤ k) (hmf : mg fn = some (.ref fa)) (hkf : PySem.W.keepIn K (.ref fa) = true) (hbf : Binds K fdc psc []) (hgm : ∀ as st r, g as st = some r → as.length = m)
    (gC : mg exn = some (.ref C)) (te : PySem.W.exmOne K (.ref C) (.ref C) = some true) (EI : ExIs K C T) (hse : SelE K C i sel tsel) (hsr : SelR K C flds i tsel gsel) :
    FnOk P w K mg base CX0 (k + 1) f fd ps (spF K ps.length (reqFn told s1 ps.length cc.N.length (evG Φ ig) gsel g)) := by
  refine F.ok S (fun vs H Q E h => h.1) fun cdv A outer s H vs Q E hr h => ?_
  obtain ⟨hl, pn, pc, G, as0, st0, d, st', le, pen, ha, hmir, q⟩ := h
  have ok : Ok Φ (cxOf CX0 P w K mg base cc.N qual (defScope st) f cdv A outer s H E).nox cc := ok_of ⟨rfl, rfl, rfl, rfl, rfl⟩ rfl S.nd hsc.symm rfl (fun _ => rfl) ht bl gc kn hr (fun z => by rw [hrep] at z; cases z)
  simp only [Bool.and_eq_true] at hgl hst
  obtain ⟨⟨⟨⟨⟨⟨⟨⟨c1, c2⟩, c3⟩, c4⟩, c5⟩, c6⟩, c7⟩, c8⟩, c9⟩ := hgl
  have hi' := findIx_get hi
  have hloc : (defScope st).names.lookup ("e" : Str) = some NameKind.local := by rw [← hsc]; exact of_decide_eq_true hie
  let tb : WX → TS := fun W => tRet (tLst (tCons (tC (.str told)) (tCons (tCallS (spX K m C flds g) (WE W) (tAgx K (evG Φ ig))) tNil)))
  let ts : Addr → Value → Option Addr → TS := fun a cls d => tRet (tIf (tB (tCB (rIsX T C a cls d) (tCons (tVar i) (tCons (tC (.ty T)) tNil)))) (tLst (tCons (tC (.str s1)) (tCons (tsel a cls d) tNil))) (tLst (tCons (tC (.str s2)) tNil)))
  refine ⟨fun D σ H => tb (wAs K (.ref C) i ts (fun _ _ _ _ => False) D) D σ H, ?_, ?_⟩
  · rw [hb]
    refine pss_one (ps_try_as (i := i) (tb := tb) (ts := ts) rfl rfl S.nd hi' hloc ⟨ok.gl c3, (plain1 c4).1, .inl gC⟩ takes0 (fun W pn xe tk _ => ?_) fun a oe cls d pn hz hf => ?_)
    · have ok' := ok.tr pn xe
      exact pss_one (ps_ret (pe_lst (pa_cons pe_str (pa_cons (pe_callS Fc (hr.mono hj) (ok.gl c1) hmf hkf hbf (fun σ => passAt tk σ) (pa_gx ((comp_all Φ n).g _ cc ok' _ _ hcg)) (plain1 c2).1 (star_cons hst.1) (back_any hst.2)) pa_nil))))
    · refine pss_one (ps_ret (pe_ifExp (pt_val (pe_callB (call_isX EI hz hf) (ok.gl c5) (ok.bl _ c6) boot_isinstance (pa_cons (pe_var hi' (.inl hloc)) (pa_cons (pe_bltn (ok.gl c7) (ok.bl _ c9) hT rfl (plain1 c8).2.2 (plain1 c8).1) pa_nil)))) (pe_lst (pa_cons pe_str (pa_cons (hse _ rfl hi' (.inl hloc) a oe cls d pn hz hf) pa_nil (star_cons hss)))) (pe_lst (pa_cons pe_str pa_nil))))
  · unfold reqFn at hmir
    split at hmir
    · rename_i hal
      have hpl : ps.length ≤ cc.N.length := by
        have := congrArg List.length S.pre
        rw [List.length_take] at this
        omega
      have R0 : Rel ⟨K, pn, pc, H, G⟩ (L2.start cc.N vs) H G (startE cc.N.length as0) st0 := start_rel (by rw [hal]; exact hpl) le pen ha
      split at hmir
      · rename_i as1 st1 hev
        refine ⟨⟨K, pn, pc, H, G⟩, rfl, G, _, st0, as1, st1, R0, hev, fun vs1 H1 G1 E1 r1 => ?_⟩
        have R1 := R0.step E1
        split at hmir
        · rename_i d2 st2 hg
          obtain ⟨rfl, rfl⟩ := Prod.mk.inj (Option.some.inj hmir)
          refine ⟨r1.length.trans (hgm _ _ _ hg), pn, pc, G1, as1, st1, _, R1.le, R1.pen, r1, hg, fun v H2 G2 E2 r2 => ⟨by show 2 ≤ sizeLine; rw [sizeLine_eq]; decide, fun p hp => ?_⟩⟩
          have R2 := R1.step E2
          have N := Nw.new R2.le (o := .lst [.str told, v]) hp
          exact q _ _ _ (Ext.trans' (σ := L2.start cc.N vs) (Γ := startE cc.N.length as0) (Ext.trans' (σ := L2.start cc.N vs) (Γ := startE cc.N.length as0) E1 E2) (N.ext R2)) (.lst upd_same (.cons (.str _) (.cons (Rp.mono N.gg r2) .nil)))
        · rename_i ds st2 hg
          obtain ⟨rfl, rfl⟩ := Prod.mk.inj (Option.some.inj hmir)
          refine ⟨r1.length.trans (hgm _ _ _ hg), pn, pc, G1, as1, st1, _, R1.le, R1.pen, r1, hg, fun vs2 dd fs H2 G2 E2 r2 hf hdd => ⟨true, te, fun _ a hna => ?_, fun z => nomatch z⟩⟩
          have R2 := R1.step E2
          have hlt : i < (L2.start cc.N vs).length := by
            rw [← R0.len]
            unfold startE
            have h3 : i < cc.N.length := (List.getElem?_eq_some_iff.mp hi').1
            simp only [List.length_append, List.length_map, List.length_replicate]
            omega
          have hσ : ((L2.start cc.N vs).set i (some (V.ref a)))[i]? = some (some (V.ref a)) := List.getElem?_set_self hlt
          refine ⟨.ref a, hσ, ⟨rfl, rfl, ⟨dd, fs, rfl, hdd⟩, true, rfl, ?_⟩⟩
          refine hsr _ H2 G2 ds vs2 a dd fs _ hσ hdd hf r2 R2.le fun v H3 G3 N3 r3 => ⟨by show 2 ≤ sizeLine; rw [sizeLine_eq]; decide, fun p hp => ?_⟩
          have R3 := R2.step (N3.ext R2)
          have N := Nw.new R3.le (o := .lst [.str s1, v]) hp
          exact q _ _ _ (Ext.trans' (σ := L2.start cc.N vs) (Γ := startE cc.N.length as0) (Ext.trans' (σ := L2.start cc.N vs) (Γ := startE cc.N.length as0) (Ext.trans' (σ := L2.start cc.N vs) (Γ := startE cc.N.length as0) E1 E2) (N3.ext R2)) (N.ext R3)) (.lst upd_same (.cons (.str _) (.cons (Rp.mono N.gg r3) .nil)))
        · cases hmir
      · cases hmir
    · cases hmir
end
theorem mk_at {P : Program} {w : World} {K : PySem.W.Frag} {mg : Str → Option Value} {base : Heap} {exn : Str} {flds ps : List Str} {C fI : Addr} {k j : Nat} {fd : FuncData} (E : ExF K mg exn flds C fI) (F1 : FnOk P w K mg base CX0 k fI fd ps (spIni flds C)) (hj : k + 1 ≤ j) (hb : Binds K fd ps []) (hl : flds.length ≤ 1000) :
    ∀ X : Cx, X.K = K → X.mg = mg → X.prog = P → X.w = w → X.base = base → Room j X.A → ∀ W0 : WX, Mk X exn ⟨C, flds, W0⟩ := by
  rintro X rfl rfl rfl rfl rfl hr W0
  exact mk_ok E F1 (hr.mono hj) hb hl W0
theorem vac_ok {P : Program} {w : World} {K : PySem.W.Frag} {mg : Str → Option Value} {base : Heap} {k n : Nat} {fa : Addr} {fd : FuncData} {ps : List Str} : FnOk P w K mg base CX0 k fa fd ps (spF K n fun _ _ => none) where
  len := fun vs H Q E h => by
    obtain ⟨_, _, _, _, _, _, _, _, _, _, _, h, _⟩ := h
    cases h
  run := fun A outer s H args us vs Q E _ _ _ _ h => by
    obtain ⟨_, _, _, _, _, _, _, _, _, _, _, h, _⟩ := h
    cases h
theorem fnX_len {np N k : Nat} {Φ : Nat → Fn} {sl : XLs} {as : List Arg} {st : Pn} {r : Sum (PyData × Pn) (List PyData × Pn)} (h : fnX np N k Φ sl as st = some r) : as.length = np := by
  unfold fnX at h
  split at h
  · assumption
  · cases h
theorem fnX_run {np N k : Nat} {Φ : Nat → Fn} {sl : XLs} : ∀ (as : List Arg) (st : Pn) (r : Sum (PyData × Pn) (List PyData × Pn)), fnX np N k Φ sl as st = some r → as.length = np ∧ ∃ W, runX (evXB Φ W sl) N as st = some r := fun as st r h => by
  have hl := fnX_len h
  unfold fnX at h
  rw [if_pos hl] at h
  exact ⟨hl, k, h⟩
theorem reqFn_len {told s1 : Str} {np N : Nat} {er : EvG} {gsel : List PyData → PyData} {g : FnX} {as : List Arg} {st : Pn} {r : PyData × Pn} (h : reqFn told s1 np N er gsel g as st = some r) : as.length = np := by
  unfold reqFn at h
  split at h
  · assumption
  · cases h
theorem w_reqFn {told s1 : Str} {np N : Nat} {er : EvG} {gsel : List PyData → PyData} {g : FnX} {as : List Arg} {st : Pn} {Q : PyData × Pn → Prop} (h : as.length = np) : W (reqFn told s1 np N er gsel g as st) Q ↔ W (er (startE N as) st) fun p => W (g p.1 p.2) fun r => match r with
    | .inl (d, st2) => Q (.list [.str told, d], st2)
    | .inr (ds, st2) => Q (.list [.str s1, gsel ds], st2) := by
  unfold reqFn
  rw [if_pos h]
  rcases er (startE N as) st with _ | ⟨as1, st1⟩
  · simp only [W_none]
  · simp only [W_some]
    rcases g as1 st1 with _ | r
    · simp only [W_none]
    · rcases r with ⟨d, st2⟩ | ⟨ds, st2⟩ <;> simp only [W_some]
end Mn
namespace Mn
open PySem PySem.Spec PyProof.Rows L2
def sl_contains_all : SLs :=
  (SLs.cons (SL.ret (TL.fz [] (IL.cb (B1.all) (ILs.cons (IL.fr (ILF.lc (ILI.seq (IL.v 1)) (Tg.nm 2) (ILO.none) (IL.op (O2.in_) (IL.v 2) (IL.v 0)) [2])) (ILs.nil))))) (SLs.nil))
def sl_longest_chain : SLs :=
  (SLs.cons (SL.own 2 (TFL.fz [] (ILF.cf (F1.list) (ILs.cons (IL.v 1) (ILs.nil))))) (SLs.cons (SL.own 3 (TFL.fz [] (ILF.lst (ILs.nil)))) (SLs.cons (SL.asg (Tg.nm 4) (TL.fz [] (IL.neg (IL.k (PyData.int (1)))))) (SLs.cons (SL.while_ (IL.op (O2.lt) (IL.v 4) (IL.cb (B1.len) (ILs.cons (IL.v 3) (ILs.nil)))) (SLs.cons (SL.asg (Tg.nm 4) (TL.sc (IL.cb (B1.len) (ILs.cons (IL.v 3) (ILs.nil))))) (SLs.cons (SL.for_ [] (ILI.en (IL.v 0)) (Tg.tup [Tg.nm 5, Tg.tup [Tg.nm 6, Tg.nm 7, Tg.nm 8]]) (SLs.cons (SL.iff (IL.and (IL.op (O2.notIn) (IL.v 8) (IL.v 2)) (IL.call 0 (ILG.d (IL.v 2) (ILG.d (IL.v 7) (ILG.nil))))) (SLs.cons (SL.app 2 (TL.fz [] (IL.v 8))) (SLs.cons (SL.app 3 (TL.fz [] (IL.v 5))) (SLs.nil))) (SLs.nil)) (SLs.nil))) (SLs.nil)))) (SLs.cons (SL.ret (TL.fz [3] (IL.cb (B1.tuple) (ILs.cons (IL.v 3) (ILs.nil))))) (SLs.nil))))))
def sl_reached_by : SLs :=
  (SLs.cons (SL.ret (TL.fz [] (IL.cb (B1.tuple) (ILs.cons (IL.op (O2.add) (IL.fr (ILF.cf (F1.list) (ILs.cons (IL.v 1) (ILs.nil)))) (IL.fr (ILF.lc (ILI.seq (IL.v 2)) (Tg.nm 3) (ILO.none) (IL.ix (IL.ix (IL.v 0) (IL.v 3)) (IL.k (PyData.int (2)))) [3]))) (ILs.nil))))) (SLs.nil))
def sl_closure_of : SLs :=
  (SLs.cons (SL.ret (TL.fz [] (IL.cb (B1.tuple) (ILs.cons (IL.fr (ILF.sset (IL.call 2 (ILG.d (IL.v 1) (ILG.d (IL.v 2) (ILG.d (IL.call 1 (ILG.d (IL.v 1) (ILG.d (IL.v 2) (ILG.nil)))) (ILG.nil))))))) (ILs.nil))))) (SLs.nil))
def sl_chain_for : SLs :=
  (SLs.cons (SL.asg (Tg.nm 4) (TL.fz [] (IL.call 1 (ILG.d (IL.v 1) (ILG.d (IL.v 2) (ILG.nil)))))) (SLs.cons (SL.forR (ILI.r1 (IL.op (O2.add) (IL.cb (B1.len) (ILs.cons (IL.v 4) (ILs.nil))) (IL.k (PyData.int (1))))) (Tg.nm 5) (SLs.cons (SL.iff (IL.call 0 (ILG.d (IL.call 2 (ILG.d (IL.v 1) (ILG.d (IL.v 2) (ILG.d (IL.sl (IL.v 4) (ILO.none) (ILO.some (IL.v 5))) (ILG.nil))))) (ILG.d (IL.v 3) (ILG.nil)))) (SLs.cons (SL.ret (TL.fz [] (IL.sl (IL.v 4) (ILO.none) (ILO.some (IL.v 5))))) (SLs.nil)) (SLs.nil)) (SLs.nil))) (SLs.cons (SL.ret (TL.fz [] (IL.k PyData.none))) (SLs.nil))))
def sl_law_fresh : SLs :=
  (SLs.cons (SL.par 1 2 [] (CL.da (IL.pix 0 1)) (CL.da (IL.pix 0 0))) (SLs.cons (SL.pset 0 1 (TL.fz [] (IL.op (O2.add) (IL.v 1) (IL.k (PyData.int (1)))))) (SLs.cons (SL.asg (Tg.nm 3) (TL.fz [] (IL.ite (IL.op (O2.ne) (IL.v 2) (IL.fr (ILF.lst (ILs.nil)))) (IL.ix (IL.v 2) (IL.op (O2.mod) (IL.cb (B1.int) (ILs.cons (IL.v 1) (ILs.nil))) (IL.cb (B1.len) (ILs.cons (IL.v 2) (ILs.nil))))) (IL.k (PyData.int (0)))))) (SLs.cons (SL.iff (IL.and (IL.op (O2.lt) (IL.v 1) (IL.cb (B1.len) (ILs.cons (IL.v 2) (ILs.nil)))) (IL.op (O2.ge) (IL.v 3) (IL.op (O2.pow) (IL.k (PyData.int (10))) (IL.k (PyData.int (18)))))) (SLs.cons (SL.ret (TL.fz [] (IL.op (O2.sub) (IL.v 3) (IL.op (O2.pow) (IL.k (PyData.int (10))) (IL.k (PyData.int (18))))))) (SLs.nil)) (SLs.nil)) (SLs.cons (SL.asg (Tg.nm 4) (TL.fz [] (IL.k (PyData.int (2305843009213693951))))) (SLs.cons (SL.asg (Tg.nm 5) (TL.fz [] (IL.op (O2.mod) (IL.cb (B1.int) (ILs.cons (IL.op (O2.add) (IL.op (O2.add) (IL.op (O2.mul) (IL.v 3) (IL.k (PyData.int (48271)))) (IL.op (O2.mul) (IL.k (PyData.int (60013))) (IL.v 1))) (IL.k (PyData.int (31)))) (ILs.nil))) (IL.v 4)))) (SLs.cons (SL.asg (Tg.nm 6) (TL.fz [] (IL.v 5))) (SLs.cons (SL.forR (ILI.r1 (IL.k (PyData.int (6)))) (Tg.nm 7) (SLs.cons (SL.asg (Tg.nm 5) (TL.fz [] (IL.op (O2.mod) (IL.cb (B1.int) (ILs.cons (IL.op (O2.add) (IL.op (O2.add) (IL.op (O2.mul) (IL.v 5) (IL.v 5)) (IL.op (O2.mul) (IL.op (O2.mul) (IL.k (PyData.int (70139))) (IL.op (O2.add) (IL.v 7) (IL.k (PyData.int (5))))) (IL.op (O2.add) (IL.v 1) (IL.k (PyData.int (1)))))) (IL.v 3)) (ILs.nil))) (IL.v 4)))) (SLs.cons (SL.asg (Tg.nm 6) (TL.fz [] (IL.op (O2.add) (IL.op (O2.mul) (IL.v 6) (IL.v 4)) (IL.v 5)))) (SLs.nil)))) (SLs.cons (SL.ret (TL.fz [] (IL.v 6))) (SLs.nil))))))))))
def sl_law_draw : SLs :=
  (SLs.cons (SL.iff (IL.op (O2.lt) (IL.pix 0 2) (IL.v 1)) (SLs.cons (SL.pset 0 2 (TL.fz [] (IL.call 6 (ILG.p 0 (ILG.nil))))) (SLs.nil)) (SLs.nil)) (SLs.cons (SL.asg (Tg.nm 2) (TL.fz [] (IL.op (O2.mod) (IL.cb (B1.int) (ILs.cons (IL.pix 0 2) (ILs.nil))) (IL.v 1)))) (SLs.cons (SL.pset 0 2 (TL.fz [] (IL.op (O2.fdiv) (IL.cb (B1.int) (ILs.cons (IL.pix 0 2) (ILs.nil))) (IL.v 1)))) (SLs.cons (SL.ret (TL.fz [] (IL.v 2))) (SLs.nil)))))
def sl_law_one_of : SLs :=
  (SLs.cons (SL.ret (TL.fz [] (IL.ix (IL.v 1) (IL.call 7 (ILG.p 0 (ILG.d (IL.cb (B1.len) (ILs.cons (IL.v 1) (ILs.nil))) (ILG.nil))))))) (SLs.nil))
def sl_law_whole : SLs :=
  (SLs.cons (SL.ret (TL.fz [] (IL.and (IL.isa (IL.v 0) "int") (IL.and (IL.not (IL.isa (IL.v 0) "bool")) (IL.ch (O2.le) (O2.le) (IL.v 1) (IL.v 0) (IL.v 2)))))) (SLs.nil))
def sl_law_variables : SLs :=
  (SLs.cons (SL.own 1 (TFL.fz [] (ILF.lst (ILs.nil)))) (SLs.cons (SL.for_ [] (ILI.seq (IL.ix (IL.v 0) (IL.k (PyData.int (1))))) (Tg.nm 2) (SLs.cons (SL.ext 1 (TL.fz [] (IL.fr (ILF.cf (F1.list) (ILs.cons (IL.v 2) (ILs.nil)))))) (SLs.nil))) (SLs.cons (SL.ret (TL.fz [1] (IL.fr (ILF.sset (IL.v 1))))) (SLs.nil))))
def sl_law_some_of : SLs :=
  (SLs.cons (SL.par 3 4 [] (CL.ow (ILF.cf (F1.list) (ILs.cons (IL.v 1) (ILs.nil)))) (CL.ow (ILF.lst (ILs.nil)))) (SLs.cons (SL.forR (ILI.r1 (IL.cb (B1.min) (ILs.cons (IL.cb (B1.len) (ILs.cons (IL.v 3) (ILs.nil))) (ILs.cons (IL.call 7 (ILG.p 0 (ILG.d (IL.op (O2.add) (IL.v 2) (IL.k (PyData.int (1)))) (ILG.nil)))) (ILs.nil))))) (Tg.nm 5) (SLs.cons (SL.app 4 (TL.pop 3 (TL.sc (IL.call 7 (ILG.p 0 (ILG.d (IL.cb (B1.len) (ILs.cons (IL.v 3) (ILs.nil))) (ILG.nil))))))) (SLs.nil))) (SLs.cons (SL.ret (TL.fz [4] (IL.v 4))) (SLs.nil))))
def sl_law_atom : SLs :=
  (SLs.cons (SL.par 3 4 [] (CL.ow (ILF.cf (F1.list) (ILs.cons (IL.v 1) (ILs.nil)))) (CL.ow (ILF.lst (ILs.nil)))) (SLs.cons (SL.forR (ILI.r1 (IL.cb (B1.min) (ILs.cons (IL.cb (B1.len) (ILs.cons (IL.v 3) (ILs.nil))) (ILs.cons (IL.op (O2.add) (IL.k (PyData.int (1))) (IL.call 7 (ILG.p 0 (ILG.d (IL.v 2) (ILG.nil))))) (ILs.nil))))) (Tg.nm 5) (SLs.cons (SL.app 4 (TL.pop 3 (TL.sc (IL.call 7 (ILG.p 0 (ILG.d (IL.cb (B1.len) (ILs.cons (IL.v 3) (ILs.nil))) (ILG.nil))))))) (SLs.nil))) (SLs.cons (SL.ret (TL.fz [4] (IL.cb (B1.tuple) (ILs.cons (IL.v 4) (ILs.nil))))) (SLs.nil))))
def sl_law_query : SLs :=
  (SLs.cons (SL.asg (Tg.nm 4) (TL.fz [] (IL.fr (ILF.lrg (IL.op (O2.add) (IL.k (PyData.int (1))) (IL.call 7 (ILG.p 0 (ILG.d (IL.v 2) (ILG.nil))))))))) (SLs.cons (SL.asg (Tg.nm 5) (TL.fz [] (IL.cb (B1.tuple) (ILs.cons (IL.fr (ILF.lc (ILI.r1 (IL.op (O2.add) (IL.k (PyData.int (1))) (IL.call 7 (ILG.p 0 (ILG.d (IL.v 1) (ILG.nil)))))) (Tg.nm 7) (ILO.none) (IL.call 12 (ILG.p 0 (ILG.d (IL.v 4) (ILG.d (IL.v 3) (ILG.nil))))) [7])) (ILs.nil))))) (SLs.cons (SL.asg (Tg.nm 6) (TL.fz [] (IL.call 10 (ILG.d (IL.tup (ILs.cons (IL.tup (ILs.nil)) (ILs.cons (IL.v 5) (ILs.nil)))) (ILG.nil))))) (SLs.cons (SL.ret (TL.fz [] (IL.tup (ILs.cons (IL.cb (B1.tuple) (ILs.cons (IL.fr (ILF.cf (F1.sorted) (ILs.cons (IL.call 11 (ILG.p 0 (ILG.d (IL.v 6) (ILG.d (IL.cb (B1.len) (ILs.cons (IL.v 6) (ILs.nil))) (ILG.nil))))) (ILs.nil)))) (ILs.nil))) (ILs.cons (IL.v 5) (ILs.nil)))))) (SLs.nil)))))
def sl_law_rule : SLs :=
  (SLs.cons (SL.asg (Tg.nm 2) (TL.fz [] (IL.call 7 (ILG.p 0 (ILG.d (IL.cb (B1.len) (ILs.cons (IL.ix (IL.v 1) (IL.k (PyData.int (1)))) (ILs.nil))) (ILG.nil)))))) (SLs.cons (SL.own 3 (TFL.fz [] (ILF.cf (F1.list) (ILs.cons (IL.ix (IL.ix (IL.v 1) (IL.k (PyData.int (1)))) (IL.v 2)) (ILs.nil))))) (SLs.cons (SL.asg (Tg.nm 4) (TL.pop 3 (TL.sc (IL.call 7 (ILG.p 0 (ILG.d (IL.cb (B1.len) (ILs.cons (IL.v 3) (ILs.nil))) (ILG.nil))))))) (SLs.cons (SL.ret (TL.fz [3] (IL.tup (ILs.cons (IL.v 2) (ILs.cons (IL.cb (B1.tuple) (ILs.cons (IL.fr (ILF.cf (F1.sorted) (ILs.cons (IL.call 11 (ILG.p 0 (ILG.d (IL.v 3) (ILG.d (IL.k (PyData.int (3))) (ILG.nil))))) (ILs.nil)))) (ILs.nil))) (ILs.cons (IL.v 4) (ILs.nil))))))) (SLs.nil)))))
def sl_law_rules : SLs :=
  (SLs.cons (SL.ret (TL.fz [] (IL.cb (B1.tuple) (ILs.cons (IL.fr (ILF.lc (ILI.r1 (IL.call 8 (ILG.p 0 (ILG.d (IL.fr (ILF.lst (ILs.cons (IL.k (PyData.int (0))) (ILs.cons (IL.k (PyData.int (0))) (ILs.cons (IL.k (PyData.int (1))) (ILs.cons (IL.k (PyData.int (2))) (ILs.cons (IL.call 7 (ILG.p 0 (ILG.d (IL.k (PyData.int (7))) (ILG.nil)))) (ILs.nil)))))))) (ILG.nil))))) (Tg.nm 2) (ILO.none) (IL.call 14 (ILG.p 0 (ILG.d (IL.v 1) (ILG.nil)))) [2])) (ILs.nil))))) (SLs.nil))
def sl_law_closure : SLs :=
  (SLs.cons (SL.own 2 (TFL.fz [] (ILF.cf (F1.list) (ILs.cons (IL.v 1) (ILs.nil))))) (SLs.cons (SL.forR (ILI.r1 (IL.k (PyData.int (7)))) (Tg.nm 3) (SLs.cons (SL.for_ [] (ILI.seq (IL.v 0)) (Tg.tup [Tg.nm 4, Tg.nm 5, Tg.nm 6]) (SLs.cons (SL.iff (IL.and (IL.op (O2.notIn) (IL.v 6) (IL.v 2)) (IL.op (O2.eq) (IL.fr (ILF.lc (ILI.seq (IL.v 5)) (Tg.nm 7) (ILO.some (IL.op (O2.notIn) (IL.v 7) (IL.v 2))) (IL.v 7) [7])) (IL.fr (ILF.lst (ILs.nil))))) (SLs.cons (SL.app 2 (TL.fz [] (IL.v 6))) (SLs.nil)) (SLs.nil)) (SLs.nil))) (SLs.nil))) (SLs.cons (SL.ret (TL.fz [2] (IL.fr (ILF.sset (IL.v 2))))) (SLs.nil))))
def sl_law_chain_break : SLs :=
  (SLs.cons (SL.own 3 (TFL.fz [] (ILF.cf (F1.list) (ILs.cons (IL.v 1) (ILs.nil))))) (SLs.cons (SL.for_ [] (ILI.en (IL.v 2)) (Tg.tup [Tg.nm 4, Tg.nm 5]) (SLs.cons (SL.iff (IL.op (O2.ne) (IL.fr (ILF.lc (ILI.seq (IL.ix (IL.ix (IL.v 0) (IL.v 5)) (IL.k (PyData.int (1))))) (Tg.nm 6) (ILO.some (IL.op (O2.notIn) (IL.v 6) (IL.v 3))) (IL.v 6) [6])) (IL.fr (ILF.lst (ILs.nil)))) (SLs.cons (SL.ret (TL.fz [] (IL.fr (ILF.lst (ILs.cons (IL.v 4) (ILs.nil)))))) (SLs.nil)) (SLs.nil)) (SLs.cons (SL.app 3 (TL.fz [] (IL.ix (IL.ix (IL.v 0) (IL.v 5)) (IL.k (PyData.int (2)))))) (SLs.nil)))) (SLs.cons (SL.ret (TL.fz [] (IL.fr (ILF.lst (ILs.nil))))) (SLs.nil))))
def sl_law_reached : SLs :=
  (SLs.cons (SL.ret (TL.fz [] (IL.op (O2.add) (IL.fr (ILF.cf (F1.list) (ILs.cons (IL.v 1) (ILs.nil)))) (IL.fr (ILF.lc (ILI.seq (IL.v 2)) (Tg.nm 3) (ILO.none) (IL.ix (IL.ix (IL.v 0) (IL.v 3)) (IL.k (PyData.int (2)))) [3]))))) (SLs.nil))
def sl_law_is_right : SLs :=
  (SLs.cons (SL.iff (IL.or (IL.not (IL.isa (IL.v 3) "tuple")) (IL.op (O2.ne) (IL.fr (ILF.lc (ILI.seq (IL.v 3)) (Tg.nm 4) (ILO.some (IL.not (IL.call 9 (ILG.d (IL.v 4) (ILG.d (IL.k (PyData.int (0))) (ILG.d (IL.op (O2.sub) (IL.cb (B1.len) (ILs.cons (IL.v 0) (ILs.nil))) (IL.k (PyData.int (1)))) (ILG.nil))))))) (IL.k (PyData.int (1))) [4])) (IL.fr (ILF.lst (ILs.nil))))) (SLs.cons (SL.ret (TL.fz [] (IL.k (PyData.bool false)))) (SLs.nil)) (SLs.nil)) (SLs.cons (SL.iff (IL.or (IL.op (O2.ne) (IL.lset (IL.v 3)) (IL.cb (B1.len) (ILs.cons (IL.v 3) (ILs.nil)))) (IL.op (O2.ne) (IL.call 17 (ILG.d (IL.v 0) (ILG.d (IL.v 1) (ILG.d (IL.v 3) (ILG.nil))))) (IL.fr (ILF.lst (ILs.nil))))) (SLs.cons (SL.ret (TL.fz [] (IL.k (PyData.bool false)))) (SLs.nil)) (SLs.nil)) (SLs.cons (SL.ret (TL.fz [] (IL.op (O2.eq) (IL.fr (ILF.lc (ILI.seq (IL.v 2)) (Tg.nm 5) (ILO.some (IL.op (O2.notIn) (IL.v 5) (IL.call 18 (ILG.d (IL.v 0) (ILG.d (IL.v 1) (ILG.d (IL.v 3) (ILG.nil))))))) (IL.v 5) [5])) (IL.fr (ILF.lst (ILs.nil)))))) (SLs.nil))))
def sl_law_k03 : SLs :=
  (SLs.cons (SL.forR (ILI.r1 (IL.cb (B1.max) (ILs.cons (IL.k (PyData.int (3))) (ILs.cons (IL.cb (B1.min) (ILs.cons (IL.k (PyData.int (8))) (ILs.cons (IL.lenS 0) (ILs.nil)))) (ILs.nil))))) (Tg.nm 2) (SLs.cons (SL.asg (Tg.nm 3) (TL.fz [] (IL.call 13 (ILG.p 1 (ILG.d (IL.k (PyData.int (5))) (ILG.d (IL.k (PyData.int (7))) (ILG.d (IL.k (PyData.int (4))) (ILG.nil)))))))) (SLs.cons (SL.par 4 5 [] (CL.da (IL.call 15 (ILG.p 1 (ILG.d (IL.v 3) (ILG.nil))))) (CL.da (IL.call 10 (ILG.d (IL.v 3) (ILG.nil))))) (SLs.cons (SL.asg (Tg.nm 6) (TL.fz [] (IL.cb (B1.repr) (ILs.cons (IL.tup (ILs.cons (IL.v 3) (ILs.cons (IL.v 4) (ILs.nil)))) (ILs.nil))))) (SLs.cons (SL.forR (ILI.r1 (IL.k (PyData.int (3)))) (Tg.nm 7) (SLs.cons (SL.asg (Tg.nm 8) (TL.fz [] (IL.cb (B1.tuple) (ILs.cons (IL.call 11 (ILG.p 1 (ILG.d (IL.v 5) (ILG.d (IL.call 8 (ILG.p 1 (ILG.d (IL.fr (ILF.lst (ILs.cons (IL.k (PyData.int (3))) (ILs.cons (IL.k (PyData.int (7))) (ILs.nil))))) (ILG.nil)))) (ILG.nil))))) (ILs.nil))))) (SLs.cons (SL.asg (Tg.nm 9) (TL.fz [] (IL.cb (B1.tuple) (ILs.cons (IL.call 11 (ILG.p 1 (ILG.d (IL.v 5) (ILG.d (IL.call 8 (ILG.p 1 (ILG.d (IL.fr (ILF.lst (ILs.cons (IL.k (PyData.int (3))) (ILs.cons (IL.k (PyData.int (7))) (ILs.nil))))) (ILG.nil)))) (ILG.nil))))) (ILs.nil))))) (SLs.cons (SL.asg (Tg.nm 10) (TL.fz [] (IL.call 16 (ILG.d (IL.v 4) (ILG.d (IL.v 8) (ILG.nil)))))) (SLs.cons (SL.iff (IL.op (O2.ne) (IL.cb (B1.repr) (ILs.cons (IL.call 3 (ILG.d (IL.v 3) (ILG.d (IL.v 4) (ILG.d (IL.v 8) (ILG.nil))))) (ILs.nil))) (IL.cb (B1.repr) (ILs.cons (IL.cb (B1.tuple) (ILs.cons (IL.v 10) (ILs.nil))) (ILs.nil)))) (SLs.cons (SL.ret (TL.fz [] (IL.k (PyData.bool false)))) (SLs.nil)) (SLs.nil)) (SLs.cons (SL.asg (Tg.nm 11) (TL.fz [] (IL.call 4 (ILG.d (IL.v 3) (ILG.d (IL.v 4) (ILG.d (IL.v 8) (ILG.d (IL.v 9) (ILG.nil)))))))) (SLs.cons (SL.iff (IL.op (O2.ne) (IL.op (O2.isNot) (IL.v 11) (IL.k PyData.none)) (IL.op (O2.eq) (IL.fr (ILF.lc (ILI.seq (IL.v 9)) (Tg.nm 12) (ILO.some (IL.op (O2.notIn) (IL.v 12) (IL.v 10))) (IL.v 12) [12])) (IL.fr (ILF.lst (ILs.nil))))) (SLs.cons (SL.ret (TL.fz [] (IL.k (PyData.bool false)))) (SLs.nil)) (SLs.nil)) (SLs.cons (SL.iff (IL.op (O2.isNot) (IL.v 11) (IL.k PyData.none)) (SLs.cons (SL.iff (IL.not (IL.call 19 (ILG.d (IL.v 4) (ILG.d (IL.v 8) (ILG.d (IL.v 9) (ILG.d (IL.v 11) (ILG.nil))))))) (SLs.cons (SL.ret (TL.fz [] (IL.k (PyData.bool false)))) (SLs.nil)) (SLs.nil)) (SLs.nil)) (SLs.nil)) (SLs.nil))))))))) (SLs.cons (SL.iff (IL.op (O2.ne) (IL.cb (B1.repr) (ILs.cons (IL.tup (ILs.cons (IL.v 3) (ILs.cons (IL.v 4) (ILs.nil)))) (ILs.nil))) (IL.v 6)) (SLs.cons (SL.ret (TL.fz [] (IL.k (PyData.bool false)))) (SLs.nil)) (SLs.nil)) (SLs.nil))))))) (SLs.cons (SL.ret (TL.fz [] (IL.k (PyData.bool true)))) (SLs.nil)))
end Mn
namespace Mn
open PySem PySem.Spec PyProof.Rows L2
abbrev dInts (ns : List Int) : List PyData := ns.map PyData.int
section
variable {α : Type} {i j : Int} {xs : List PyData} {Q : PyData → Prop}
theorem items_l : itemsD (.list xs) = some xs := rfl
theorem items_t : itemsD (.tuple xs) = some xs := rfl
theorem g_add : gAdd (.int i) (.int j) = some (.int (i + j)) := rfl
theorem g_sub : gSub (.int i) (.int j) = some (.int (i - j)) := rfl
theorem g_lt : gLt (.int i) (.int j) = some (.bool (decide (i < j))) := rfl
theorem g_le : gLe (.int i) (.int j) = some (.bool (decide (i ≤ j))) := rfl
theorem g_gt : gGt (.int i) (.int j) = some (.bool (decide (i > j))) := rfl
theorem g_ge : gGe (.int i) (.int j) = some (.bool (decide (i ≥ j))) := rfl
theorem w_ib {c : Bool} {x : PyData} : W (if c = true then some x else none) Q ↔ c = true ∧ Q x := by
  rw [W_ite, W_some]
theorem g_mod : W (gMod (.int i) (.int j)) Q ↔ j ≠ 0 ∧ Q (.int (i.fmod j)) := by
  unfold gMod gInt
  rw [w_ib, decide_eq_true_eq]
theorem g_fdiv : W (gFdiv (.int i) (.int j)) Q ↔ (j ≠ 0 ∧ j.natAbs < 1073741824) ∧ Q (.int (i.fdiv j)) := by
  unfold gFdiv gInt
  rw [w_ib, decide_eq_true_eq]
theorem g_mul : W (gMul (.int i) (.int j)) Q ↔ mulOkB i j = true ∧ Q (.int (i * j)) := by
  show W (gMulI (.int i) (.int j)) Q ↔ _
  unfold gMulI gInt
  rw [w_ib]
theorem g_pow : W (gPow (.int i) (.int j)) Q ↔ powOkB i j = true ∧ Q (.int (i ^ j.toNat)) := by
  unfold gPow gInt
  rw [w_ib]
theorem g_lenL : gLen [.list xs] = some (.int xs.length) := rfl
theorem g_lenT : gLen [.tuple xs] = some (.int xs.length) := rfl
theorem g_int1 : gInt1 [.int i] = some (.int i) := rfl
theorem g_min : gMin2 [.int i, .int j] = some (.int (if j < i then j else i)) := rfl
theorem g_max : gMax2 [.int i, .int j] = some (.int (if j > i then j else i)) := rfl
theorem g_tupL : gTuple [.list xs] = some (.tuple xs) := rfl
theorem g_tupT : gTuple [.tuple xs] = some (.tuple xs) := rfl
theorem g_listL : gListF [.list xs] = some xs := rfl
theorem g_listT : gListF [.tuple xs] = some xs := rfl
theorem isa_ii : isaD (.int i) "int" = some true := by rfl
theorem isa_ib : isaD (.int i) "bool" = some false := by rfl
theorem isa_tt : isaD (.tuple xs) "tuple" = some true := by rfl
theorem g_ix20 {a b : PyData} : gIx (.tuple [a, b]) (.int 0) = some a := rfl
theorem g_ix21 {a b : PyData} : gIx (.tuple [a, b]) (.int 1) = some b := rfl
theorem g_ix30 {a b c : PyData} : gIx (.tuple [a, b, c]) (.int 0) = some a := rfl
theorem g_ix31 {a b c : PyData} : gIx (.tuple [a, b, c]) (.int 1) = some b := rfl
theorem g_ix32 {a b c : PyData} : gIx (.tuple [a, b, c]) (.int 2) = some c := rfl
theorem g_sortL {ns : List Int} : gSortF [.list (dInts ns)] = some (dInts (srtI ns)) := by
  unfold gSortF
  simp only [dInts, intsD_map]
theorem w_ssetL {ns : List Int} {Q : List PyData → Prop} : W (ssetD (.list (dInts ns))) Q ↔ ns.length < 64 ∧ Q (dInts (srtU ns)) := by
  unfold ssetD
  simp only [items_l, intsD_map]
  rw [W_ite, W_some]
theorem w_ssetT {ns : List Int} {Q : List PyData → Prop} : W (ssetD (.tuple (dInts ns))) Q ↔ ns.length < 64 ∧ Q (dInts (srtU ns)) := by
  unfold ssetD
  simp only [items_t, intsD_map]
  rw [W_ite, W_some]
theorem w_lsetT {ns : List Int} : W (lsetD (.tuple (dInts ns))) Q ↔ ns.length ≤ 4000 ∧ Q (.int ((srtU ns).length : Nat)) := by
  unfold lsetD
  rw [items_t, Option.bind_some, intsD_map, Option.bind_some, W_ite, W_some]
theorem one_ne_zero : ¬ ((1 : Int) = 0) := by decide
theorem mul_l (h1 : -(2 ^ 64) < i) (h2 : i < 2 ^ 64) : mulOkB i j = true := by
  unfold mulOkB
  exact decide_eq_true (.inl ⟨h1, h2⟩)
theorem mul_r (h1 : -(2 ^ 64) < j) (h2 : j < 2 ^ 64) : mulOkB i j = true := by
  unfold mulOkB
  exact decide_eq_true (.inr ⟨h1, h2⟩)
end
/-- a def's body as a function -/
def fnOf (np N W : Nat) (Φ : Nat → Fn) (sl : SLs) : Fn := fun args st => if args.length = np then runB (evB Φ W sl) N args st else none
theorem w_fnOf {np N k : Nat} {Φ : Nat → Fn} {sl : SLs} {args : List Arg} {st : Pn} {Q : PyData × Pn → Prop} (h : args.length = np) : W (fnOf np N k Φ sl args st) Q ↔ W (evB Φ k sl (startE N args) st) fun r => match r with
    | .rt d st1 => Q (d, st1)
    | .nx _ st1 => Q (.none, st1)
    | _ => False := by
  unfold fnOf runB
  rw [if_pos h]
  rcases evB Φ k sl (startE N args) st with _ | r
  · simp only [endOf, W_none]
  · cases r <;> simp only [endOf, W_some, W_none]
local macro_rules | `(tactic| walk_at "ev") => `(tactic| simp only [evB, evS, evTL, evTFL, evCL, evE, evEs, evF, evI, evC, evO, evG, O2.g, B1.g, F1.g,
  w_k, w_v, w_2, w_tup, w_fr, w_lst, w_nil, w_cons, w_not, w_neg, w_call, w_callF, w_isa, w_tyis, w_o0, w_o1, w_sl, w_sset, w_lset, w_lrg, w_pix, w_lenS, w_fn, w_gn, w_gd, w_gp, w_it, w_enum, w_rng1, w_lc, w_sc, w_fz, w_pop, w_scF, w_fzF,
  w_next, w_seq, w_ret, w_drop, w_asg, w_ifS, w_own, w_lcD, w_cmO, w_cmD, w_par, w_app, w_ext, w_pset, w_for, w_forR, W_some, W_none, W_ite,
  List.getElem?_cons_zero, List.getElem?_cons_succ, List.getElem?_nil, frzBy, frz1, List.contains_nil, List.contains_cons, asT, asTs, penD, penPut, List.set_cons_zero, List.set_cons_succ, wipeE,
  items_l, items_t, g_add, g_sub, g_mod, g_fdiv, g_mul, g_pow, g_lt, g_le, g_gt, g_ge, g_lenL, g_lenT, g_int1, g_min, g_max, g_tupL, g_tupT, g_listL, g_listT, isa_ii, isa_ib, isa_tt, g_ix20, g_ix21, g_ix30, g_ix31, g_ix32, g_sortL, w_ssetL, w_ssetT, w_lsetT, Bool.not_true, Bool.not_false, List.length_map, Option.bind_some, scalD, Bool.and_true, Bool.true_and, List.all_cons, List.all_nil,
  Option.some.injEq, Sl.d.injEq, Sl.own.injEq, Sl.scr.injEq, PyData.int.injEq, PyData.bool.injEq, PyData.list.injEq, PyData.tuple.injEq, exists_eq_left', exists_eq_left, exists_eq', exists_eq, exists_and_left, true_and, and_true, if_true, if_false, ite_true, ite_false,
  allS, Nat.reduceAdd, Nat.reduceBEq, Bool.or_false, Bool.or_true, Bool.false_or, Bool.true_or, Bool.false_eq_true, reduceIte, reduceCtorEq, List.length_cons, List.length_nil, Int.reduceEq, decide_eq_true_eq, decide_eq_false_iff_not, one_ne_zero, not_false_eq_true,
  startE, List.map_cons, List.map_nil, slOf, List.replicate_zero, List.replicate_succ, List.cons_append, List.nil_append, Nat.reduceSub, forall_const, false_implies, implies_true])
local macro_rules | `(tactic| walk_at "evb") => `(tactic| simp only [evB, evS, evTL, evTFL, evCL, evE, evEs, evF, evI, evC, evO, evG, O2.g, B1.g, F1.g,
  w_k, w_v, w_2, w_tup, w_fr, w_lst, w_nil, w_cons, w_and, w_or, w_not, w_neg, w_if, w_ch, w_call, w_callF, w_isa, w_tyis, w_o0, w_o1, w_sl, w_sset, w_lset, w_lrg, w_pix, w_lenS, w_fn, w_gn, w_gd, w_gp, w_it, w_enum, w_rng1, w_lc, w_sc, w_fz, w_pop, w_scF, w_fzF,
  w_next, w_seq, w_ret, w_drop, w_asg, w_ifS, w_own, w_lcD, w_cmO, w_cmD, w_par, w_app, w_ext, w_pset, w_for, w_forR, W_some, W_none, W_ite,
  List.getElem?_cons_zero, List.getElem?_cons_succ, List.getElem?_nil, frzBy, frz1, List.contains_nil, List.contains_cons, asT, asTs, penD, penPut, List.set_cons_zero, List.set_cons_succ, wipeE,
  items_l, items_t, g_add, g_sub, g_mod, g_fdiv, g_mul, g_pow, g_lt, g_le, g_gt, g_ge, g_lenL, g_lenT, g_int1, g_min, g_max, g_tupL, g_tupT, g_listL, g_listT, isa_ii, isa_ib, isa_tt, g_ix20, g_ix21, g_ix30, g_ix31, g_ix32, g_sortL, w_ssetL, w_ssetT, w_lsetT, Bool.not_true, Bool.not_false, List.length_map, Option.bind_some, scalD, Bool.and_true, Bool.true_and, List.all_cons, List.all_nil,
  Option.some.injEq, Sl.d.injEq, Sl.own.injEq, Sl.scr.injEq, PyData.int.injEq, PyData.bool.injEq, PyData.list.injEq, PyData.tuple.injEq, exists_eq_left', exists_eq_left, exists_eq', exists_eq, exists_and_left, true_and, and_true, if_true, if_false, ite_true, ite_false,
  allS, Nat.reduceAdd, Nat.reduceBEq, Bool.or_false, Bool.or_true, Bool.false_or, Bool.true_or, Bool.false_eq_true, reduceIte, reduceCtorEq, List.length_cons, List.length_nil, Int.reduceEq, decide_eq_true_eq, decide_eq_false_iff_not, one_ne_zero, not_false_eq_true,
  startE, List.map_cons, List.map_nil, slOf, List.replicate_zero, List.replicate_succ, List.cons_append, List.nil_append, Nat.reduceSub, forall_const, false_implies, implies_true])
/-! the pen -/
theorem ixN_ok {n : Nat} {i : Int} (h0 : 0 ≤ i) (h1 : i < n) : ixN n i = some i.toNat := by
  unfold ixN
  rw [if_pos h0, if_pos h1]
theorem g_ixL {xs : List PyData} {i : Int} {Q : PyData → Prop} (h0 : 0 ≤ i) (h1 : i < xs.length) (q : ∀ x, xs[i.toNat]? = some x → Q x) : W (gIx (.list xs) (.int i)) Q := by
  have hl : i.toNat < xs.length := by omega
  refine ⟨xs[i.toNat], ?_, q _ (List.getElem?_eq_getElem hl)⟩
  show atI xs i = _
  unfold atI
  rw [ixN_ok h0 h1]
  exact List.getElem?_eq_getElem hl
theorem g_ixT {xs : List PyData} {i : Int} {Q : PyData → Prop} (h0 : 0 ≤ i) (h1 : i < xs.length) (q : ∀ x, xs[i.toNat]? = some x → Q x) : W (gIx (.tuple xs) (.int i)) Q := g_ixL h0 h1 q
theorem lay_ints : ∀ ns : List Int, PyData.canLayAll0 (dInts ns) = true
  | [] => by simp [dInts, PyData.canLayAll0]
  | n :: ns => by
    have := lay_ints ns
    simp only [dInts, List.map_cons, PyData.canLayAll0, PyData.canLay0, Bool.true_and] at this ⊢
    exact this
theorem deep_ints : ∀ ns : List Int, PyData.depthAll (dInts ns) = 0
  | [] => by simp [dInts, PyData.depthAll]
  | n :: ns => by
    have := deep_ints ns
    simp only [dInts, List.map_cons, PyData.depthAll, PyData.depth, this]
    exact Nat.max_self 0
theorem shaped_l {ns : List Int} : SeqAt.shaped (.list (dInts ns)) = true := by
  unfold SeqAt.shaped
  rw [Bool.and_eq_true, decide_eq_true_eq, PyData.canLay0, PyData.depth, deep_ints]
  exact ⟨lay_ints ns, by omega⟩
theorem shaped_t {ns : List Int} : SeqAt.shaped (.tuple (dInts ns)) = true := by
  unfold SeqAt.shaped
  rw [Bool.and_eq_true, decide_eq_true_eq, PyData.canLay0, PyData.depth, deep_ints]
  exact ⟨lay_ints ns, by omega⟩
theorem eqv_ints : ∀ xs ys : List Int, PyData.eqvAll (dInts xs) (dInts ys) = decide (xs = ys)
  | [], [] => by simp [dInts, PyData.eqvAll]
  | [], y :: ys => by simp [dInts, PyData.eqvAll]
  | x :: xs, [] => by simp [dInts, PyData.eqvAll]
  | x :: xs, y :: ys => by
    have := eqv_ints xs ys
    simp only [dInts, List.map_cons, PyData.eqvAll, PyData.eqv] at this ⊢
    rw [this, Bool.eq_iff_iff]
    simp
theorem g_neL {xs ys : List Int} {Q : PyData → Prop} : W (gNe (.list (dInts xs)) (.list (dInts ys))) Q ↔ Q (.bool (!decide (xs = ys))) := by
  have e : gNe (.list (dInts xs)) (.list (dInts ys)) = some (.bool (!decide (xs = ys))) := by
    unfold gNe
    simp only [strs2, shaped_l, Bool.and_self, if_true, PyData.eqv, eqv_ints]
  rw [e, W_some]
theorem g_eqL {xs ys : List Int} {Q : PyData → Prop} : W (gEq (.list (dInts xs)) (.list (dInts ys))) Q ↔ Q (.bool (decide (xs = ys))) := by
  have e : gEq (.list (dInts xs)) (.list (dInts ys)) = some (.bool (decide (xs = ys))) := by
    unfold gEq
    simp only [strs2, nilT, shaped_l, Bool.and_self, if_true, PyData.eqv, eqv_ints]
  rw [e, W_some]
theorem g_neL0 {xs : List Int} {Q : PyData → Prop} : W (gNe (.list (dInts xs)) (.list [])) Q ↔ Q (.bool (!decide (xs = []))) := g_neL (ys := [])
theorem g_eqL0 {xs : List Int} {Q : PyData → Prop} : W (gEq (.list (dInts xs)) (.list [])) Q ↔ Q (.bool (decide (xs = []))) := g_eqL (ys := [])
def SpFresh (f : Fn) : Prop := ∀ st, W (f [.pen] st) fun r => ∃ k, r.1 = .int k
theorem fmod_lt {a b : Int} (h : 0 < b) : 0 ≤ a.fmod b ∧ a.fmod b < b := ⟨Int.fmod_nonneg_of_pos a h, Int.fmod_lt_of_pos a h⟩
theorem fresh_ok {Φ : Nat → Fn} {k : Nat} : SpFresh (fnOf 1 8 k Φ sl_law_fresh) := fun st => by
  refine (w_fnOf rfl).mpr ?_
  unfold sl_law_fresh
  walk_at "ev"
  refine W_mono (Q := fun p => ∃ c, p = (PyData.int c, { cells := st.cells, seat := st.seat + 1, rest := st.rest })) ?_ ?_
  · walk_at "evb"
    refine ⟨by decide, ?_⟩
    rw [g_neL0]
    refine ⟨_, rfl, fun h => ⟨?_, ?_⟩, fun h => ⟨0, rfl⟩⟩
    · intro z
      cases hc : st.cells with
      | nil => rw [hc] at h; revert h; simp
      | cons x xs => rw [hc] at z; revert z; simp; omega
    · have hp : (0 : Int) < (List.map PyData.int st.cells).length := by
        cases hc : st.cells with
        | nil => rw [hc] at h; revert h; simp
        | cons x xs => simp
      rw [List.length_map] at hp
      refine g_ixL (fmod_lt hp).1 (by rw [List.length_map]; exact (fmod_lt hp).2) fun x hx => ?_
      rw [List.getElem?_map] at hx
      obtain ⟨c, _, rfl⟩ := Option.map_eq_some_iff.mp hx
      exact ⟨c, rfl⟩
  · rintro _ ⟨c, rfl⟩
    walk_at "ev"
    refine W_mono (Q := fun p => ∃ b, p = (PyData.bool b, { cells := st.cells, seat := st.seat + 1, rest := st.rest })) ?_ ?_
    · walk_at "evb"
      exact ⟨fun _ => ⟨by decide, ⟨_, rfl⟩⟩, fun _ => ⟨_, rfl⟩⟩
    · rintro _ ⟨b, rfl⟩
      walk_at "ev"
      refine ⟨fun _ => by decide, fun _ => ?_⟩
      refine ⟨mul_r (by decide) (by decide), mul_l (by decide) (by decide), by decide, ⟨by decide, by decide⟩, ?_⟩
      refine loopI (I := fun ds Γ st1 => (∀ d ∈ ds, ∃ i : Int, d = .int i ∧ 0 ≤ i ∧ i < 6) ∧ ∃ (s f : Int) (l : Option Sl), 0 ≤ s ∧ s < 2305843009213693951 ∧ Γ = [some .pen, some (.d (.int st.seat)), some (.d (.list (dInts st.cells))), some (.d (.int c)), some (.d (.int 2305843009213693951)), some (.d (.int s)), some (.d (.int f)), l]) ?_ ?_ _ _ _ ⟨?_, _, _, none, ?_, ?_, rfl⟩
      · rintro d ds Γ st1 ⟨hd, s, f, l, h0, h1, rfl⟩
        obtain ⟨i, rfl, i0, i1⟩ := hd d (List.mem_cons_self ..)
        walk_at "ev"
        refine ⟨mul_l (by omega) (by omega), mul_l (by decide) (by decide), mul_l (by omega) (by omega), by decide, mul_r (by decide) (by decide), fun d h => hd d (List.mem_cons_of_mem _ h), ?_⟩
        exact ⟨_, (fmod_lt (b := 2305843009213693951) (by decide)).1, (fmod_lt (b := 2305843009213693951) (by decide)).2, _, _, rfl⟩
      · rintro Γ st1 ⟨_, s, f, l, h0, h1, rfl⟩
        walk_at "ev"
      · intro d hd
        unfold rngD at hd
        obtain ⟨i, hi, rfl⟩ := List.mem_map.mp hd
        have := List.mem_range.mp hi
        have h6 : Int.toNat 6 = 6 := rfl
        exact ⟨_, rfl, by omega, by omega⟩
      · exact (fmod_lt (b := 2305843009213693951) (by decide)).1
      · exact (fmod_lt (b := 2305843009213693951) (by decide)).2
def SpDraw (f : Fn) : Prop := ∀ b st, 0 < b → b < 2 ^ 30 → W (f [.pen, .d (.int b)] st) fun r => ∃ k, r.1 = .int k ∧ 0 ≤ k ∧ k < b
theorem draw_ok {Φ : Nat → Fn} {k : Nat} (h : SpFresh (Φ 6)) : SpDraw (fnOf 2 3 k Φ sl_law_draw) := fun b st hb hb2 => by
  refine (w_fnOf rfl).mpr ?_
  unfold sl_law_draw
  walk_at "ev"
  have h1 : b ≠ 0 := by omega
  have h2 : b.natAbs < 1073741824 := by omega
  exact ⟨fun _ => W_mono (h st) fun r ⟨z, hz⟩ => ⟨z, hz, h1, ⟨h1, h2⟩, (fmod_lt hb).1, (fmod_lt hb).2⟩, fun _ => ⟨h1, ⟨h1, h2⟩, (fmod_lt hb).1, (fmod_lt hb).2⟩⟩
def SpOne (f : Fn) : Prop := ∀ xs st, xs ≠ [] → xs.length < 2 ^ 30 → W (f [.pen, .d (.list xs)] st) fun r => r.1 ∈ xs
theorem one_ok {Φ : Nat → Fn} {k : Nat} (h : SpDraw (Φ 7)) : SpOne (fnOf 2 2 k Φ sl_law_one_of) := fun xs st h0 hl => by
  refine (w_fnOf rfl).mpr ?_
  unfold sl_law_one_of
  walk_at "ev"
  have hp : 0 < xs.length := List.length_pos_iff.mpr h0
  refine W_mono (h (xs.length : Nat) st (by omega) (by omega)) fun r ⟨z, hz, z0, z1⟩ => ?_
  rw [hz]
  exact g_ixL z0 z1 fun x hx => List.mem_of_getElem? hx
def SpWhole (f : Fn) : Prop := ∀ (i lo hi : Int) st, W (f [.d (.int i), .d (.int lo), .d (.int hi)] st) fun r => r = (.bool (decide (lo ≤ i ∧ i ≤ hi)), st)
theorem whole_ok {Φ : Nat → Fn} {k : Nat} : SpWhole (fnOf 3 3 k Φ sl_law_whole) := fun i lo hi st => by
  refine (w_fnOf rfl).mpr ?_
  unfold sl_law_whole
  walk_at "evb"
  refine ⟨fun h => ?_, fun h => ?_⟩
  · simp [h]
  · simp [h]
def dAts (as : List (List Int)) : List PyData := as.map fun a => .tuple (dInts a)
def SpVars (f : Fn) : Prop := ∀ (h : PyData) (as : List (List Int)) st, as.flatten.length < 64 → W (f [.d (.tuple [h, .tuple (dAts as)])] st) fun r => r = (.list (dInts (srtU as.flatten)), st)
theorem vars_ok {Φ : Nat → Fn} {k : Nat} : SpVars (fnOf 1 3 k Φ sl_law_variables) := fun h as st h1 => by
  refine (w_fnOf rfl).mpr ?_
  unfold sl_law_variables
  walk_at "ev"
  refine ⟨by decide, ?_⟩
  refine loopI (I := fun ds Γ st1 => ∃ done rest l, as = done ++ rest ∧ ds = dAts rest ∧ st1 = st ∧ Γ = [some (.d (.tuple [h, .tuple (dAts as)])), some (.own (dInts done.flatten)), l]) ?_ ?_ _ _ _ ⟨[], as, none, rfl, rfl, rfl, rfl⟩
  · rintro d ds Γ st1 ⟨done, rest, l, e1, e2, rfl, rfl⟩
    cases rest with
    | nil => cases e2
    | cons a rest =>
      obtain ⟨rfl, rfl⟩ := List.cons.inj e2
      have hl : as.flatten.length = done.flatten.length + (a.length + rest.flatten.length) := by rw [e1]; simp
      walk_at "ev"
      refine ⟨by rw [show LIM = 1000000 from rfl]; omega, done ++ [a], rest, by rw [e1]; simp, rfl, some (.d (.tuple (dInts a))), ?_⟩
      simp
  · rintro Γ st1 ⟨done, rest, l, e1, e2, rfl, rfl⟩
    have : rest = [] := by
      cases rest with
      | nil => rfl
      | cons a r => cases e2
    subst this
    rw [List.append_nil] at e1
    subst e1
    walk_at "ev"
    exact h1
theorem dInts_erase : ∀ (zs : List Int) (j : Nat), (dInts zs).eraseIdx j = dInts (zs.eraseIdx j)
  | [], _ => rfl
  | z :: zs, 0 => rfl
  | z :: zs, j + 1 => by
    have := dInts_erase zs j
    simp only [dInts, List.map_cons, List.eraseIdx_cons_succ] at this ⊢
    rw [this]
theorem dInts_get {zs : List Int} {j : Nat} (h : j < zs.length) : (dInts zs)[j]? = some (.int zs[j]) := by
  rw [List.getElem?_map, List.getElem?_eq_getElem h]
  rfl
theorem erase_perm : ∀ (zs : List Int) (j : Nat) (h : j < zs.length), (zs[j] :: zs.eraseIdx j).Perm zs
  | z :: zs, 0, _ => .refl _
  | z :: zs, j + 1, h => by
    have := erase_perm zs j (by simpa using h)
    simp only [List.getElem_cons_succ, List.eraseIdx_cons_succ]
    exact (List.Perm.swap _ _ _).trans (this.cons z)
/-- things are drawn out of a list, one by one -/
theorem popLoop {Φ : Nat → Fn} (h : SpDraw (Φ 7)) {d : PyData} {m : Int} {xs : List Int} (hl : xs.length ≤ 1000) {n : Nat} : ∀ (ds : List PyData) (ys zs : List Int) (l : Option Sl) (st : Pn), (ys ++ zs).Perm xs → ds.length ≤ zs.length → ys.length + ds.length = n →
    W (esLoop (.nm 5) (esSeq (esApp 4 (evPop 3 (evSc (evFn (Φ 7) (evGP 0 (evGD (evCall gLen (evCons (evV 3) evNil)) evGN)))))) esNext) ds [some .pen, some (.d d), some (.d (.int m)), some (.own (dInts zs)), some (.own (dInts ys)), l] st)
      fun r => ∃ ys zs l st1, r = .nx [some .pen, some (.d d), some (.d (.int m)), some (.own (dInts zs)), some (.own (dInts ys)), l] st1 ∧ (ys ++ zs).Perm xs ∧ ys.length = n := by
  intro ds ys zs l st hp hz hn
  refine loopI (I := fun ds Γ st1 => ∃ ys zs l, (ys ++ zs).Perm xs ∧ ds.length ≤ zs.length ∧ ys.length + ds.length = n ∧ Γ = [some .pen, some (.d d), some (.d (.int m)), some (.own (dInts zs)), some (.own (dInts ys)), l]) ?_ ?_ _ _ _ ⟨ys, zs, l, hp, hz, hn, rfl⟩
  · rintro x ds Γ st1 ⟨ys, zs, l, hp, hz, hn, rfl⟩
    rw [List.length_cons] at hz hn
    have hxl := hp.length_eq
    rw [List.length_append] at hxl
    walk_at "ev"
    refine W_mono (h zs.length st1 (by omega) (by omega)) fun r ⟨z, hz1, z0, z1⟩ => ?_
    rw [hz1]
    walk_at "ev"
    have hj : z.toNat < zs.length := by omega
    refine ⟨by rw [show LIM = 1000000 from rfl]; omega, ?_⟩
    rw [ixN_ok z0 z1, W_some, dInts_get hj, W_some]
    refine ⟨by rw [show LIM = 1000000 from rfl]; omega, ys ++ [zs[z.toNat]], zs.eraseIdx z.toNat, ?_, ?_, ?_, some (.d x), ?_⟩
    · rw [List.append_assoc]
      exact ((erase_perm zs _ hj).append_left ys).trans hp
    · rw [List.length_eraseIdx, if_pos hj]; omega
    · rw [List.length_append, List.length_singleton]; omega
    · rw [dInts_erase]; simp
  · rintro Γ st1 ⟨ys, zs, l, hp, hz, hn, rfl⟩
    exact ⟨ys, zs, l, st1, rfl, hp, hn⟩
theorem rng_len {j : Int} : (rngD 0 j.toNat).length = j.toNat := by
  unfold rngD
  rw [List.length_map, List.length_range]
def SpSome (f : Fn) : Prop := ∀ (d : PyData) (xs : List Int) (m : Int) st, itemsD d = some (dInts xs) → xs.length ≤ 1000 → 0 ≤ m → m ≤ 1000 → W (f [.pen, .d d, .d (.int m)] st) fun r => ∃ ys zs, r.1 = .list (dInts ys) ∧ (ys ++ zs).Perm xs
theorem some_ok {Φ : Nat → Fn} {k : Nat} (h : SpDraw (Φ 7)) : SpSome (fnOf 3 6 k Φ sl_law_some_of) := fun d xs m st hd hl h0 h1 => by
  refine (w_fnOf rfl).mpr ?_
  unfold sl_law_some_of
  walk_at "ev"
  have e : gListF [d] = some (dInts xs) := hd
  rw [e]
  walk_at "ev"
  refine ⟨by decide, W_mono (h (m + 1) st (by omega) (by omega)) fun r ⟨z, hz1, z0, z1⟩ => ?_⟩
  rw [hz1]
  walk_at "ev"
  refine ⟨by split <;> omega, ?_⟩
  refine W_mono (popLoop h hl (n := _) _ [] xs none r.2 (by rw [List.nil_append]) (by rw [rng_len]; split <;> omega) rfl) ?_
  rintro _ ⟨ys, zs, l, st1, rfl, hp, hn⟩
  walk_at "ev"
  exact ⟨ys, rfl, zs, hp⟩
def SpAtom (f : Fn) : Prop := ∀ (d : PyData) (xs : List Int) (m : Int) st, itemsD d = some (dInts xs) → xs ≠ [] → xs.length ≤ 1000 → 0 < m → m ≤ 1000 → W (f [.pen, .d d, .d (.int m)] st) fun r => ∃ ys zs, r.1 = .tuple (dInts ys) ∧ (ys ++ zs).Perm xs ∧ ys ≠ [] ∧ (ys.length : Int) ≤ m
theorem atom_ok {Φ : Nat → Fn} {k : Nat} (h : SpDraw (Φ 7)) : SpAtom (fnOf 3 6 k Φ sl_law_atom) := fun d xs m st hd hx hl h0 h1 => by
  refine (w_fnOf rfl).mpr ?_
  unfold sl_law_atom
  walk_at "ev"
  have e : gListF [d] = some (dInts xs) := hd
  rw [e]
  walk_at "ev"
  have hx' := List.length_pos_iff.mpr hx
  refine ⟨by decide, W_mono (h m st (by omega) (by omega)) fun r ⟨z, hz1, z0, z1⟩ => ?_⟩
  rw [hz1]
  walk_at "ev"
  refine ⟨by split <;> omega, ?_⟩
  refine W_mono (popLoop h hl (n := _) _ [] xs none r.2 (by rw [List.nil_append]) (by rw [rng_len]; split <;> omega) rfl) ?_
  rintro _ ⟨ys, zs, l, st1, rfl, hp, hn⟩
  rw [rng_len] at hn
  walk_at "ev"
  refine ⟨ys, rfl, zs, hp, ?_, ?_⟩
  · rintro rfl
    simp only [List.length_nil] at hn
    split at hn <;> omega
  · simp only [List.length_nil] at hn
    split at hn <;> omega
end Mn
namespace Mn
open PySem PySem.Spec PyProof.Rows L2
local macro_rules | `(tactic| walk_at "ev") => `(tactic| simp only [evB, evS, evTL, evTFL, evCL, evE, evEs, evF, evI, evC, evO, evG, O2.g, B1.g, F1.g,
  w_k, w_v, w_2, w_tup, w_fr, w_lst, w_nil, w_cons, w_not, w_neg, w_call, w_callF, w_isa, w_tyis, w_o0, w_o1, w_sl, w_sset, w_lset, w_lrg, w_pix, w_lenS, w_fn, w_gn, w_gd, w_gp, w_it, w_enum, w_rng1, w_lc, w_sc, w_fz, w_pop, w_scF, w_fzF,
  w_next, w_seq, w_ret, w_drop, w_asg, w_ifS, w_own, w_lcD, w_cmO, w_cmD, w_par, w_app, w_ext, w_pset, w_for, w_forR, W_some, W_none, W_ite,
  List.getElem?_cons_zero, List.getElem?_cons_succ, List.getElem?_nil, frzBy, frz1, List.contains_nil, List.contains_cons, asT, asTs, penD, penPut, List.set_cons_zero, List.set_cons_succ, wipeE,
  items_l, items_t, g_add, g_sub, g_mod, g_fdiv, g_mul, g_pow, g_lt, g_le, g_gt, g_ge, g_lenL, g_lenT, g_int1, g_min, g_max, g_tupL, g_tupT, g_listL, g_listT, isa_ii, isa_ib, isa_tt, g_ix20, g_ix21, g_ix30, g_ix31, g_ix32, g_sortL, w_ssetL, w_ssetT, w_lsetT, Bool.not_true, Bool.not_false, List.length_map, Option.bind_some, scalD, Bool.and_true, Bool.true_and, List.all_cons, List.all_nil,
  Option.some.injEq, Sl.d.injEq, Sl.own.injEq, Sl.scr.injEq, PyData.int.injEq, PyData.bool.injEq, PyData.list.injEq, PyData.tuple.injEq, exists_eq_left', exists_eq_left, exists_eq', exists_eq, exists_and_left, true_and, and_true, if_true, if_false, ite_true, ite_false,
  allS, Nat.reduceAdd, Nat.reduceBEq, Bool.or_false, Bool.or_true, Bool.false_or, Bool.true_or, Bool.false_eq_true, reduceIte, reduceCtorEq, List.length_cons, List.length_nil, Int.reduceEq, decide_eq_true_eq, decide_eq_false_iff_not, one_ne_zero, not_false_eq_true,
  startE, List.map_cons, List.map_nil, slOf, List.replicate_zero, List.replicate_succ, List.cons_append, List.nil_append, Nat.reduceSub, forall_const, false_implies, implies_true])
local macro_rules | `(tactic| walk_at "evb") => `(tactic| simp only [evB, evS, evTL, evTFL, evCL, evE, evEs, evF, evI, evC, evO, evG, O2.g, B1.g, F1.g,
  w_k, w_v, w_2, w_tup, w_fr, w_lst, w_nil, w_cons, w_and, w_or, w_not, w_neg, w_if, w_ch, w_call, w_callF, w_isa, w_tyis, w_o0, w_o1, w_sl, w_sset, w_lset, w_lrg, w_pix, w_lenS, w_fn, w_gn, w_gd, w_gp, w_it, w_enum, w_rng1, w_lc, w_sc, w_fz, w_pop, w_scF, w_fzF,
  w_next, w_seq, w_ret, w_drop, w_asg, w_ifS, w_own, w_lcD, w_cmO, w_cmD, w_par, w_app, w_ext, w_pset, w_for, w_forR, W_some, W_none, W_ite,
  List.getElem?_cons_zero, List.getElem?_cons_succ, List.getElem?_nil, frzBy, frz1, List.contains_nil, List.contains_cons, asT, asTs, penD, penPut, List.set_cons_zero, List.set_cons_succ, wipeE,
  items_l, items_t, g_add, g_sub, g_mod, g_fdiv, g_mul, g_pow, g_lt, g_le, g_gt, g_ge, g_lenL, g_lenT, g_int1, g_min, g_max, g_tupL, g_tupT, g_listL, g_listT, isa_ii, isa_ib, isa_tt, g_ix20, g_ix21, g_ix30, g_ix31, g_ix32, g_sortL, w_ssetL, w_ssetT, w_lsetT, Bool.not_true, Bool.not_false, List.length_map, Option.bind_some, scalD, Bool.and_true, Bool.true_and, List.all_cons, List.all_nil,
  Option.some.injEq, Sl.d.injEq, Sl.own.injEq, Sl.scr.injEq, PyData.int.injEq, PyData.bool.injEq, PyData.list.injEq, PyData.tuple.injEq, exists_eq_left', exists_eq_left, exists_eq', exists_eq, exists_and_left, true_and, and_true, if_true, if_false, ite_true, ite_false,
  allS, Nat.reduceAdd, Nat.reduceBEq, Bool.or_false, Bool.or_true, Bool.false_or, Bool.true_or, Bool.false_eq_true, reduceIte, reduceCtorEq, List.length_cons, List.length_nil, Int.reduceEq, decide_eq_true_eq, decide_eq_false_iff_not, one_ne_zero, not_false_eq_true,
  startE, List.map_cons, List.map_nil, slOf, List.replicate_zero, List.replicate_succ, List.cons_append, List.nil_append, Nat.reduceSub, forall_const, false_implies, implies_true])
/-! queries and rules -/
def Sm (ns : List Int) : Prop := ∀ x ∈ ns, 0 ≤ x ∧ x < 7
theorem asc_len : ∀ (xs : List Int) (lo : Int), xs.Pairwise (· < ·) → (∀ x ∈ xs, lo ≤ x ∧ x < 7) → (xs.length : Int) ≤ max 0 (7 - lo)
  | [], lo, _, _ => by simp only [List.length_nil]; omega
  | x :: xs, lo, h, hb => by
    have h1 := hb x (List.mem_cons_self ..)
    have := asc_len xs (x + 1) (List.pairwise_cons.mp h).2 fun y hy => by
      have := (List.pairwise_cons.mp h).1 y hy
      have := hb y (List.mem_cons_of_mem _ hy)
      omega
    rw [List.length_cons]
    omega
theorem sm_len {xs : List Int} (h : xs.Pairwise (· < ·)) (hs : Sm xs) : xs.length ≤ 7 := by
  have := asc_len xs 0 h hs
  omega
theorem sm_srtU {xs : List Int} (h : Sm xs) : Sm (srtU xs) := fun x hx => h x ((srtU_mem x xs).mp hx)
structure AtOk (w : Int) (a : List Int) : Prop where
  ne : a ≠ []
  len : (a.length : Int) ≤ w
  nd : a.Nodup
  sm : Sm a
structure QOk (m w : Int) (hd : List Int) (as : List (List Int)) : Prop where
  ne : as ≠ []
  len : (as.length : Int) ≤ m
  at_ : ∀ a ∈ as, AtOk w a
  asc : hd.Pairwise (· < ·)
  sub : ∀ x ∈ hd, x ∈ as.flatten
def dQ (hd : List Int) (as : List (List Int)) : PyData := .tuple [.tuple (dInts hd), .tuple (dAts as)]
theorem rngD_ints {j : Int} : rngD 0 j.toNat = dInts ((List.range j.toNat).map fun i : Nat => (i : Int)) := by
  unfold rngD dInts
  rw [List.map_map]
  refine List.map_congr_left fun i _ => ?_
  show PyData.int (0 + (i : Int)) = PyData.int (i : Int)
  rw [Int.zero_add]
theorem flat_len {w : Int} : ∀ {as : List (List Int)}, (∀ a ∈ as, (a.length : Int) ≤ w) → (as.flatten.length : Int) ≤ w * as.length
  | [], _ => by simp
  | a :: as, h => by
    have h1 := h a (List.mem_cons_self ..)
    have h2 := flat_len (as := as) fun b hb => h b (List.mem_cons_of_mem _ hb)
    rw [List.flatten_cons, List.length_append, List.length_cons]
    have e : w * ((as.length + 1 : Nat) : Int) = w * as.length + w := by rw [Int.natCast_add, Int.mul_add]; simp
    rw [e]
    omega
theorem at_lift {P : List Int → Prop} : ∀ {xs : List PyData}, (∀ x ∈ xs, ∃ a, x = .tuple (dInts a) ∧ P a) → ∃ as, xs = dAts as ∧ ∀ a ∈ as, P a
  | [], _ => ⟨[], rfl, fun a h => nomatch h⟩
  | x :: xs, h => by
    obtain ⟨a, rfl, p⟩ := h x (List.mem_cons_self ..)
    obtain ⟨as, rfl, q⟩ := at_lift fun y hy => h y (List.mem_cons_of_mem _ hy)
    refine ⟨a :: as, rfl, fun b hb => ?_⟩
    rcases List.mem_cons.mp hb with rfl | hb
    · exact p
    · exact q b hb
theorem srtI_asc {ys : List Int} (h : ys.Nodup) : (srtI ys).Pairwise (· < ·) := by
  have h1 := srtI_sorted ys
  have h2 : (srtI ys).Nodup := (srtI_perm ys).nodup_iff.mpr h
  exact (h1.and h2).imp fun {a b} ⟨p, q⟩ => by omega
def SpQuery (f : Fn) : Prop := ∀ (m n w : Int) st, 0 < m → m ≤ 8 → 0 < n → n ≤ 7 → 0 < w → w ≤ 7 → W (f [.pen, .d (.int m), .d (.int n), .d (.int w)] st) fun r => ∃ hd as, r.1 = dQ hd as ∧ QOk m w hd as
theorem query_ok {Φ : Nat → Fn} {k : Nat} (h7 : SpDraw (Φ 7)) (h12 : SpAtom (Φ 12)) (h10 : SpVars (Φ 10)) (h11 : SpSome (Φ 11)) : SpQuery (fnOf 4 8 k Φ sl_law_query) := fun m n w st m0 m1 n0 n1 w0 w1 => by
  refine (w_fnOf rfl).mpr ?_
  unfold sl_law_query
  walk_at "ev"
  refine W_mono (h7 n st n0 (by omega)) fun r ⟨z, hz1, z0, z1⟩ => ?_
  rw [hz1]
  walk_at "ev"
  refine ⟨⟨by omega, by rw [show LIM = 1000000 from rfl]; omega⟩, W_mono (h7 m r.2 m0 (by omega)) fun r2 ⟨z2, hz2, z20, z21⟩ => ?_⟩
  rw [hz2]
  walk_at "ev"
  refine ⟨by omega, by rw [rng_len, show LIM = 1000000 from rfl]; omega, ?_⟩
  refine W_mono (lcPen (P := fun y => ∃ a, y = .tuple (dInts a) ∧ AtOk w a) _ _ fun d _ st1 => ?_) ?_
  · walk_at "ev"
    rw [rngD_ints]
    refine W_mono (h12 _ _ w st1 items_l ?_ ?_ w0 (by omega)) ?_
    · intro e
      have := congrArg List.length e
      simp only [List.length_map, List.length_range, List.length_nil] at this
      omega
    · rw [List.length_map, List.length_range]; omega
    · rintro r3 ⟨ys, zs, e, hp, hne, hlen⟩
      have nd : (List.map (fun i : Nat => (i : Int)) (List.range (1 + z).toNat)).Nodup := by
        refine List.Pairwise.map _ (fun a b hab => ?_) List.nodup_range
        exact fun e => hab (Int.ofNat.inj e)
      refine ⟨ys, e, hne, hlen, (List.nodup_append.mp (hp.nodup_iff.mpr nd)).1, fun x hx => ?_⟩
      have hx2 := hp.mem_iff.mp (List.mem_append_left _ hx)
      obtain ⟨i, hi, rfl⟩ := List.mem_map.mp hx2
      have := List.mem_range.mp hi
      omega
  · rintro ⟨xs, st3⟩ ⟨hlen, hall⟩
    rw [rng_len] at hlen
    obtain ⟨as, e, hat⟩ := at_lift hall
    have e : xs = dAts as := e
    subst e
    simp only [dAts, List.length_map] at hlen
    have hfl := flat_len fun a ha => (hat a ha).len
    have hfl2 : (as.flatten.length : Int) < 64 := by
      have : w * as.length ≤ 7 * 8 := by
        have a1 : (as.length : Int) ≤ 8 := by omega
        calc w * as.length ≤ 7 * as.length := Int.mul_le_mul_of_nonneg_right w1 (by omega)
          _ ≤ 7 * 8 := by omega
      omega
    walk_at "ev"
    refine ⟨by decide, by decide, W_mono (h10 (.tuple []) as st3 (by omega)) ?_⟩
    rintro _ rfl
    walk_at "ev"
    have hsm : Sm as.flatten := fun x hx => by
      obtain ⟨a, ha, hxa⟩ := List.mem_flatten.mp hx
      exact (hat a ha).sm x hxa
    have h7' := sm_len (srtU_sorted as.flatten) (sm_srtU hsm)
    refine W_mono (h11 _ (srtU as.flatten) _ st3 items_l (by omega) (by omega) (by omega)) ?_
    rintro ⟨d5, st5⟩ ⟨ys, zs, e, hp⟩
    have e : d5 = .list (dInts ys) := e
    subst e
    walk_at "ev"
    refine ⟨by decide, srtI ys, as, rfl, ?_⟩
    have nd : (srtU as.flatten).Nodup := nodup_of_lt (srtU_sorted _)
    have ndy : ys.Nodup := (List.nodup_append.mp (hp.nodup_iff.mpr nd)).1
    refine ⟨fun e => ?_, by omega, hat, srtI_asc ndy, fun x hx => ?_⟩
    · subst e
      simp only [List.length_nil] at hlen
      omega
    · exact (srtU_mem x _).mp (hp.mem_iff.mp (List.mem_append_left _ ((srtI_perm ys).mem_iff.mp hx)))
end Mn
namespace Mn
open PySem PySem.Spec PyProof.Rows L2
local macro_rules | `(tactic| walk_at "ev") => `(tactic| simp only [evB, evS, evTL, evTFL, evCL, evE, evEs, evF, evI, evC, evO, evG, O2.g, B1.g, F1.g,
  w_k, w_v, w_2, w_tup, w_fr, w_lst, w_nil, w_cons, w_not, w_neg, w_call, w_callF, w_isa, w_tyis, w_o0, w_o1, w_sl, w_sset, w_lset, w_lrg, w_pix, w_lenS, w_fn, w_gn, w_gd, w_gp, w_it, w_enum, w_rng1, w_lc, w_sc, w_fz, w_pop, w_scF, w_fzF,
  w_next, w_seq, w_ret, w_drop, w_asg, w_ifS, w_own, w_lcD, w_cmO, w_cmD, w_par, w_app, w_ext, w_pset, w_for, w_forR, W_some, W_none, W_ite,
  List.getElem?_cons_zero, List.getElem?_cons_succ, List.getElem?_nil, frzBy, frz1, List.contains_nil, List.contains_cons, asT, asTs, penD, penPut, List.set_cons_zero, List.set_cons_succ, wipeE,
  items_l, items_t, g_add, g_sub, g_mod, g_fdiv, g_mul, g_pow, g_lt, g_le, g_gt, g_ge, g_lenL, g_lenT, g_int1, g_min, g_max, g_tupL, g_tupT, g_listL, g_listT, isa_ii, isa_ib, isa_tt, g_ix20, g_ix21, g_ix30, g_ix31, g_ix32, g_sortL, w_ssetL, w_ssetT, w_lsetT, Bool.not_true, Bool.not_false, List.length_map, Option.bind_some, scalD, Bool.and_true, Bool.true_and, List.all_cons, List.all_nil,
  Option.some.injEq, Sl.d.injEq, Sl.own.injEq, Sl.scr.injEq, PyData.int.injEq, PyData.bool.injEq, PyData.list.injEq, PyData.tuple.injEq, exists_eq_left', exists_eq_left, exists_eq', exists_eq, exists_and_left, true_and, and_true, if_true, if_false, ite_true, ite_false,
  allS, Nat.reduceAdd, Nat.reduceBEq, Bool.or_false, Bool.or_true, Bool.false_or, Bool.true_or, Bool.false_eq_true, reduceIte, reduceCtorEq, List.length_cons, List.length_nil, Int.reduceEq, decide_eq_true_eq, decide_eq_false_iff_not, one_ne_zero, not_false_eq_true,
  startE, List.map_cons, List.map_nil, slOf, List.replicate_zero, List.replicate_succ, List.cons_append, List.nil_append, Nat.reduceSub, forall_const, false_implies, implies_true])
local macro_rules | `(tactic| walk_at "evb") => `(tactic| simp only [evB, evS, evTL, evTFL, evCL, evE, evEs, evF, evI, evC, evO, evG, O2.g, B1.g, F1.g,
  w_k, w_v, w_2, w_tup, w_fr, w_lst, w_nil, w_cons, w_and, w_or, w_not, w_neg, w_if, w_ch, w_call, w_callF, w_isa, w_tyis, w_o0, w_o1, w_sl, w_sset, w_lset, w_lrg, w_pix, w_lenS, w_fn, w_gn, w_gd, w_gp, w_it, w_enum, w_rng1, w_lc, w_sc, w_fz, w_pop, w_scF, w_fzF,
  w_next, w_seq, w_ret, w_drop, w_asg, w_ifS, w_own, w_lcD, w_cmO, w_cmD, w_par, w_app, w_ext, w_pset, w_for, w_forR, W_some, W_none, W_ite,
  List.getElem?_cons_zero, List.getElem?_cons_succ, List.getElem?_nil, frzBy, frz1, List.contains_nil, List.contains_cons, asT, asTs, penD, penPut, List.set_cons_zero, List.set_cons_succ, wipeE,
  items_l, items_t, g_add, g_sub, g_mod, g_fdiv, g_mul, g_pow, g_lt, g_le, g_gt, g_ge, g_lenL, g_lenT, g_int1, g_min, g_max, g_tupL, g_tupT, g_listL, g_listT, isa_ii, isa_ib, isa_tt, g_ix20, g_ix21, g_ix30, g_ix31, g_ix32, g_sortL, w_ssetL, w_ssetT, w_lsetT, Bool.not_true, Bool.not_false, List.length_map, Option.bind_some, scalD, Bool.and_true, Bool.true_and, List.all_cons, List.all_nil,
  Option.some.injEq, Sl.d.injEq, Sl.own.injEq, Sl.scr.injEq, PyData.int.injEq, PyData.bool.injEq, PyData.list.injEq, PyData.tuple.injEq, exists_eq_left', exists_eq_left, exists_eq', exists_eq, exists_and_left, true_and, and_true, if_true, if_false, ite_true, ite_false,
  allS, Nat.reduceAdd, Nat.reduceBEq, Bool.or_false, Bool.or_true, Bool.false_or, Bool.true_or, Bool.false_eq_true, reduceIte, reduceCtorEq, List.length_cons, List.length_nil, Int.reduceEq, decide_eq_true_eq, decide_eq_false_iff_not, one_ne_zero, not_false_eq_true,
  startE, List.map_cons, List.map_nil, slOf, List.replicate_zero, List.replicate_succ, List.cons_append, List.nil_append, Nat.reduceSub, forall_const, false_implies, implies_true])
/-! rules -/
structure Rl where
  t : Int
  xs : List Int
  y : Int
def dR (r : Rl) : PyData := .tuple [.int r.t, .tuple (dInts r.xs), .int r.y]
def dRs (rs : List Rl) : PyData := .tuple (rs.map dR)
structure ROk (as : List (List Int)) (r : Rl) : Prop where
  t0 : 0 ≤ r.t
  at_ : ∃ a, as[r.t.toNat]? = some a ∧ r.y ∈ a ∧ ∀ x ∈ r.xs, x ∈ a
  no : r.y ∉ r.xs
  asc : r.xs.Pairwise (· < ·)
theorem ROk.mem {as : List (List Int)} {r : Rl} (h : ROk as r) : r.y ∈ as.flatten ∧ ∀ x ∈ r.xs, x ∈ as.flatten := by
  obtain ⟨a, ha, h1, h2⟩ := h.at_
  have := List.mem_of_getElem? ha
  exact ⟨List.mem_flatten.mpr ⟨a, this, h1⟩, fun x hx => List.mem_flatten.mpr ⟨a, this, h2 x hx⟩⟩
theorem QOk.sm {m w : Int} {hd : List Int} {as : List (List Int)} (q : QOk m w hd as) : Sm as.flatten := fun x hx => by
  obtain ⟨a, ha, hxa⟩ := List.mem_flatten.mp hx
  exact (q.at_ a ha).sm x hxa
theorem QOk.hd7 {m w : Int} {hd : List Int} {as : List (List Int)} (q : QOk m w hd as) : hd.length ≤ 7 := sm_len q.asc fun x hx => q.sm x (q.sub x hx)
theorem ROk.len {m w : Int} {hd : List Int} {as : List (List Int)} (q : QOk m w hd as) {r : Rl} (h : ROk as r) : r.xs.length ≤ 7 := sm_len h.asc fun x hx => q.sm x (h.mem.2 x hx)
def SpRule (f : Fn) : Prop := ∀ (m w : Int) hd as st, QOk m w hd as → m ≤ 8 → w ≤ 7 → W (f [.pen, .d (dQ hd as)] st) fun r => ∃ ru, r.1 = dR ru ∧ ROk as ru
theorem rule_ok {Φ : Nat → Fn} {k : Nat} (h7 : SpDraw (Φ 7)) (h11 : SpSome (Φ 11)) : SpRule (fnOf 2 5 k Φ sl_law_rule) := fun m w hd as st q m1 w1 => by
  refine (w_fnOf rfl).mpr ?_
  unfold sl_law_rule dQ
  have hne := List.length_pos_iff.mpr q.ne
  have hlen := q.len
  walk_at "ev"
  have e0 : (dAts as).length = as.length := List.length_map ..
  rw [e0]
  refine W_mono (h7 as.length st (by omega) (by omega)) fun r ⟨z, hz1, z0, z1⟩ => ?_
  rw [hz1]
  refine g_ixT z0 (by rw [e0]; exact z1) fun x hx => ?_
  unfold dAts at hx
  rw [List.getElem?_map] at hx
  obtain ⟨a, ha, rfl⟩ := Option.map_eq_some_iff.mp hx
  have hat := q.at_ a (List.mem_of_getElem? ha)
  have ha0 := List.length_pos_iff.mpr hat.ne
  have hal := hat.len
  walk_at "ev"
  refine W_mono (h7 a.length r.2 (by omega) (by omega)) fun r2 ⟨z2, hz2, z20, z21⟩ => ?_
  rw [hz2]
  have hj : z2.toNat < a.length := by omega
  walk_at "ev"
  refine ⟨by rw [show LIM = 1000000 from rfl]; omega, ?_⟩
  rw [ixN_ok z20 z21, W_some, dInts_get hj, W_some]
  rw [dInts_erase]
  have hp := erase_perm a z2.toNat hj
  have hle : (a.eraseIdx z2.toNat).length ≤ a.length := by rw [List.length_eraseIdx, if_pos hj]; omega
  refine W_mono (h11 _ (a.eraseIdx z2.toNat) 3 r2.2 items_l (by omega) (by omega) (by omega)) ?_
  rintro ⟨d5, st5⟩ ⟨ys, zs, e, hq⟩
  have e : d5 = .list (dInts ys) := e
  subst e
  walk_at "ev"
  refine ⟨by decide, ⟨z, srtI ys, a[z2.toNat]⟩, rfl, z0, ⟨a, ha, List.getElem_mem _, fun x hx => ?_⟩, fun hy => ?_, ?_⟩
  · have := hq.mem_iff.mp (List.mem_append_left _ ((srtI_perm ys).mem_iff.mp hx))
    exact hp.mem_iff.mp (List.mem_cons_of_mem _ this)
  · have := hq.mem_iff.mp (List.mem_append_left _ ((srtI_perm ys).mem_iff.mp hy))
    exact (List.nodup_cons.mp (hp.nodup_iff.mpr hat.nd)).1 this
  · have nd2 := (List.nodup_cons.mp (hp.nodup_iff.mpr hat.nd)).2
    exact srtI_asc (List.nodup_append.mp (hq.nodup_iff.mpr nd2)).1
theorem r_lift {P : Rl → Prop} : ∀ {xs : List PyData}, (∀ x ∈ xs, ∃ a, x = dR a ∧ P a) → ∃ as : List Rl, xs = as.map dR ∧ ∀ a ∈ as, P a
  | [], _ => ⟨[], rfl, fun a h => nomatch h⟩
  | x :: xs, h => by
    obtain ⟨a, rfl, p⟩ := h x (List.mem_cons_self ..)
    obtain ⟨as, rfl, q⟩ := r_lift fun y hy => h y (List.mem_cons_of_mem _ hy)
    refine ⟨a :: as, rfl, fun b hb => ?_⟩
    rcases List.mem_cons.mp hb with rfl | hb
    · exact p
    · exact q b hb
def SpRules (f : Fn) : Prop := ∀ (m w : Int) hd as st, QOk m w hd as → m ≤ 8 → w ≤ 7 → W (f [.pen, .d (dQ hd as)] st) fun r => ∃ rs, r.1 = dRs rs ∧ rs.length ≤ 6 ∧ ∀ ru ∈ rs, ROk as ru
theorem rules_ok {Φ : Nat → Fn} {k : Nat} (h7 : SpDraw (Φ 7)) (h8 : SpOne (Φ 8)) (h14 : SpRule (Φ 14)) : SpRules (fnOf 2 3 k Φ sl_law_rules) := fun m w hd as st q m1 w1 => by
  refine (w_fnOf rfl).mpr ?_
  unfold sl_law_rules
  walk_at "ev"
  refine W_mono (h7 7 st (by omega) (by omega)) fun r ⟨z, hz1, z0, z1⟩ => ?_
  rw [hz1]
  refine ⟨by decide, W_mono (h8 _ r.2 (by simp) (by simp only [List.length_cons, List.length_nil]; omega)) fun r2 hr2 => ?_⟩
  have hj : ∃ j : Int, r2.1 = .int j ∧ 0 ≤ j ∧ j < 7 := by
    simp only [List.mem_cons, List.not_mem_nil, or_false] at hr2
    rcases hr2 with e | e | e | e | e
    · exact ⟨0, e, by omega, by omega⟩
    · exact ⟨0, e, by omega, by omega⟩
    · exact ⟨1, e, by omega, by omega⟩
    · exact ⟨2, e, by omega, by omega⟩
    · exact ⟨z, e, z0, z1⟩
  obtain ⟨j, ej, j0, j1⟩ := hj
  rw [ej]
  walk_at "ev"
  refine ⟨by omega, by rw [rng_len, show LIM = 1000000 from rfl]; omega, ?_⟩
  refine W_mono (lcPen (P := fun y => ∃ a, y = dR a ∧ ROk as a) _ _ fun d _ st1 => ?_) ?_
  · walk_at "ev"
    exact h14 m w hd as st1 q m1 w1
  · rintro ⟨xs, st3⟩ ⟨hl, hall⟩
    rw [rng_len] at hl
    obtain ⟨rs, e, hat⟩ := r_lift hall
    have e : xs = rs.map dR := e
    subst e
    refine ⟨rs, rfl, ?_, hat⟩
    simp only [List.length_map] at hl
    omega
/-! closures -/
def fires (F : List Int) (r : Rl) : Bool := decide (r.y ∉ F) && r.xs.all fun x => decide (x ∈ F)
def step1 (F : List Int) (r : Rl) : List Int := if fires F r = true then F ++ [r.y] else F
def pass (rs : List Rl) (F : List Int) : List Int := rs.foldl step1 F
theorem step1_pre (F : List Int) (r : Rl) : ∃ E, step1 F r = F ++ E := by
  unfold step1
  split
  · exact ⟨_, rfl⟩
  · exact ⟨[], (List.append_nil F).symm⟩
theorem pass_pre : ∀ (rs : List Rl) (F : List Int), ∃ E, pass rs F = F ++ E
  | [], F => ⟨[], (List.append_nil F).symm⟩
  | r :: rs, F => by
    obtain ⟨E1, e1⟩ := step1_pre F r
    obtain ⟨E2, e2⟩ := pass_pre rs (step1 F r)
    refine ⟨E1 ++ E2, ?_⟩
    show pass rs (step1 F r) = _
    rw [e2, e1, List.append_assoc]
/-- a pass that adds nothing: every rule rests -/
theorem pass_fix : ∀ (rs : List Rl) (F : List Int), pass rs F = F → ∀ r ∈ rs, fires F r = false
  | [], F, _, r, h => nomatch h
  | r :: rs, F, e, r', h => by
    have e : pass rs (step1 F r) = F := e
    have h0 : fires F r = false := by
      cases hf : fires F r with
      | false => rfl
      | true =>
        unfold step1 at e
        rw [if_pos hf] at e
        obtain ⟨E, e2⟩ := pass_pre rs (F ++ [r.y])
        rw [e2] at e
        have := congrArg List.length e
        simp only [List.length_append, List.length_singleton] at this
        omega
    have e1 : step1 F r = F := by
      unfold step1
      rw [h0]
      rfl
    rw [e1] at e
    rcases List.mem_cons.mp h with rfl | h
    · exact h0
    · exact pass_fix rs F e r' h
theorem fix_pass : ∀ (rs : List Rl) (F : List Int), (∀ r ∈ rs, fires F r = false) → pass rs F = F
  | [], F, _ => rfl
  | r :: rs, F, h => by
    have e1 : step1 F r = F := by
      unfold step1
      rw [h r (List.mem_cons_self ..)]
      rfl
    show pass rs (step1 F r) = F
    rw [e1]
    exact fix_pass rs F fun r' h' => h r' (List.mem_cons_of_mem _ h')
def iter (rs : List Rl) : Nat → List Int → List Int
  | 0, F => F
  | n + 1, F => iter rs n (pass rs F)
theorem iter_fix {rs : List Rl} {F : List Int} (h : pass rs F = F) : ∀ n, iter rs n F = F
  | 0 => rfl
  | n + 1 => by
    show iter rs n (pass rs F) = F
    rw [h]
    exact iter_fix h n
/-- what is added, is added once, and is some rule's number -/
structure Add (rs : List Rl) (xs F : List Int) : Prop where
  ex : ∃ E : List Int, F = xs ++ E ∧ E.Nodup ∧ ∀ y ∈ E, ∃ r ∈ rs, r.y = y
theorem Add.step {rs : List Rl} {xs F : List Int} (h : Add rs xs F) {r : Rl} (hr : r ∈ rs) : Add rs xs (step1 F r) := by
  unfold step1
  split
  · rename_i hf
    obtain ⟨E, e, nd, hm⟩ := h.ex
    unfold fires at hf
    rw [Bool.and_eq_true, decide_eq_true_eq] at hf
    refine ⟨E ++ [r.y], by rw [e, List.append_assoc], ?_, fun y hy => ?_⟩
    · refine List.nodup_append.mpr ⟨nd, List.nodup_cons.mpr ⟨(fun h => nomatch h), List.nodup_nil⟩, fun a ha b hb hab => ?_⟩
      rw [List.mem_singleton] at hb
      subst hb
      subst hab
      exact hf.1 (by rw [e]; exact List.mem_append_right _ ha)
    · rcases List.mem_append.mp hy with hy | hy
      · exact hm y hy
      · rw [List.mem_singleton] at hy
        exact ⟨r, hr, hy.symm⟩
  · exact h
theorem Add.pass {rs : List Rl} {xs : List Int} : ∀ {rs' : List Rl} {F : List Int}, (∀ r ∈ rs', r ∈ rs) → Add rs xs F → Add rs xs (Mn.pass rs' F)
  | [], F, _, h => h
  | r :: rs', F, hs, h => Add.pass (rs' := rs') (fun r' h' => hs r' (List.mem_cons_of_mem _ h')) (h.step (hs r (List.mem_cons_self ..)))
theorem sub_len : ∀ (E L : List Int), E.Nodup → (∀ y ∈ E, y ∈ L) → E.length ≤ L.length
  | [], _, _, _ => Nat.zero_le _
  | e :: E, L, nd, h => by
    have h1 := List.nodup_cons.mp nd
    have he := h e (List.mem_cons_self ..)
    have := sub_len E (L.erase e) h1.2 fun y hy => (List.mem_erase_of_ne (fun z => h1.1 (by rw [← z]; exact hy))).mpr (h y (List.mem_cons_of_mem _ hy))
    rw [List.length_erase_of_mem he] at this
    have := List.length_pos_of_mem he
    rw [List.length_cons]
    omega
theorem Add.len {rs : List Rl} {xs F : List Int} (h : Add rs xs F) : F.length ≤ xs.length + rs.length := by
  obtain ⟨E, e, nd, hm⟩ := h.ex
  have := sub_len E (rs.map Rl.y) nd fun y hy => by
    obtain ⟨r, hr, e⟩ := hm y hy
    exact List.mem_map.mpr ⟨r, hr, e⟩
  rw [List.length_map] at this
  rw [e, List.length_append]
  omega
theorem iter_add {rs : List Rl} {xs : List Int} : ∀ (n : Nat) {F : List Int}, Add rs xs F → Add rs xs (iter rs n F)
  | 0, F, h => h
  | n + 1, F, h => iter_add n (Add.pass (fun _ h => h) h)
/-- enough passes, and nothing is added any more -/
theorem iter_done {rs : List Rl} {xs : List Int} : ∀ (n : Nat) (F : List Int), Add rs xs F → xs.length + rs.length < F.length + n → pass rs (iter rs n F) = iter rs n F
  | 0, F, h, hl => by have := h.len; omega
  | n + 1, F, h, hl => by
    show pass rs (iter rs n (pass rs F)) = iter rs n (pass rs F)
    by_cases e : pass rs F = F
    · rw [e, iter_fix e n, e]
    · refine iter_done n (pass rs F) (Add.pass (fun _ h => h) h) ?_
      obtain ⟨E, e2⟩ := pass_pre rs F
      have : E ≠ [] := fun z => by
        subst z
        rw [List.append_nil] at e2
        exact e e2
      have := List.length_pos_iff.mpr this
      rw [e2, List.length_append]
      omega
def clo (rs : List Rl) (xs : List Int) : List Int := iter rs 7 xs
theorem add_nil {rs : List Rl} {xs : List Int} : Add rs xs xs := ⟨[], (List.append_nil xs).symm, List.nodup_nil, fun y h => nomatch h⟩
theorem clo_fix {rs : List Rl} {xs : List Int} (h : rs.length ≤ 6) : pass rs (clo rs xs) = clo rs xs := iter_done 7 xs add_nil (by omega)
/-- the same, by as many passes as it takes -/
theorem iter_clo {rs : List Rl} {xs : List Int} (h : rs.length ≤ 6) (n : Nat) (hn : pass rs (iter rs n xs) = iter rs n xs) : iter rs n xs = clo rs xs := by
  have add : ∀ (m n : Nat) (F : List Int), iter rs (m + n) F = iter rs n (iter rs m F) := fun m => by
    induction m with
    | zero => intro n F; rw [Nat.zero_add]; rfl
    | succ m ih =>
      intro n F
      rw [Nat.add_right_comm]
      exact ih n (pass rs F)
  have e1 : iter rs (n + 7) xs = iter rs n xs := by rw [add n 7 xs, iter_fix hn]
  have e2 : iter rs (7 + n) xs = clo rs xs := by rw [add 7 n xs]; exact iter_fix (clo_fix h) n
  rw [← e1, Nat.add_comm, e2]
theorem clo_len {rs : List Rl} {xs : List Int} (h : rs.length ≤ 6) : (clo rs xs).length ≤ xs.length + 6 := by
  have := (iter_add (rs := rs) (xs := xs) 7 add_nil).len
  unfold clo
  omega
end Mn
namespace Mn
open PySem PySem.Spec PyProof.Rows L2
local macro_rules | `(tactic| walk_at "ev") => `(tactic| simp only [evB, evS, evTL, evTFL, evCL, evE, evEs, evF, evI, evC, evO, evG, O2.g, B1.g, F1.g,
  w_k, w_v, w_2, w_tup, w_fr, w_lst, w_nil, w_cons, w_not, w_neg, w_call, w_callF, w_isa, w_tyis, w_o0, w_o1, w_sl, w_sset, w_lset, w_lrg, w_pix, w_lenS, w_fn, w_gn, w_gd, w_gp, w_it, w_enum, w_rng1, w_lc, w_sc, w_fz, w_pop, w_scF, w_fzF,
  w_next, w_seq, w_ret, w_drop, w_asg, w_ifS, w_own, w_lcD, w_cmO, w_cmD, w_par, w_app, w_ext, w_pset, w_for, w_forR, W_some, W_none, W_ite,
  List.getElem?_cons_zero, List.getElem?_cons_succ, List.getElem?_nil, frzBy, frz1, List.contains_nil, List.contains_cons, asT, asTs, penD, penPut, List.set_cons_zero, List.set_cons_succ, wipeE,
  items_l, items_t, g_add, g_sub, g_mod, g_fdiv, g_mul, g_pow, g_lt, g_le, g_gt, g_ge, g_lenL, g_lenT, g_int1, g_min, g_max, g_tupL, g_tupT, g_listL, g_listT, isa_ii, isa_ib, isa_tt, g_ix20, g_ix21, g_ix30, g_ix31, g_ix32, g_sortL, w_ssetL, w_ssetT, w_lsetT, Bool.not_true, Bool.not_false, List.length_map, Option.bind_some, scalD, Bool.and_true, Bool.true_and, List.all_cons, List.all_nil,
  Option.some.injEq, Sl.d.injEq, Sl.own.injEq, Sl.scr.injEq, PyData.int.injEq, PyData.bool.injEq, PyData.list.injEq, PyData.tuple.injEq, exists_eq_left', exists_eq_left, exists_eq', exists_eq, exists_and_left, true_and, and_true, if_true, if_false, ite_true, ite_false,
  allS, Nat.reduceAdd, Nat.reduceBEq, Bool.or_false, Bool.or_true, Bool.false_or, Bool.true_or, Bool.false_eq_true, reduceIte, reduceCtorEq, List.length_cons, List.length_nil, Int.reduceEq, decide_eq_true_eq, decide_eq_false_iff_not, one_ne_zero, not_false_eq_true,
  startE, List.map_cons, List.map_nil, slOf, List.replicate_zero, List.replicate_succ, List.cons_append, List.nil_append, Nat.reduceSub, forall_const, false_implies, implies_true])
local macro_rules | `(tactic| walk_at "evb") => `(tactic| simp only [evB, evS, evTL, evTFL, evCL, evE, evEs, evF, evI, evC, evO, evG, O2.g, B1.g, F1.g,
  w_k, w_v, w_2, w_tup, w_fr, w_lst, w_nil, w_cons, w_and, w_or, w_not, w_neg, w_if, w_ch, w_call, w_callF, w_isa, w_tyis, w_o0, w_o1, w_sl, w_sset, w_lset, w_lrg, w_pix, w_lenS, w_fn, w_gn, w_gd, w_gp, w_it, w_enum, w_rng1, w_lc, w_sc, w_fz, w_pop, w_scF, w_fzF,
  w_next, w_seq, w_ret, w_drop, w_asg, w_ifS, w_own, w_lcD, w_cmO, w_cmD, w_par, w_app, w_ext, w_pset, w_for, w_forR, W_some, W_none, W_ite,
  List.getElem?_cons_zero, List.getElem?_cons_succ, List.getElem?_nil, frzBy, frz1, List.contains_nil, List.contains_cons, asT, asTs, penD, penPut, List.set_cons_zero, List.set_cons_succ, wipeE,
  items_l, items_t, g_add, g_sub, g_mod, g_fdiv, g_mul, g_pow, g_lt, g_le, g_gt, g_ge, g_lenL, g_lenT, g_int1, g_min, g_max, g_tupL, g_tupT, g_listL, g_listT, isa_ii, isa_ib, isa_tt, g_ix20, g_ix21, g_ix30, g_ix31, g_ix32, g_sortL, w_ssetL, w_ssetT, w_lsetT, Bool.not_true, Bool.not_false, List.length_map, Option.bind_some, scalD, Bool.and_true, Bool.true_and, List.all_cons, List.all_nil,
  Option.some.injEq, Sl.d.injEq, Sl.own.injEq, Sl.scr.injEq, PyData.int.injEq, PyData.bool.injEq, PyData.list.injEq, PyData.tuple.injEq, exists_eq_left', exists_eq_left, exists_eq', exists_eq, exists_and_left, true_and, and_true, if_true, if_false, ite_true, ite_false,
  allS, Nat.reduceAdd, Nat.reduceBEq, Bool.or_false, Bool.or_true, Bool.false_or, Bool.true_or, Bool.false_eq_true, reduceIte, reduceCtorEq, List.length_cons, List.length_nil, Int.reduceEq, decide_eq_true_eq, decide_eq_false_iff_not, one_ne_zero, not_false_eq_true,
  startE, List.map_cons, List.map_nil, slOf, List.replicate_zero, List.replicate_succ, List.cons_append, List.nil_append, Nat.reduceSub, forall_const, false_implies, implies_true])
theorem lcG {tg : Tg} {cc : Option EvE} {a : EvE} {Γ : Ev} {st : Pn} {p : Int → Bool} {g : Int → PyData} : ∀ ys : List Int, (∀ y ∈ ys, W (asT tg (.int y) Γ) fun Γ1 => W (lcTest cc Γ1 st) fun z => z = (p y, st) ∧ (p y = true → W (a Γ1 st) fun u => u = (g y, st))) →
    lcLoop tg cc a Γ (dInts ys) st = some ((ys.filter p).map g, st)
  | [], _ => rfl
  | y :: ys, h => by
    obtain ⟨Γ1, e1, z, e2, rfl, q⟩ := h y (List.mem_cons_self ..)
    have ih := lcG ys fun x hx => h x (List.mem_cons_of_mem _ hx)
    show lcLoop tg cc a Γ (.int y :: dInts ys) st = _
    rw [lcLoop, e1]
    simp only [e2]
    cases hp : p y with
    | false => simp only [hp, ih, List.filter_cons]; rfl
    | true =>
      obtain ⟨u, e3, rfl⟩ := q hp
      simp only [hp, e3, ih, List.filter_cons]
      rfl
theorem mem_dInts {y : Int} : ∀ xs : List Int, memD (.int y) (dInts xs) = decide (y ∈ xs)
  | [] => by simp [memD, dInts]
  | x :: xs => by
    have := mem_dInts (y := y) xs
    unfold memD dInts at this ⊢
    rw [List.map_cons, List.any_cons, this, PyData.eqv, Bool.eq_iff_iff, Bool.or_eq_true, decide_eq_true_eq, decide_eq_true_eq, List.mem_cons, beq_iff_eq]
    exact or_congr_left ⟨Eq.symm, Eq.symm⟩
theorem flat_dInts : ∀ xs : List Int, (dInts xs).all flatD = true
  | [] => rfl
  | x :: xs => by
    have := flat_dInts xs
    simp only [dInts, List.map_cons, List.all_cons, flatD, Bool.true_and] at this ⊢
    exact this
theorem g_in {y : Int} {d : PyData} {xs : List Int} (h : itemsD d = some (dInts xs)) : gIn (.int y) d = some (.bool (decide (y ∈ xs))) := by
  unfold gIn
  rw [h]
  simp only [flatD, flat_dInts, Bool.and_self, if_true, mem_dInts]
theorem g_notIn {y : Int} {d : PyData} {xs : List Int} (h : itemsD d = some (dInts xs)) : gNotIn (.int y) d = some (.bool (decide (y ∉ xs))) := by
  unfold gNotIn
  rw [h]
  simp only [flatD, flat_dInts, Bool.and_self, if_true, mem_dInts, decide_not]
def SpHas (f : Fn) : Prop := ∀ (a b : PyData) (xs ys : List Int) st, itemsD a = some (dInts xs) → itemsD b = some (dInts ys) → ys.length ≤ 1000 → W (f [.d a, .d b] st) fun r => r = (.bool (ys.all fun y => decide (y ∈ xs)), st)
theorem has_ok {Φ : Nat → Fn} {k : Nat} : SpHas (fnOf 2 3 k Φ sl_contains_all) := fun a b xs ys st ha hb hl => by
  refine (w_fnOf rfl).mpr ?_
  unfold sl_contains_all
  walk_at "ev"
  rw [hb, W_some]
  refine ⟨by rw [List.length_map, show LIM = 1000000 from rfl]; omega, ?_⟩
  rw [lcG (p := fun _ => true) (g := fun y => .bool (decide (y ∈ xs))) ys (fun y _ => by
    simp only [asT, W_some, lcTest]
    walk_at "ev"
    rw [g_in ha]
    walk_at "ev"), W_some]
  have e : gAll [.list ((ys.filter fun _ => true).map fun y => PyData.bool (decide (y ∈ xs)))] = some (.bool (ys.all fun y => decide (y ∈ xs))) := by
    have e2 : ((ys.filter fun _ => true).map fun y => PyData.bool (decide (y ∈ xs))) = (ys.map fun y => decide (y ∈ xs)).map PyData.bool := by
      rw [List.map_map, List.filter_eq_self.mpr (fun _ _ => rfl)]
      rfl
    rw [e2]
    unfold gAll
    simp only [boolsD_map, List.all_map, Function.comp_def, id]
  rw [e, W_some]
/-! the longest chain -/
def nums (C : List Nat) : List Int := C.map fun n : Nat => (n : Int)
def ysOf (rs : List Rl) (C : List Nat) : List Int := C.map fun n => (rs[n]?.map Rl.y).getD 0
inductive Val (rs : List Rl) (xs : List Int) : List Nat → Prop
  | nil : Val rs xs []
  | snoc {C : List Nat} {n : Nat} {r : Rl} : Val rs xs C → rs[n]? = some r → (∀ x ∈ r.xs, x ∈ xs ++ ysOf rs C) → Val rs xs (C ++ [n])
structure ChOk (rs : List Rl) (xs : List Int) (C : List Nat) (F : List Int) : Prop where
  lt : ∀ n ∈ C, n < rs.length
  nd : C.Nodup
  eq : F = xs ++ ysOf rs C
  val : Val rs xs C
theorem ysOf_snoc {rs : List Rl} {C : List Nat} {n : Nat} {r : Rl} (h : rs[n]? = some r) : ysOf rs (C ++ [n]) = ysOf rs C ++ [r.y] := by
  unfold ysOf
  rw [List.map_append, List.map_singleton, h]
  rfl
def step2 (n : Nat) (r : Rl) (p : List Int × List Nat) : List Int × List Nat := if fires p.1 r = true then (p.1 ++ [r.y], p.2 ++ [n]) else p
def pass2 : Nat → List Rl → List Int × List Nat → List Int × List Nat
  | _, [], p => p
  | n, r :: rs, p => pass2 (n + 1) rs (step2 n r p)
theorem pass2_fst : ∀ (rs : List Rl) (n : Nat) (p : List Int × List Nat), (pass2 n rs p).1 = pass rs p.1
  | [], _, _ => rfl
  | r :: rs, n, p => by
    have e : (step2 n r p).1 = step1 p.1 r := by
      unfold step2 step1
      split <;> rfl
    show (pass2 (n + 1) rs (step2 n r p)).1 = pass rs (step1 p.1 r)
    rw [pass2_fst rs (n + 1) _, e]
theorem ChOk.step {rs : List Rl} {xs : List Int} {n : Nat} {r : Rl} {p : List Int × List Nat} (h : ChOk rs xs p.2 p.1) (hr : rs[n]? = some r) : ChOk rs xs (step2 n r p).2 (step2 n r p).1 := by
  unfold step2
  split
  · rename_i hf
    unfold fires at hf
    rw [Bool.and_eq_true, decide_eq_true_eq, List.all_eq_true] at hf
    have hn : n < rs.length := (List.getElem?_eq_some_iff.mp hr).1
    refine ⟨fun m hm => ?_, ?_, ?_, .snoc h.val hr fun x hx => ?_⟩
    · rcases List.mem_append.mp hm with hm | hm
      · exact h.lt m hm
      · rw [List.mem_singleton] at hm; rw [hm]; exact hn
    · refine List.nodup_append.mpr ⟨h.nd, List.nodup_cons.mpr ⟨(fun h => nomatch h), List.nodup_nil⟩, fun a ha b hb hab => ?_⟩
      rw [List.mem_singleton] at hb
      subst hb
      subst hab
      refine hf.1 ?_
      rw [h.eq]
      refine List.mem_append_right _ (List.mem_map.mpr ⟨a, ha, ?_⟩)
      rw [hr]
      rfl
    · show p.1 ++ [r.y] = _
      rw [ysOf_snoc hr, ← List.append_assoc, ← h.eq]
    · rw [← h.eq]
      exact of_decide_eq_true (hf.2 x hx)
  · exact h
theorem pass2_ok {rs : List Rl} {xs : List Int} : ∀ (rest : List Rl) (n : Nat) (p : List Int × List Nat), (∀ i, rest[i]? = rs[n + i]?) → ChOk rs xs p.2 p.1 → ChOk rs xs (pass2 n rest p).2 (pass2 n rest p).1
  | [], _, _, _, h => h
  | r :: rest, n, p, hi, h => by
    refine pass2_ok rest (n + 1) _ (fun i => ?_) (h.step (by have := hi 0; simpa using this.symm))
    have := hi (i + 1)
    rw [List.getElem?_cons_succ] at this
    rw [this]
    congr 1
    omega
/-- one walk over the rules -/
theorem inner {Φ : Nat → Fn} (h0 : SpHas (Φ 0)) {rs : List Rl} {d : PyData} {b : Int} {B : Nat} (hB : B < 1000) : ∀ (rest : List Rl) (n : Nat) (p : List Int × List Nat) (l5 l6 l7 l8 : Option Sl) (st : Pn), p.1.length + rest.length ≤ B → p.2.length + rest.length ≤ B → (∀ r ∈ rest, r.xs.length ≤ 100) →
    W (esLoop (Tg.tup [Tg.nm 5, Tg.tup [Tg.nm 6, Tg.nm 7, Tg.nm 8]]) (esSeq (esIf (evAnd (ev2 gNotIn (evV 8) (evV 2)) (evFn (Φ 0) (evGD (evV 2) (evGD (evV 7) evGN)))) (esSeq (esApp 2 (evFz [] (evV 8))) (esSeq (esApp 3 (evFz [] (evV 5))) esNext)) esNext) esNext) (zipD n (rest.map dR)) [some (.d (dRs rs)), some (.d d), some (.own (dInts p.1)), some (.own (dInts (nums p.2))), some (.d (.int b)), l5, l6, l7, l8] st)
      fun r => ∃ l5 l6 l7 l8, r = .nx [some (.d (dRs rs)), some (.d d), some (.own (dInts (pass2 n rest p).1)), some (.own (dInts (nums (pass2 n rest p).2))), some (.d (.int b)), l5, l6, l7, l8] st
  | [], n, p, l5, l6, l7, l8, st, _, _, _ => by
    rw [List.map_nil, zipD, w_loop0]
    exact ⟨l5, l6, l7, l8, rfl⟩
  | r :: rest, n, p, l5, l6, l7, l8, st, b1, b2, hx => by
    rw [List.length_cons] at b1 b2
    rw [List.map_cons, zipD, w_loop1, show dR r = .tuple [.int r.t, .tuple (dInts r.xs), .int r.y] from rfl]
    walk_at "ev"
    refine W_mono (Q := fun q => q = (PyData.bool (fires p.1 r), st)) ?_ ?_
    · walk_at "evb"
      rw [g_notIn items_l]
      walk_at "evb"
      refine ⟨fun h => W_mono (h0 _ _ p.1 r.xs st items_l items_t (by have := hx r (List.mem_cons_self ..); omega)) ?_, fun h => ?_⟩
      · rintro _ rfl
        unfold fires
        rw [decide_eq_true h, Bool.true_and]
      · unfold fires
        rw [decide_eq_false h, Bool.false_and]
    · rintro _ rfl
      have ih := fun p' => inner h0 (d := d) (b := b) (rs := rs) hB rest (n + 1) p' (some (.d (.int (n : Nat)))) (some (.d (.int r.t))) (some (.d (.tuple (dInts r.xs)))) (some (.d (.int r.y))) st
      have hx' := fun r' h' => hx r' (List.mem_cons_of_mem r h')
      have l1 : LIM = 1000000 := rfl
      have l2 : (nums p.2).length = p.2.length := List.length_map ..
      walk_at "ev"
      refine ⟨fun hf => ⟨by omega, by omega, ?_⟩, fun hf => ?_⟩
      · have e1 : dInts p.1 ++ [.int r.y] = dInts (p.1 ++ [r.y]) := by simp
        have e2 : dInts (nums p.2) ++ [.int (n : Nat)] = dInts (nums (p.2 ++ [n])) := by simp [nums]
        have e3 : pass2 n (r :: rest) p = pass2 (n + 1) rest (p.1 ++ [r.y], p.2 ++ [n]) := by
          show pass2 (n + 1) rest (step2 n r p) = _
          unfold step2
          rw [if_pos hf]
        rw [e1, e2, e3]
        exact ih (p.1 ++ [r.y], p.2 ++ [n]) (by simp only [List.length_append, List.length_singleton]; omega) (by simp only [List.length_append, List.length_singleton]; omega) hx'
      · have e3 : pass2 n (r :: rest) p = pass2 (n + 1) rest p := by
          show pass2 (n + 1) rest (step2 n r p) = _
          unfold step2
          rw [hf]
          rfl
        rw [e3]
        exact ih p (by omega) (by omega) hx'
theorem ch_nil {rs : List Rl} {xs : List Int} : ChOk rs xs [] xs := ⟨(fun n h => nomatch h), List.nodup_nil, (List.append_nil xs).symm, Val.nil⟩
theorem ChOk.len {rs : List Rl} {xs : List Int} {C : List Nat} {F : List Int} (h : ChOk rs xs C F) : F.length = xs.length + C.length := by
  rw [h.eq, List.length_append]
  unfold ysOf
  rw [List.length_map]
theorem whole_walk {rs : List Rl} {xs : List Int} {C : List Nat} {F : List Int} (h : ChOk rs xs C F) : ChOk rs xs (pass2 0 rs (F, C)).2 (pass rs F) := by
  have := pass2_ok rs 0 (F, C) (fun i => by rw [Nat.zero_add]) h
  rw [pass2_fst] at this
  exact this
theorem iter_snoc {rs : List Rl} : ∀ (m : Nat) (F : List Int), iter rs (m + 1) F = pass rs (iter rs m F)
  | 0, F => rfl
  | m + 1, F => iter_snoc m (pass rs F)
theorem whiles {Φ : Nat → Fn} (h0 : SpHas (Φ 0)) {rs : List Rl} {xs : List Int} {d : PyData} (hrs : rs.length ≤ 6) (hxs : xs.length ≤ 100) (hx : ∀ r ∈ rs, r.xs.length ≤ 100) : ∀ (n m : Nat) (b : Int) (C : List Nat) (F : List Int) (l5 l6 l7 l8 : Option Sl) (st : Pn), ChOk rs xs C F → F = iter rs m xs →
    (b < C.length ∨ (b = C.length ∧ pass rs F = F)) → 1 ≤ n → (b < C.length → xs.length + rs.length + 2 ≤ F.length + n) →
    W (esWhile n (ev2 gLt (evV 4) (evCall gLen (evCons (evV 3) evNil)))
        (esSeq (esAsg (Tg.nm 4) (evSc (evCall gLen (evCons (evV 3) evNil)))) (esSeq (esFor [] (evEnum (evV 0)) (Tg.tup [Tg.nm 5, Tg.tup [Tg.nm 6, Tg.nm 7, Tg.nm 8]])
          (esSeq (esIf (evAnd (ev2 gNotIn (evV 8) (evV 2)) (evFn (Φ 0) (evGD (evV 2) (evGD (evV 7) evGN)))) (esSeq (esApp 2 (evFz [] (evV 8))) (esSeq (esApp 3 (evFz [] (evV 5))) esNext)) esNext) esNext)) esNext))
        [some (.d (dRs rs)), some (.d d), some (.own (dInts F)), some (.own (dInts (nums C))), some (.d (.int b)), l5, l6, l7, l8] st)
      fun r => ∃ C b l5 l6 l7 l8, r = .nx [some (.d (dRs rs)), some (.d d), some (.own (dInts (clo rs xs))), some (.own (dInts (nums C))), some (.d (.int b)), l5, l6, l7, l8] st ∧ ChOk rs xs C (clo rs xs)
  | 0, m, b, C, F, l5, l6, l7, l8, st, ok, hF, hb, hn1, hn => absurd hn1 (by decide)
  | n + 1, m, b, C, F, l5, l6, l7, l8, st, ok, hF, hb, hn1, hn => by
    have l2 : (nums C).length = C.length := List.length_map ..
    have hFl := ok.len
    have a : Add rs xs F := by rw [hF]; exact iter_add m add_nil
    have hal := a.len
    rw [w_while]
    walk_at "ev"
    refine ⟨fun hb' => ?_, fun hb' => ?_⟩
    · have hfix : pass rs F = F := by
        rcases hb with hb | hb
        · omega
        · exact hb.2
      have e : clo rs xs = F := by
        rw [hF]
        exact (iter_clo hrs m (by rw [← hF]; exact hfix)).symm
      rw [e]
      exact ⟨C, b, l5, l6, l7, l8, rfl, ok⟩
    · rw [show itemsD (dRs rs) = some (rs.map dR) from rfl, W_some]
      refine W_mono (inner h0 (B := 200) (by decide) rs 0 (F, C) l5 l6 l7 l8 st (by dsimp only; omega) (by dsimp only; omega) hx) ?_
      rintro _ ⟨m5, m6, m7, m8, rfl⟩
      have ok' := whole_walk ok
      have hFl' := ok'.len
      have e1 : (pass2 0 rs (F, C)).1 = pass rs F := pass2_fst rs 0 (F, C)
      dsimp only
      rw [e1, l2]
      obtain ⟨E, hE⟩ := pass_pre rs F
      have hEl : (pass rs F).length = F.length + E.length := by rw [hE, List.length_append]
      have hn2 := hn (by omega)
      refine whiles h0 hrs hxs hx n (m + 1) C.length _ (pass rs F) m5 m6 m7 m8 st ok' (by rw [iter_snoc, ← hF]) ?_ (by omega) (fun hlt => by omega)
      by_cases hz : E.length = 0
      · right
        have : E = [] := List.length_eq_zero_iff.mp hz
        rw [this, List.append_nil] at hE
        exact ⟨by omega, by rw [hE, hE]⟩
      · left
        omega
/-- rules and numbers as the program takes them -/
structure RIn (rs : List Rl) (xs : List Int) (d : PyData) : Prop where
  it : itemsD d = some (dInts xs)
  nr : rs.length ≤ 6
  nx : xs.length ≤ 20
  rl : ∀ r ∈ rs, r.xs.length ≤ 20
def SpChain (f : Fn) : Prop := ∀ rs xs d st, RIn rs xs d → W (f [.d (dRs rs), .d d] st) fun r => ∃ C, r = (.tuple (dInts (nums C)), st) ∧ ChOk rs xs C (clo rs xs)
theorem chain_ok {Φ : Nat → Fn} (h0 : SpHas (Φ 0)) : SpChain (fnOf 2 9 40 Φ sl_longest_chain) := fun rs xs d st i => by
  refine (w_fnOf rfl).mpr ?_
  unfold sl_longest_chain
  walk_at "ev"
  rw [show gListF [d] = some (dInts xs) from i.it, W_some]
  refine ⟨by decide, ?_⟩
  have i1 := i.nr
  have i2 := i.nx
  refine W_mono (whiles h0 i1 (by omega) (fun r hr => by have := i.rl r hr; omega) 40 0 (-1) [] xs none none none none st ch_nil rfl (.inl (by simp only [List.length_nil]; omega)) (by decide) (fun _ => by omega)) ?_
  rintro _ ⟨C, b, l5, l6, l7, l8, rfl, ok⟩
  walk_at "ev"
  exact ⟨C, rfl, ok⟩
theorem g_addL {xs ys : List PyData} {Q : PyData → Prop} : W (gAdd (.list xs) (.list ys)) Q ↔ xs.length + ys.length ≤ LIM ∧ Q (.list (xs ++ ys)) := by
  show W (if _ then _ else _) Q ↔ _
  rw [W_ite, W_some]
theorem all_ints {p : Int → Bool} {g : Int → Int} {ys : List Int} : ((ys.filter p).map fun y => PyData.int (g y)) = dInts ((ys.filter p).map g) := by
  unfold dInts
  rw [List.map_map]
  rfl
theorem filter_true {ys : List Int} : ys.filter (fun _ => true) = ys := List.filter_eq_self.mpr fun _ _ => rfl
def yAt (rs : List Rl) (i : Int) : Int := (rs[i.toNat]?.map Rl.y).getD 0
theorem yAt_nums {rs : List Rl} {C : List Nat} : (nums C).map (yAt rs) = ysOf rs C := by
  unfold nums ysOf
  rw [List.map_map]
  refine List.map_congr_left fun n _ => ?_
  show yAt rs ((n : Nat) : Int) = _
  unfold yAt
  rw [Int.toNat_natCast]
/-- rules[number][2] -/
theorem ix_y {rs : List Rl} {n : Nat} {Q : PyData → Prop} (h : n < rs.length) (q : Q (.int (yAt rs n))) : W (gIx (dRs rs) (.int n)) fun z => W (gIx z (.int 2)) Q := by
  unfold dRs
  refine g_ixT (by omega) (by rw [List.length_map]; omega) fun x hx => ?_
  rw [Int.toNat_natCast, List.getElem?_map, List.getElem?_eq_getElem h] at hx
  have e : x = dR rs[n] := (Option.some.inj hx).symm
  subst e
  unfold yAt at q
  rw [Int.toNat_natCast, List.getElem?_eq_getElem h] at q
  exact W_some.mpr q
def SpReached (f : Fn) : Prop := ∀ rs xs d C st, RIn rs xs d → (∀ n ∈ C, n < rs.length) → C.length ≤ 20 → W (f [.d (dRs rs), .d d, .d (.tuple (dInts (nums C)))] st) fun r => r = (.tuple (dInts (xs ++ ysOf rs C)), st)
theorem reached_ok {Φ : Nat → Fn} {k : Nat} : SpReached (fnOf 3 4 k Φ sl_reached_by) := fun rs xs d C st i hC hl => by
  refine (w_fnOf rfl).mpr ?_
  unfold sl_reached_by
  walk_at "ev"
  have i2 := i.nx
  have l2 : (nums C).length = C.length := List.length_map ..
  have l1 : LIM = 1000000 := rfl
  rw [show gListF [d] = some (dInts xs) from i.it, W_some]
  refine ⟨by omega, ?_⟩
  rw [lcG (p := fun _ => true) (g := fun y => .int (yAt rs y)) (nums C) (fun y hy => by
    obtain ⟨n, hn, rfl⟩ := List.mem_map.mp hy
    simp only [asT, W_some, lcTest]
    walk_at "ev"
    exact ix_y (hC n hn) rfl), W_some, all_ints, filter_true, yAt_nums, g_addL]
  have l3 : (ysOf rs C).length = C.length := List.length_map ..
  walk_at "ev"
  refine ⟨by omega, ?_⟩
  simp
def SpCloOf (f : Fn) : Prop := ∀ q rs xs d st, RIn rs xs d → W (f [.d q, .d (dRs rs), .d d] st) fun r => r = (.tuple (dInts (srtU (clo rs xs))), st)
theorem ChOk.clen {rs : List Rl} {xs : List Int} {C : List Nat} {F : List Int} (h : ChOk rs xs C F) : C.length ≤ rs.length := by
  have := sub_len (nums C) (nums (List.range rs.length)) (List.Pairwise.map _ (fun a b hab => fun e => hab (Int.ofNat.inj e)) h.nd) fun y hy => by
    obtain ⟨n, hn, rfl⟩ := List.mem_map.mp hy
    exact List.mem_map.mpr ⟨n, List.mem_range.mpr (h.lt n hn), rfl⟩
  unfold nums at this
  rw [List.length_map, List.length_map, List.length_range] at this
  exact this
theorem cloOf_ok {Φ : Nat → Fn} {k : Nat} (h1 : SpChain (Φ 1)) (h2 : SpReached (Φ 2)) : SpCloOf (fnOf 3 3 k Φ sl_closure_of) := fun q rs xs d st i => by
  refine (w_fnOf rfl).mpr ?_
  unfold sl_closure_of
  walk_at "ev"
  have i1 := i.nr
  have i2 := i.nx
  refine W_mono (h1 rs xs d st i) ?_
  rintro _ ⟨C, rfl, ok⟩
  have hc := ok.clen
  walk_at "ev"
  refine W_mono (h2 rs xs d C st i ok.lt (by omega)) ?_
  rintro _ rfl
  walk_at "ev"
  rw [← ok.eq]
  have := clo_len (xs := xs) i.nr
  exact ⟨by omega, rfl⟩
theorem cut_take {α : Type} {xs : List α} {n : Nat} : cutL xs none (some (n : Int)) = xs.take n := by
  unfold cutL
  rw [show HT.sIx xs.length 0 none = 0 from HT.sIx_none _ _, show HT.sIx xs.length xs.length (some (n : Int)) = min n xs.length from HT.sIx_nat _ _ n, List.drop_zero, Nat.sub_zero]
  by_cases h : n ≤ xs.length
  · rw [Nat.min_eq_left h]
  · rw [Nat.min_eq_right (by omega), List.take_length, List.take_of_length_le (by omega)]
def rngFrom (m k : Nat) : List PyData := (List.range' m k).map fun i => PyData.int ((i : Nat) : Int)
theorem rng_from {n : Nat} : rngD 0 n = rngFrom 0 n := by
  unfold rngD rngFrom
  rw [List.range_eq_range']
  refine List.map_congr_left fun i _ => ?_
  rw [Int.zero_add]
theorem rngFrom_succ {m k : Nat} : rngFrom m (k + 1) = .int ((m : Nat) : Int) :: rngFrom (m + 1) k := by
  unfold rngFrom
  rw [List.range'_succ, List.map_cons]
def Wants (F ws : List Int) : Prop := ∀ w ∈ ws, w ∈ F
def SpFor (f : Fn) : Prop := ∀ q rs xs d ws e st, RIn rs xs d → itemsD e = some (dInts ws) → ws.length ≤ 100 → W (f [.d q, .d (dRs rs), .d d, .d e] st) fun r =>
  (r = (.none, st) ∧ ¬ Wants (clo rs xs) ws) ∨ ∃ C, r = (.tuple (dInts (nums C)), st) ∧ ChOk rs xs C (xs ++ ysOf rs C) ∧ Wants (xs ++ ysOf rs C) ws ∧ Wants (clo rs xs) ws
theorem Val.snoc_inv {rs : List Rl} {xs : List Int} {C : List Nat} {n : Nat} (h : Val rs xs (C ++ [n])) : Val rs xs C ∧ ∃ r, rs[n]? = some r ∧ ∀ x ∈ r.xs, x ∈ xs ++ ysOf rs C := by
  generalize e : C ++ [n] = D at h
  cases h with
  | nil => exact absurd e (by simp)
  | snoc hv hr hx =>
    have e' := List.append_inj' e rfl
    obtain ⟨rfl, e2⟩ := e'
    cases e2
    exact ⟨hv, _, hr, hx⟩
theorem Val.pre {rs : List Rl} {xs : List Int} {C : List Nat} (h : Val rs xs C) : ∀ m, Val rs xs (C.take m) := by
  induction h with
  | nil => intro m; rw [List.take_nil]; exact .nil
  | @snoc C n r hv hr hx ih =>
    intro m
    by_cases hm : m ≤ C.length
    · rw [List.take_append_of_le_length hm]
      exact ih m
    · rw [List.take_of_length_le (by rw [List.length_append, List.length_singleton]; omega)]
      exact .snoc hv hr hx
theorem ChOk.pre {rs : List Rl} {xs : List Int} {C : List Nat} {F : List Int} (h : ChOk rs xs C F) (m : Nat) : ChOk rs xs (C.take m) (xs ++ ysOf rs (C.take m)) :=
  ⟨fun n hn => h.lt n (List.mem_of_mem_take hn), h.nd.sublist (List.take_sublist m C), rfl, h.val.pre m⟩
theorem for_ok {Φ : Nat → Fn} {k : Nat} (h0 : SpHas (Φ 0)) (h1 : SpChain (Φ 1)) (h2 : SpReached (Φ 2)) : SpFor (fnOf 4 6 k Φ sl_chain_for) := fun q rs xs d ws e st i he hw => by
  refine (w_fnOf rfl).mpr ?_
  unfold sl_chain_for
  walk_at "ev"
  have i1 := i.nr
  have i2 := i.nx
  refine W_mono (h1 rs xs d st i) ?_
  rintro _ ⟨C, rfl, ok⟩
  have hc := ok.clen
  have l2 : (nums C).length = C.length := List.length_map ..
  walk_at "ev"
  refine ⟨by omega, ?_⟩
  rw [show (((nums C).length : Int) + 1).toNat = C.length + 1 by omega, rng_from]
  refine loopI (I := fun ds Γ st1 => ∃ m j l, ds = rngFrom m j ∧ m + j = C.length + 1 ∧ st1 = st ∧ (∀ a < m, ¬ Wants (xs ++ ysOf rs (C.take a)) ws) ∧ Γ = [some (.d q), some (.d (dRs rs)), some (.d d), some (.d e), some (.d (.tuple (dInts (nums C)))), l]) ?_ ?_ _ _ _ ⟨0, C.length + 1, none, rfl, by omega, rfl, (fun a h => absurd h (by omega)), rfl⟩
  · rintro x ds Γ st1 ⟨m, j, l, e1, e2, rfl, hno, rfl⟩
    cases j with
    | zero => exact nomatch e1
    | succ j =>
      rw [rngFrom_succ] at e1
      obtain ⟨rfl, rfl⟩ := List.cons.inj e1
      walk_at "ev"
      have ec : cutD (.tuple (dInts (nums C))) none (some (m : Int)) = some (.tuple (dInts (nums (C.take m)))) := by
        show some (PyData.tuple (cutL (dInts (nums C)) none (some (m : Int)))) = _
        rw [cut_take]
        unfold nums dInts
        rw [← List.map_take, ← List.map_take]
      rw [ec]
      have okp := ok.pre m
      have hcp := okp.clen
      walk_at "ev"
      refine W_mono (h2 rs xs d (C.take m) st1 i okp.lt (by omega)) ?_
      rintro _ rfl
      refine W_mono (h0 _ _ _ ws st1 items_t he (by omega)) ?_
      rintro _ rfl
      refine ⟨_, rfl, fun ht => ?_, fun hf => ?_⟩
      · have hWs : Wants (xs ++ ysOf rs (C.take m)) ws := fun w hw => of_decide_eq_true (List.all_eq_true.mp ht w hw)
        refine .inr ⟨C.take m, rfl, okp, hWs, fun w hw => ?_⟩
        rw [ok.eq]
        rcases List.mem_append.mp (hWs w hw) with h | h
        · exact List.mem_append_left _ h
        · refine List.mem_append_right _ ?_
          unfold ysOf at h ⊢
          rw [List.map_take] at h
          exact List.mem_of_mem_take h
      · walk_at "ev"
        refine ⟨m + 1, j, rfl, by omega, fun a ha => ?_, _, rfl⟩
        by_cases hm : a = m
        · subst hm
          intro hw2
          have : (ws.all fun y => decide (y ∈ xs ++ ysOf rs (C.take a))) = true := List.all_eq_true.mpr fun w hw => decide_eq_true (hw2 w hw)
          rw [this] at hf
          cases hf
        · exact hno a (by omega)
  · rintro Γ st1 ⟨m, j, l, e1, e2, rfl, hno, rfl⟩
    have hj : j = 0 := by
      cases j with
      | zero => rfl
      | succ j => rw [rngFrom_succ] at e1; exact nomatch e1
    subst hj
    walk_at "ev"
    left
    have := hno C.length (by omega)
    rw [List.take_length, ← ok.eq] at this
    exact this
end Mn
namespace Mn
open PySem PySem.Spec PyProof.Rows L2
local macro_rules | `(tactic| walk_at "ev") => `(tactic| simp only [evB, evS, evTL, evTFL, evCL, evE, evEs, evF, evI, evC, evO, evG, O2.g, B1.g, F1.g,
  w_k, w_v, w_2, w_tup, w_fr, w_lst, w_nil, w_cons, w_not, w_neg, w_call, w_callF, w_isa, w_tyis, w_o0, w_o1, w_sl, w_sset, w_lset, w_lrg, w_pix, w_lenS, w_fn, w_gn, w_gd, w_gp, w_it, w_enum, w_rng1, w_lc, w_sc, w_fz, w_pop, w_scF, w_fzF,
  w_next, w_seq, w_ret, w_drop, w_asg, w_ifS, w_own, w_lcD, w_cmO, w_cmD, w_par, w_app, w_ext, w_pset, w_for, w_forR, W_some, W_none, W_ite,
  List.getElem?_cons_zero, List.getElem?_cons_succ, List.getElem?_nil, frzBy, frz1, List.contains_nil, List.contains_cons, asT, asTs, penD, penPut, List.set_cons_zero, List.set_cons_succ, wipeE,
  items_l, items_t, g_add, g_sub, g_mod, g_fdiv, g_mul, g_pow, g_lt, g_le, g_gt, g_ge, g_lenL, g_lenT, g_int1, g_min, g_max, g_tupL, g_tupT, g_listL, g_listT, isa_ii, isa_ib, isa_tt, g_ix20, g_ix21, g_ix30, g_ix31, g_ix32, g_sortL, w_ssetL, w_ssetT, w_lsetT, Bool.not_true, Bool.not_false, List.length_map, Option.bind_some, scalD, Bool.and_true, Bool.true_and, List.all_cons, List.all_nil,
  Option.some.injEq, Sl.d.injEq, Sl.own.injEq, Sl.scr.injEq, PyData.int.injEq, PyData.bool.injEq, PyData.list.injEq, PyData.tuple.injEq, exists_eq_left', exists_eq_left, exists_eq', exists_eq, exists_and_left, true_and, and_true, if_true, if_false, ite_true, ite_false,
  allS, Nat.reduceAdd, Nat.reduceBEq, Bool.or_false, Bool.or_true, Bool.false_or, Bool.true_or, Bool.false_eq_true, reduceIte, reduceCtorEq, List.length_cons, List.length_nil, Int.reduceEq, decide_eq_true_eq, decide_eq_false_iff_not, one_ne_zero, not_false_eq_true,
  startE, List.map_cons, List.map_nil, slOf, List.replicate_zero, List.replicate_succ, List.cons_append, List.nil_append, Nat.reduceSub, forall_const, false_implies, implies_true])
local macro_rules | `(tactic| walk_at "evb") => `(tactic| simp only [evB, evS, evTL, evTFL, evCL, evE, evEs, evF, evI, evC, evO, evG, O2.g, B1.g, F1.g,
  w_k, w_v, w_2, w_tup, w_fr, w_lst, w_nil, w_cons, w_and, w_or, w_not, w_neg, w_if, w_ch, w_call, w_callF, w_isa, w_tyis, w_o0, w_o1, w_sl, w_sset, w_lset, w_lrg, w_pix, w_lenS, w_fn, w_gn, w_gd, w_gp, w_it, w_enum, w_rng1, w_lc, w_sc, w_fz, w_pop, w_scF, w_fzF,
  w_next, w_seq, w_ret, w_drop, w_asg, w_ifS, w_own, w_lcD, w_cmO, w_cmD, w_par, w_app, w_ext, w_pset, w_for, w_forR, W_some, W_none, W_ite,
  List.getElem?_cons_zero, List.getElem?_cons_succ, List.getElem?_nil, frzBy, frz1, List.contains_nil, List.contains_cons, asT, asTs, penD, penPut, List.set_cons_zero, List.set_cons_succ, wipeE,
  items_l, items_t, g_add, g_sub, g_mod, g_fdiv, g_mul, g_pow, g_lt, g_le, g_gt, g_ge, g_lenL, g_lenT, g_int1, g_min, g_max, g_tupL, g_tupT, g_listL, g_listT, isa_ii, isa_ib, isa_tt, g_ix20, g_ix21, g_ix30, g_ix31, g_ix32, g_sortL, w_ssetL, w_ssetT, w_lsetT, Bool.not_true, Bool.not_false, List.length_map, Option.bind_some, scalD, Bool.and_true, Bool.true_and, List.all_cons, List.all_nil,
  Option.some.injEq, Sl.d.injEq, Sl.own.injEq, Sl.scr.injEq, PyData.int.injEq, PyData.bool.injEq, PyData.list.injEq, PyData.tuple.injEq, exists_eq_left', exists_eq_left, exists_eq', exists_eq, exists_and_left, true_and, and_true, if_true, if_false, ite_true, ite_false,
  allS, Nat.reduceAdd, Nat.reduceBEq, Bool.or_false, Bool.or_true, Bool.false_or, Bool.true_or, Bool.false_eq_true, reduceIte, reduceCtorEq, List.length_cons, List.length_nil, Int.reduceEq, decide_eq_true_eq, decide_eq_false_iff_not, one_ne_zero, not_false_eq_true,
  startE, List.map_cons, List.map_nil, slOf, List.replicate_zero, List.replicate_succ, List.cons_append, List.nil_append, Nat.reduceSub, forall_const, false_implies, implies_true])
/-! the law's own closure and chain -/
theorem g_neI {a b : Int} : gNe (.int a) (.int b) = some (.bool (!decide (a = b))) := by
  have e : (a == b) = decide (a = b) := rfl
  unfold gNe
  simp only [strs2, nilT, SeqAt.shaped, PyData.canLay0, PyData.depth, PyData.eqv, e]
  rfl
theorem g_neB {a b : Bool} : gNe (.bool a) (.bool b) = some (.bool (a != b)) := by
  unfold gNe
  simp only [strs2, nilT, SeqAt.shaped, PyData.canLay0, PyData.depth, PyData.eqv]
  rfl
theorem g_neS {a b : Str} : gNe (.str a) (.str b) = some (.bool (!decide (a = b))) := rfl
theorem g_ne00 {Q : PyData → Prop} : W (gNe (.list []) (.list [])) Q ↔ Q (.bool false) := (g_neL0 (xs := [])).trans (by rw [decide_eq_true rfl]; exact Iff.rfl)
theorem g_eq00 {Q : PyData → Prop} : W (gEq (.list []) (.list [])) Q ↔ Q (.bool true) := (g_eqL0 (xs := [])).trans (by rw [decide_eq_true rfl])
/-- [x for x in xs if x not in found], found a list -/
theorem outs {tgi : Nat} {a : EvE} {F ys : List Int} {Γ : Ev} {st : Pn} {c : EvE} (hc : ∀ y, W (asT (.nm tgi) (.int y) Γ) fun Γ1 => W (c Γ1 st) fun z => z = (.bool (decide (y ∉ F)), st) ∧ W (a Γ1 st) fun u => u = (.int y, st)) :
    lcLoop (.nm tgi) (some c) a Γ (dInts ys) st = some (dInts (ys.filter fun y => decide (y ∉ F)), st) := by
  have e : ((ys.filter fun y => decide (y ∉ F)).map fun y => PyData.int y) = dInts (ys.filter fun y => decide (y ∉ F)) := rfl
  rw [← e]
  refine lcG ys fun y _ => ?_
  obtain ⟨Γ1, e1, z, e2, e3, q⟩ := hc y
  subst e3
  refine ⟨Γ1, e1, (decide (y ∉ F), st), ?_, rfl, fun _ => q⟩
  unfold lcTest
  simp only [e2]
theorem outs_nil {F ys : List Int} : (ys.filter fun y => decide (y ∉ F)) = [] ↔ Wants F ys := by
  rw [List.filter_eq_nil_iff]
  refine ⟨fun h w hw => ?_, fun h w hw => ?_⟩
  · have := h w hw
    simpa using this
  · simpa using h w hw
theorem fires_eq {F : List Int} {r : Rl} : fires F r = (decide (r.y ∉ F) && decide ((r.xs.filter fun y => decide (y ∉ F)) = [])) := by
  unfold fires
  congr 1
  rw [Bool.eq_iff_iff, List.all_eq_true, decide_eq_true_eq, outs_nil]
  exact ⟨fun h w hw => of_decide_eq_true (h w hw), fun h w hw => decide_eq_true (h w hw)⟩
theorem innerL {rs : List Rl} {d : PyData} {B : Nat} (hB : B < 1000) : ∀ (rest : List Rl) (F : List Int) (l3 l4 l5 l6 l7 : Option Sl) (st : Pn), F.length + rest.length ≤ B → (∀ r ∈ rest, r.xs.length ≤ 100) →
    W (esLoop (Tg.tup [Tg.nm 4, Tg.nm 5, Tg.nm 6]) (esSeq (esIf (evAnd (ev2 gNotIn (evV 6) (evV 2)) (ev2 gEq (evFr (evLc (evIt (evV 5)) (Tg.nm 7) (some (ev2 gNotIn (evV 7) (evV 2))) (evV 7) [7])) (evFr (evLst evNil)))) (esSeq (esApp 2 (evFz [] (evV 6))) esNext) esNext) esNext) (rest.map dR) [some (.d (dRs rs)), some (.d d), some (.own (dInts F)), l3, l4, l5, l6, l7] st)
      fun r => ∃ l4 l5 l6 l7, r = .nx [some (.d (dRs rs)), some (.d d), some (.own (dInts (pass rest F))), l3, l4, l5, l6, l7] st
  | [], F, l3, l4, l5, l6, l7, st, _, _ => by
    rw [List.map_nil, w_loop0]
    exact ⟨l4, l5, l6, l7, rfl⟩
  | r :: rest, F, l3, l4, l5, l6, l7, st, b1, hx => by
    rw [List.length_cons] at b1
    have l1 : LIM = 1000000 := rfl
    have hr := hx r (List.mem_cons_self ..)
    rw [List.map_cons, w_loop1, show dR r = .tuple [.int r.t, .tuple (dInts r.xs), .int r.y] from rfl]
    walk_at "ev"
    refine W_mono (Q := fun q => q = (PyData.bool (fires F r), st)) ?_ ?_
    · walk_at "evb"
      rw [g_notIn items_l]
      walk_at "evb"
      rw [fires_eq]
      refine ⟨fun h => ⟨by omega, ?_⟩, fun h => ?_⟩
      · rw [outs (F := F) (fun y => by
          walk_at "ev"
          rw [g_notIn items_l]
          walk_at "ev"), W_some, decide_eq_true h, Bool.true_and]
        walk_at "ev"
        exact ⟨by omega, g_eqL0.mpr rfl⟩
      · rw [decide_eq_false h, Bool.false_and]
    · rintro _ rfl
      have ih := fun F' => innerL (d := d) (rs := rs) hB rest F' l3 (some (.d (.int r.t))) (some (.d (.tuple (dInts r.xs)))) (some (.d (.int r.y))) l7 st
      have hx' := fun r' h' => hx r' (List.mem_cons_of_mem r h')
      walk_at "ev"
      refine ⟨fun hf => ⟨by omega, ?_⟩, fun hf => ?_⟩
      · have e1 : dInts F ++ [.int r.y] = dInts (F ++ [r.y]) := by simp
        have e3 : pass (r :: rest) F = pass rest (F ++ [r.y]) := by
          show pass rest (step1 F r) = _
          unfold step1
          rw [if_pos hf]
        rw [e1, e3]
        exact ih (F ++ [r.y]) (by simp only [List.length_append, List.length_singleton]; omega) hx'
      · have e3 : pass (r :: rest) F = pass rest F := by
          show pass rest (step1 F r) = _
          unfold step1
          rw [hf]
          rfl
        rw [e3]
        exact ih F (by omega) hx'
def SpLClo (f : Fn) : Prop := ∀ rs xs d st, RIn rs xs d → W (f [.d (dRs rs), .d d] st) fun r => r = (.list (dInts (srtU (clo rs xs))), st)
theorem lclo_ok {Φ : Nat → Fn} {k : Nat} : SpLClo (fnOf 2 8 k Φ sl_law_closure) := fun rs xs d st i => by
  refine (w_fnOf rfl).mpr ?_
  unfold sl_law_closure
  walk_at "ev"
  have i1 := i.nr
  have i2 := i.nx
  rw [show gListF [d] = some (dInts xs) from i.it, W_some]
  refine ⟨by decide, ?_⟩
  rw [show (Int.toNat 7) = 7 from rfl, rng_from]
  refine loopI (I := fun ds Γ st1 => ∃ m j F l3 l4 l5 l6 l7, ds = rngFrom m j ∧ st1 = st ∧ Add rs xs F ∧ iter rs j F = clo rs xs ∧ Γ = [some (.d (dRs rs)), some (.d d), some (.own (dInts F)), l3, l4, l5, l6, l7]) ?_ ?_ _ _ _ ⟨0, 7, xs, none, none, none, none, none, rfl, rfl, add_nil, rfl, rfl⟩
  · rintro x ds Γ st1 ⟨m, j, F, l3, l4, l5, l6, l7, e1, rfl, ha, hi, rfl⟩
    cases j with
    | zero => exact nomatch e1
    | succ j =>
      rw [rngFrom_succ] at e1
      obtain ⟨rfl, rfl⟩ := List.cons.inj e1
      have hal := ha.len
      walk_at "ev"
      rw [show itemsD (dRs rs) = some (rs.map dR) from rfl, W_some]
      refine W_mono (innerL (B := 200) (by decide) rs F _ l4 l5 l6 l7 st1 (by omega) (fun r hr => by have := i.rl r hr; omega)) ?_
      rintro _ ⟨m4, m5, m6, m7, rfl⟩
      exact ⟨m + 1, j, rfl, rfl, pass rs F, Add.pass (fun _ h => h) ha, hi, _, m4, m5, m6, m7, rfl⟩
  · rintro Γ st1 ⟨m, j, F, l3, l4, l5, l6, l7, e1, rfl, ha, hi, rfl⟩
    have hj : j = 0 := by
      cases j with
      | zero => rfl
      | succ j => rw [rngFrom_succ] at e1; exact nomatch e1
    subst hj
    have e : F = clo rs xs := hi
    have := clo_len (xs := xs) i.nr
    subst e
    walk_at "ev"
    omega
theorem zipD_cons {k : Nat} {d : PyData} {ds : List PyData} : zipD k (d :: ds) = .tuple [.int (k : Nat), d] :: zipD (k + 1) ds := rfl
theorem ix_x {rs : List Rl} {n : Nat} {r : Rl} {Q : PyData → Prop} (h : rs[n]? = some r) (q : Q (.tuple (dInts r.xs))) : W (gIx (dRs rs) (.int n)) fun z => W (gIx z (.int 1)) Q := by
  have hn : n < rs.length := (List.getElem?_eq_some_iff.mp h).1
  unfold dRs
  refine g_ixT (by omega) (by rw [List.length_map]; omega) fun x hx => ?_
  rw [Int.toNat_natCast, List.getElem?_map, h] at hx
  have e : x = dR r := (Option.some.inj hx).symm
  subst e
  exact W_some.mpr q
def SpBrk (f : Fn) : Prop := ∀ rs xs d C F st, RIn rs xs d → ChOk rs xs C F → W (f [.d (dRs rs), .d d, .d (.tuple (dInts (nums C)))] st) fun r => r = (.list [], st)
theorem brk_ok {Φ : Nat → Fn} {k : Nat} : SpBrk (fnOf 3 7 k Φ sl_law_chain_break) := fun rs xs d C F st i ok => by
  refine (w_fnOf rfl).mpr ?_
  unfold sl_law_chain_break
  walk_at "ev"
  have i1 := i.nr
  have i2 := i.nx
  have hc := ok.clen
  have l1 : LIM = 1000000 := rfl
  rw [show gListF [d] = some (dInts xs) from i.it, W_some]
  refine loopI (I := fun ds Γ st1 => ∃ done rest l4 l5 l6, C = done ++ rest ∧ ds = zipD done.length (dInts (nums rest)) ∧ st1 = st ∧ Γ = [some (.d (dRs rs)), some (.d d), some (.d (.tuple (dInts (nums C)))), some (.own (dInts (xs ++ ysOf rs done))), l4, l5, l6]) ?_ ?_ _ _ _ ⟨[], C, none, none, none, rfl, rfl, rfl, by simp [ysOf]⟩
  · rintro x ds Γ st1 ⟨done, rest, l4, l5, l6, e1, e2, rfl, rfl⟩
    cases rest with
    | nil => exact nomatch e2
    | cons n rest =>
      have e2' : x :: ds = .tuple [.int (done.length : Nat), .int (n : Nat)] :: zipD (done.length + 1) (dInts (nums rest)) := e2
      obtain ⟨rfl, rfl⟩ := List.cons.inj e2'
      have hv : Val rs xs (done ++ [n]) := by
        have := ok.val.pre (done.length + 1)
        rw [e1] at this
        rw [List.take_append, List.take_of_length_le (by omega), show done.length + 1 - done.length = 1 by omega] at this
        exact this
      obtain ⟨_, r, hr, hrx⟩ := hv.snoc_inv
      have hn : n < rs.length := (List.getElem?_eq_some_iff.mp hr).1
      have hrl := i.rl r (List.mem_of_getElem? hr)
      have hcl : C.length = done.length + (rest.length + 1) := by rw [e1]; simp
      walk_at "ev"
      refine ix_x hr ?_
      walk_at "ev"
      refine ⟨by omega, ?_⟩
      rw [outs (F := xs ++ ysOf rs done) (fun y => by
        walk_at "ev"
        rw [g_notIn items_l]
        walk_at "ev"), W_some, outs_nil.mpr hrx]
      walk_at "ev"
      refine ⟨by omega, ?_⟩
      rw [g_ne00]
      walk_at "ev"
      refine ix_y hn ?_
      have l3 : (ysOf rs done).length = done.length := List.length_map ..
      refine ⟨by simp only [List.length_map, List.length_append]; omega, done ++ [n], rest, by rw [e1]; simp, by rw [List.length_append, List.length_singleton], some (.d (.int (done.length : Nat))), some (.d (.int (n : Nat))), l6, ?_⟩
      rw [ysOf_snoc hr, ← List.append_assoc]
      have ey : yAt rs n = r.y := by
        unfold yAt
        rw [Int.toNat_natCast, hr]
        rfl
      rw [ey]
      simp
  · rintro Γ st1 ⟨done, rest, l4, l5, l6, e1, e2, rfl, rfl⟩
    walk_at "ev"
    omega
def SpLRe (f : Fn) : Prop := ∀ rs xs d C st, RIn rs xs d → (∀ n ∈ C, n < rs.length) → C.length ≤ 20 → W (f [.d (dRs rs), .d d, .d (.tuple (dInts (nums C)))] st) fun r => r = (.list (dInts (xs ++ ysOf rs C)), st)
theorem lre_ok {Φ : Nat → Fn} {k : Nat} : SpLRe (fnOf 3 4 k Φ sl_law_reached) := fun rs xs d C st i hC hl => by
  refine (w_fnOf rfl).mpr ?_
  unfold sl_law_reached
  walk_at "ev"
  have i2 := i.nx
  have l2 : (nums C).length = C.length := List.length_map ..
  have l1 : LIM = 1000000 := rfl
  rw [show gListF [d] = some (dInts xs) from i.it, W_some]
  refine ⟨by omega, ?_⟩
  rw [lcG (p := fun _ => true) (g := fun y => .int (yAt rs y)) (nums C) (fun y hy => by
    obtain ⟨n, hn, rfl⟩ := List.mem_map.mp hy
    simp only [asT, W_some, lcTest]
    walk_at "ev"
    exact ix_y (hC n hn) rfl), W_some, all_ints, filter_true, yAt_nums, g_addL]
  have l3 : (ysOf rs C).length = C.length := List.length_map ..
  walk_at "ev"
  refine ⟨by omega, ?_⟩
  simp
def SpRight (f : Fn) : Prop := ∀ rs xs d ws e C st, RIn rs xs d → itemsD e = some (dInts ws) → ws.length ≤ 100 → ChOk rs xs C (xs ++ ysOf rs C) → Wants (xs ++ ysOf rs C) ws →
  W (f [.d (dRs rs), .d d, .d e, .d (.tuple (dInts (nums C)))] st) fun r => r = (.bool true, st)
theorem right_ok {Φ : Nat → Fn} {k : Nat} (h9 : SpWhole (Φ 9)) (h17 : SpBrk (Φ 17)) (h18 : SpLRe (Φ 18)) : SpRight (fnOf 4 6 k Φ sl_law_is_right) := fun rs xs d ws e C st i he hw ok hWs => by
  refine (w_fnOf rfl).mpr ?_
  unfold sl_law_is_right
  walk_at "ev"
  have hc := ok.clen
  have i1 := i.nr
  have l1 : LIM = 1000000 := rfl
  have l2 : (nums C).length = C.length := List.length_map ..
  refine W_mono (Q := fun p => p = (PyData.bool false, st)) ?_ ?_
  · walk_at "evb"
    refine ⟨by omega, ?_⟩
    rw [lcG (p := fun _ => false) (g := fun _ => .int 1) (nums C) (fun y hy => by
      obtain ⟨n, hn, rfl⟩ := List.mem_map.mp hy
      have hnl := ok.lt n hn
      simp only [asT, W_some]
      refine ⟨(false, st), ?_, rfl, fun h => nomatch h⟩
      have hw := W_mono (h9 n 0 ((rs.length : Int) - 1) st) (Q' := fun r => r = (.bool true, st)) (by
        rintro _ rfl
        rw [decide_eq_true (by omega)])
      have : W (evNot (evFn (Φ 9) (evGD (evV 4) (evGD (evK (.int 0)) (evGD (ev2 gSub (evCall gLen (evCons (evV 0) evNil)) (evK (.int 1))) evGN)))) [some (Sl.d (dRs rs)), some (Sl.d d), some (Sl.d e), some (Sl.d (PyData.tuple (dInts (nums C)))), some (.d (.int (n : Int))), none] st) fun z => z = (.bool false, st) := by
        walk_at "ev"
        rw [show gLen [dRs rs] = some (.int (rs.length : Nat)) from (by show some (PyData.int ((rs.map dR).length : Nat)) = _; rw [List.length_map])]
        walk_at "ev"
        refine W_mono hw ?_
        rintro _ rfl
        exact ⟨true, rfl, rfl⟩
      obtain ⟨z, hz, rfl⟩ := this
      unfold lcTest
      simp only [List.set_cons_succ, List.set_cons_zero, hz]), W_some]
    walk_at "evb"
    rw [show (nums C).filter (fun _ => false) = [] from List.filter_eq_nil_iff.mpr (fun _ _ h => nomatch h), List.map_nil, g_ne00]
    exact ⟨by decide, rfl⟩
  · rintro _ rfl
    walk_at "ev"
    refine W_mono (Q := fun p => p = (PyData.bool false, st)) ?_ ?_
    · walk_at "evb"
      have hs : (srtU (nums C)).length = C.length := by
        rw [← srtU_len (ks := nums C) (List.Pairwise.map _ (fun a b hab => fun e => hab (Int.ofNat.inj e)) ok.nd) fun _ => Iff.rfl, l2]
      refine ⟨by omega, ?_⟩
      rw [g_neI, W_some, hs, l2, decide_eq_true rfl]
      refine ⟨_, rfl, (fun h => nomatch h), fun _ => ?_⟩
      refine W_mono (h17 rs xs d C _ st i ok) ?_
      rintro _ rfl
      rw [g_ne00]
      exact ⟨by decide, rfl⟩
    · rintro _ rfl
      walk_at "ev"
      rw [he, W_some]
      refine ⟨by rw [List.length_map]; omega, ?_⟩
      rw [outs (F := xs ++ ysOf rs C) (fun y => by
        walk_at "ev"
        refine W_mono (h18 rs xs d C st i ok.lt (by omega)) ?_
        rintro _ rfl
        rw [g_notIn items_l]
        walk_at "ev"), W_some, outs_nil.mpr hWs]
      refine ⟨by decide, ?_⟩
      rw [show dInts [] = [] from rfl, g_eq00]
end Mn
namespace Mn
open PySem PySem.Spec PyProof.Rows L2
local macro_rules | `(tactic| walk_at "ev") => `(tactic| simp only [evB, evS, evTL, evTFL, evCL, evE, evEs, evF, evI, evC, evO, evG, O2.g, B1.g, F1.g,
  w_k, w_v, w_2, w_tup, w_fr, w_lst, w_nil, w_cons, w_not, w_neg, w_call, w_callF, w_isa, w_tyis, w_o0, w_o1, w_sl, w_sset, w_lset, w_lrg, w_pix, w_lenS, w_fn, w_gn, w_gd, w_gp, w_it, w_enum, w_rng1, w_lc, w_sc, w_fz, w_pop, w_scF, w_fzF,
  w_next, w_seq, w_ret, w_drop, w_asg, w_ifS, w_own, w_lcD, w_cmO, w_cmD, w_par, w_app, w_ext, w_pset, w_for, w_forR, W_some, W_none, W_ite,
  List.getElem?_cons_zero, List.getElem?_cons_succ, List.getElem?_nil, frzBy, frz1, List.contains_nil, List.contains_cons, asT, asTs, penD, penPut, List.set_cons_zero, List.set_cons_succ, wipeE,
  items_l, items_t, g_add, g_sub, g_mod, g_fdiv, g_mul, g_pow, g_lt, g_le, g_gt, g_ge, g_lenL, g_lenT, g_int1, g_min, g_max, g_tupL, g_tupT, g_listL, g_listT, isa_ii, isa_ib, isa_tt, g_ix20, g_ix21, g_ix30, g_ix31, g_ix32, g_sortL, w_ssetL, w_ssetT, w_lsetT, Bool.not_true, Bool.not_false, List.length_map, Option.bind_some, scalD, Bool.and_true, Bool.true_and, List.all_cons, List.all_nil,
  Option.some.injEq, Sl.d.injEq, Sl.own.injEq, Sl.scr.injEq, PyData.int.injEq, PyData.bool.injEq, PyData.list.injEq, PyData.tuple.injEq, exists_eq_left', exists_eq_left, exists_eq', exists_eq, exists_and_left, true_and, and_true, if_true, if_false, ite_true, ite_false,
  allS, Nat.reduceAdd, Nat.reduceBEq, Bool.or_false, Bool.or_true, Bool.false_or, Bool.true_or, Bool.false_eq_true, reduceIte, reduceCtorEq, List.length_cons, List.length_nil, Int.reduceEq, decide_eq_true_eq, decide_eq_false_iff_not, one_ne_zero, not_false_eq_true,
  startE, List.map_cons, List.map_nil, slOf, List.replicate_zero, List.replicate_succ, List.cons_append, List.nil_append, Nat.reduceSub, forall_const, false_implies, implies_true])
local macro_rules | `(tactic| walk_at "evb") => `(tactic| simp only [evB, evS, evTL, evTFL, evCL, evE, evEs, evF, evI, evC, evO, evG, O2.g, B1.g, F1.g,
  w_k, w_v, w_2, w_tup, w_fr, w_lst, w_nil, w_cons, w_and, w_or, w_not, w_neg, w_if, w_ch, w_call, w_callF, w_isa, w_tyis, w_o0, w_o1, w_sl, w_sset, w_lset, w_lrg, w_pix, w_lenS, w_fn, w_gn, w_gd, w_gp, w_it, w_enum, w_rng1, w_lc, w_sc, w_fz, w_pop, w_scF, w_fzF,
  w_next, w_seq, w_ret, w_drop, w_asg, w_ifS, w_own, w_lcD, w_cmO, w_cmD, w_par, w_app, w_ext, w_pset, w_for, w_forR, W_some, W_none, W_ite,
  List.getElem?_cons_zero, List.getElem?_cons_succ, List.getElem?_nil, frzBy, frz1, List.contains_nil, List.contains_cons, asT, asTs, penD, penPut, List.set_cons_zero, List.set_cons_succ, wipeE,
  items_l, items_t, g_add, g_sub, g_mod, g_fdiv, g_mul, g_pow, g_lt, g_le, g_gt, g_ge, g_lenL, g_lenT, g_int1, g_min, g_max, g_tupL, g_tupT, g_listL, g_listT, isa_ii, isa_ib, isa_tt, g_ix20, g_ix21, g_ix30, g_ix31, g_ix32, g_sortL, w_ssetL, w_ssetT, w_lsetT, Bool.not_true, Bool.not_false, List.length_map, Option.bind_some, scalD, Bool.and_true, Bool.true_and, List.all_cons, List.all_nil,
  Option.some.injEq, Sl.d.injEq, Sl.own.injEq, Sl.scr.injEq, PyData.int.injEq, PyData.bool.injEq, PyData.list.injEq, PyData.tuple.injEq, exists_eq_left', exists_eq_left, exists_eq', exists_eq, exists_and_left, true_and, and_true, if_true, if_false, ite_true, ite_false,
  allS, Nat.reduceAdd, Nat.reduceBEq, Bool.or_false, Bool.or_true, Bool.false_or, Bool.true_or, Bool.false_eq_true, reduceIte, reduceCtorEq, List.length_cons, List.length_nil, Int.reduceEq, decide_eq_true_eq, decide_eq_false_iff_not, one_ne_zero, not_false_eq_true,
  startE, List.map_cons, List.map_nil, slOf, List.replicate_zero, List.replicate_succ, List.cons_append, List.nil_append, Nat.reduceSub, forall_const, false_implies, implies_true])
/-! what may be shown -/
structure Gd (k b : Nat) (d : PyData) : Prop where
  sh : d.showable = true
  ls : d.leavesShort 22 = true
  dp : d.depth ≤ k
  bk : d.bulk ≤ b
structure GdA (k b : Nat) (ds : List PyData) : Prop where
  sh : PyData.showableAll ds = true
  ls : PyData.leavesShortAll 22 ds = true
  dp : PyData.depthAll ds ≤ k
  bk : PyData.bulkAll ds ≤ b
theorem GdA.nil {k : Nat} : GdA k 0 [] := by
  constructor
  · simp only [PyData.showableAll]
  · simp only [PyData.leavesShortAll]
  · simp only [PyData.depthAll]; omega
  · simp only [PyData.bulkAll]; omega
theorem GdA.cons {k b b' : Nat} {d : PyData} {ds : List PyData} (h : Gd k b d) (t : GdA k b' ds) : GdA k (b + 1 + b') (d :: ds) := by
  have h4 := h.dp
  have h5 := h.bk
  have t4 := t.dp
  have t5 := t.bk
  constructor
  · simp only [PyData.showableAll, h.sh, t.sh, Bool.and_self]
  · simp only [PyData.leavesShortAll, h.ls, t.ls, Bool.and_self]
  · simp only [PyData.depthAll]; omega
  · simp only [PyData.bulkAll]; omega
theorem GdA.tup {k b : Nat} {ds : List PyData} (h : GdA k b ds) : Gd (k + 1) b (.tuple ds) := by
  have h4 := h.dp
  have h5 := h.bk
  constructor
  · simp only [PyData.showable, h.sh]
  · simp only [PyData.leavesShort, h.ls]
  · simp only [PyData.depth]; omega
  · simp only [PyData.bulk]; exact h5
theorem GdA.lst {k b : Nat} {ds : List PyData} (h : GdA k b ds) : Gd (k + 1) b (.list ds) := by
  have h4 := h.dp
  have h5 := h.bk
  constructor
  · simp only [PyData.showable, h.sh]
  · simp only [PyData.leavesShort, h.ls]
  · simp only [PyData.depth]; omega
  · simp only [PyData.bulk]; exact h5
theorem Gd.up {k b k' b' : Nat} {d : PyData} (h : Gd k b d) (hk : k ≤ k') (hb : b ≤ b') : Gd k' b' d := ⟨h.sh, h.ls, Nat.le_trans h.dp hk, Nat.le_trans h.bk hb⟩
theorem GdA.up {k b k' b' : Nat} {d : List PyData} (h : GdA k b d) (hk : k ≤ k') (hb : b ≤ b') : GdA k' b' d := ⟨h.sh, h.ls, Nat.le_trans h.dp hk, Nat.le_trans h.bk hb⟩
theorem GdA.all {k b : Nat} : ∀ {ds : List PyData}, (∀ d ∈ ds, Gd k b d) → GdA k (ds.length * (b + 1)) ds
  | [], _ => by rw [List.length_nil, Nat.zero_mul]; exact .nil
  | d :: ds, h => by
    have := GdA.cons (h d (List.mem_cons_self ..)) (GdA.all fun x hx => h x (List.mem_cons_of_mem _ hx))
    rw [List.length_cons, Nat.add_mul, Nat.one_mul, Nat.add_comm]
    exact this
theorem gd_int {i : Int} (h0 : 0 ≤ i) (h1 : i < 7) : Gd 0 0 (.int i) := by
  have e : i = 0 ∨ i = 1 ∨ i = 2 ∨ i = 3 ∨ i = 4 ∨ i = 5 ∨ i = 6 := by omega
  rcases e with rfl | rfl | rfl | rfl | rfl | rfl | rfl <;> exact ⟨by decide +kernel, by decide +kernel, by decide +kernel, by decide +kernel⟩
theorem gd_ints {ns : List Int} (h : Sm ns) : GdA 0 ns.length (dInts ns) := by
  have := GdA.all (k := 0) (b := 0) (ds := dInts ns) fun d hd => by
    obtain ⟨i, hi, rfl⟩ := List.mem_map.mp hd
    exact gd_int (h i hi).1 (h i hi).2
  rw [List.length_map, Nat.zero_add, Nat.mul_one] at this
  exact this
theorem g_repr {k b : Nat} {d : PyData} (h : Gd k b d) (hk : k ≤ 60) (hb : b ≤ 600000) : gRepr [d] = some (.str d.shown) := by
  have e : okShow d = true := by
    unfold okShow
    simp only [Bool.and_eq_true, Bool.not_eq_true', decide_eq_true_eq]
    have h1 := h.dp
    have h2 := h.bk
    exact ⟨⟨⟨h.sh, h.ls⟩, by omega⟩, by omega⟩
  show (if okShow d = true then some (PyData.str d.shown) else none) = _
  rw [if_pos e]
theorem gd_Q {m w : Int} {hd : List Int} {as : List (List Int)} (q : QOk m w hd as) (hm : m ≤ 8) (hw : w ≤ 7) : Gd 3 200 (dQ hd as) := by
  have h1 : Gd 1 hd.length (.tuple (dInts hd)) := (gd_ints fun x hx => q.sm x (q.sub x hx)).tup
  have h7 := q.hd7
  have hl := q.len
  have h2 : GdA 1 (as.length * (7 + 1)) (dAts as) := by
    have := GdA.all (k := 1) (b := 7) (ds := dAts as) fun d hd => by
      obtain ⟨a, ha, rfl⟩ := List.mem_map.mp hd
      have hat := q.at_ a ha
      have := hat.len
      exact (gd_ints hat.sm).tup.up (Nat.le_refl _) (by omega)
    unfold dAts at this ⊢
    rw [List.length_map] at this
    exact this
  exact ((GdA.cons (h1.up (k' := 2) (by omega) (Nat.le_refl _)) (GdA.cons h2.tup .nil)).tup).up (Nat.le_refl _) (by omega)
theorem gd_Rs {m w : Int} {hd : List Int} {as : List (List Int)} {rs : List Rl} (q : QOk m w hd as) (hm : m ≤ 7) (hr : ∀ r ∈ rs, ROk as r) (hl : rs.length ≤ 6) : Gd 3 200 (dRs rs) := by
  have := GdA.all (k := 2) (b := 20) (ds := rs.map dR) fun d hd => by
    obtain ⟨r, hr1, rfl⟩ := List.mem_map.mp hd
    have ro := hr r hr1
    have hx7 := ro.len q
    obtain ⟨a, ha, _⟩ := ro.at_
    have hlt := (List.getElem?_eq_some_iff.mp ha).1
    have ht0 := ro.t0
    have hql := q.len
    have hmy := q.sm _ ro.mem.1
    refine ((GdA.cons (b := 0) (k := 1) ((gd_int ht0 (by omega)).up (by omega) (Nat.le_refl _)) (GdA.cons ((gd_ints (ns := r.xs) fun x hx => q.sm x (ro.mem.2 x hx)).tup) (GdA.cons (b := 0) ((gd_int hmy.1 hmy.2).up (by omega) (Nat.le_refl _)) .nil))).tup).up (Nat.le_refl _) (by omega)
  rw [List.length_map] at this
  exact this.tup.up (Nat.le_refl _) (by omega)
theorem g_isNotN : gIsNot .none .none = some (.bool false) := rfl
theorem g_isNotT {xs : List PyData} : gIsNot (.tuple xs) .none = some (.bool true) := rfl
/-! the law -/
theorem law3 {Φ : Nat → Fn} {W' : Nat} (h13 : SpQuery (Φ 13)) (h15 : SpRules (Φ 15)) (h10 : SpVars (Φ 10)) (h11 : SpSome (Φ 11)) (h8 : SpOne (Φ 8)) (h16 : SpLClo (Φ 16)) (h3 : SpCloOf (Φ 3)) (h4 : SpFor (Φ 4)) (h19 : SpRight (Φ 19)) (ns : List Int) (hns : ns.length ≤ 63) :
    W (evB Φ W' sl_law_k03 (some (.scr ns) :: some .pen :: List.replicate 11 none) ⟨ns, 0, 0⟩) fun r => ∃ st, r = .rt (.bool true) st := by
  unfold sl_law_k03
  walk_at "ev"
  refine ⟨by split <;> split <;> omega, ?_⟩
  refine loopI (I := fun ds Γ st1 => ∃ l2 l3 l4 l5 l6 l7 l8 l9 l10 l11 l12, Γ = [some (.scr ns), some .pen, l2, l3, l4, l5, l6, l7, l8, l9, l10, l11, l12]) ?_ ?_ _ _ _ ⟨none, none, none, none, none, none, none, none, none, none, none, rfl⟩
  · rintro x ds Γ st1 ⟨l2, l3, l4, l5, l6, l7, l8, l9, l10, l11, l12, rfl⟩
    walk_at "ev"
    refine W_mono (h13 5 7 4 st1 (by decide) (by decide) (by decide) (by decide) (by decide) (by decide)) ?_
    rintro ⟨d1, st2⟩ ⟨hd, as, e, q⟩
    have e : d1 = dQ hd as := e
    subst e
    refine W_mono (h15 5 4 hd as st2 q (by decide) (by decide)) ?_
    rintro ⟨d2, st3⟩ ⟨rs, e, hrl, hro⟩
    have e : d2 = dRs rs := e
    subst e
    have hfl := flat_len fun a ha => (q.at_ a ha).len
    have hql := q.len
    refine W_mono (h10 (.tuple (dInts hd)) as st3 (by omega)) ?_
    rintro _ rfl
    have h7 := sm_len (srtU_sorted as.flatten) (sm_srtU q.sm)
    have gq := gd_Q q (by decide) (by decide)
    have gr := gd_Rs q (by decide) hro hrl
    walk_at "ev"
    refine ⟨by decide, ?_⟩
    have gp := (GdA.cons gq (GdA.cons gr .nil)).tup
    rw [g_repr gp (by decide) (by decide), W_some]
    generalize hS : (PyData.tuple [dQ hd as, dRs rs]).shown = S
    refine ⟨by decide, ?_⟩
    refine loopI (I := fun ds Γ st1 => ∃ l7 l8 l9 l10 l11 l12, Γ = [some (.scr ns), some .pen, some (.d x), some (.d (dQ hd as)), some (.d (dRs rs)), some (.d (.list (dInts (srtU as.flatten)))), some (.d (.str S)), l7, l8, l9, l10, l11, l12]) ?_ ?_ _ _ _ ⟨l7, l8, l9, l10, l11, l12, rfl⟩
    · rintro y ds2 Γ2 st4 ⟨l7, l8, l9, l10, l11, l12, rfl⟩
      have pick : ∀ st, W (Φ 8 [.pen, .d (.list [.int 3, .int 7])] st) fun r => ∃ m : Int, r.1 = .int m ∧ 0 ≤ m ∧ m ≤ 1000 := fun st => by
        refine W_mono (h8 [.int 3, .int 7] st (by simp) (by simp only [List.length_cons, List.length_nil]; omega)) fun r hr => ?_
        simp only [List.mem_cons, List.not_mem_nil, or_false] at hr
        rcases hr with e | e
        · exact ⟨3, e, by omega, by omega⟩
        · exact ⟨7, e, by omega, by omega⟩
      have sub7 : ∀ {ys zs : List Int}, (ys ++ zs).Perm (srtU as.flatten) → ys.length ≤ 7 ∧ Sm ys := fun {ys zs} hp => by
        have := hp.length_eq
        rw [List.length_append] at this
        exact ⟨by omega, fun v hv => sm_srtU q.sm v (hp.mem_iff.mp (List.mem_append_left _ hv))⟩
      walk_at "ev"
      refine ⟨by decide, W_mono (pick st4) ?_⟩
      rintro ⟨dm, st5⟩ ⟨m, e, m0, m1⟩
      have e : dm = .int m := e
      subst e
      refine W_mono (h11 _ (srtU as.flatten) m st5 items_l (by omega) m0 m1) ?_
      rintro ⟨dy, st6⟩ ⟨ys, zs, e, hp⟩
      have e : dy = .list (dInts ys) := e
      subst e
      obtain ⟨yl, ysm⟩ := sub7 hp
      walk_at "ev"
      refine ⟨by decide, W_mono (pick st6) ?_⟩
      rintro ⟨dm2, st7⟩ ⟨m2, e, m20, m21⟩
      have e : dm2 = .int m2 := e
      subst e
      refine W_mono (h11 _ (srtU as.flatten) m2 st7 items_l (by omega) m20 m21) ?_
      rintro ⟨dw, st8⟩ ⟨ws, zs2, e, hp2⟩
      have e : dw = .list (dInts ws) := e
      subst e
      obtain ⟨wl, wsm⟩ := sub7 hp2
      have hin : RIn rs ys (.tuple (dInts ys)) := ⟨items_t, hrl, by omega, fun r hr => by have := (hro r hr).len q; omega⟩
      walk_at "ev"
      refine W_mono (h16 rs ys _ st8 hin) ?_
      rintro _ rfl
      walk_at "ev"
      refine W_mono (h3 _ rs ys _ st8 hin) ?_
      rintro _ rfl
      have csm : Sm (clo rs ys) := fun v hv => by
        obtain ⟨E, e, _, hE⟩ := (iter_add (rs := rs) (xs := ys) 7 add_nil).ex
        have e : clo rs ys = ys ++ E := e
        rw [e] at hv
        rcases List.mem_append.mp hv with hv | hv
        · exact ysm v hv
        · obtain ⟨r, hr, rfl⟩ := hE v hv
          exact q.sm _ (hro r hr).mem.1
      have gc := (gd_ints (sm_srtU csm)).tup
      have gcl := sm_len (srtU_sorted (clo rs ys)) (sm_srtU csm)
      rw [g_repr gc (by decide) (by omega)]
      walk_at "ev"
      rw [g_neS, decide_eq_true rfl]
      walk_at "ev"
      refine W_mono (h4 _ rs ys _ ws (.tuple (dInts ws)) st8 hin items_t (by omega)) ?_
      have hWc : Wants (srtU (clo rs ys)) ws ↔ Wants (clo rs ys) ws := ⟨fun h w hw => (srtU_mem w _).mp (h w hw), fun h w hw => (srtU_mem w _).mpr (h w hw)⟩
      have hfl : ∀ (z : PyData), lcLoop (Tg.nm 12) (some (ev2 gNotIn (evV 12) (evV 10))) (evV 12) [some (Sl.scr ns), some Sl.pen, some (Sl.d x), some (Sl.d (dQ hd as)), some (Sl.d (dRs rs)), some (Sl.d (PyData.list (dInts (srtU as.flatten)))), some (Sl.d (.str S)), some (Sl.d y), some (Sl.d (.tuple (dInts ys))), some (Sl.d (.tuple (dInts ws))), some (Sl.d (.list (dInts (srtU (clo rs ys))))), some (Sl.d z), none] (dInts ws) st8 = some (dInts (ws.filter fun v => decide (v ∉ srtU (clo rs ys))), st8) := fun z =>
        outs (F := srtU (clo rs ys)) (fun v => by
          walk_at "ev"
          rw [g_notIn items_l]
          walk_at "ev")
      rintro ⟨dc, st9⟩ (⟨e, hno⟩ | ⟨C, e, ok, hW, hWF⟩)
      · obtain ⟨rfl, rfl⟩ := Prod.mk.inj e
        rw [g_isNotN, W_some]
        refine ⟨by rw [show LIM = 1000000 from rfl]; omega, ?_⟩
        rw [hfl, W_some]
        refine ⟨by decide, ?_⟩
        rw [g_eqL0, decide_eq_false (fun h => hno (hWc.mp (outs_nil.mp h))), g_neB, W_some]
        refine ⟨_, rfl, (fun h => nomatch h), fun _ => ?_⟩
        rw [W_some]
        refine ⟨_, rfl, (fun h => nomatch h), fun _ => ?_⟩
        exact ⟨_, _, _, _, _, _, rfl⟩
      · obtain ⟨rfl, rfl⟩ := Prod.mk.inj e
        rw [g_isNotT, W_some]
        refine ⟨by rw [show LIM = 1000000 from rfl]; omega, ?_⟩
        rw [hfl, W_some]
        refine ⟨by decide, ?_⟩
        rw [g_eqL0, decide_eq_true (outs_nil.mpr (hWc.mpr hWF)), g_neB, W_some]
        refine ⟨_, rfl, (fun h => nomatch h), fun _ => ?_⟩
        rw [W_some]
        refine ⟨_, rfl, (fun _ => ?_), fun h => nomatch h⟩
        refine W_mono (h19 rs ys _ ws _ C _ hin items_t (by omega) ok hW) ?_
        rintro _ rfl
        refine ⟨_, rfl, (fun h => nomatch h), fun _ => ?_⟩
        exact ⟨_, _, _, _, _, _, rfl⟩
    · rintro Γ2 st4 ⟨l7, l8, l9, l10, l11, l12, rfl⟩
      walk_at "ev"
      rw [g_repr gp (by decide) (by decide), hS]
      refine ⟨by decide, ?_⟩
      walk_at "ev"
      rw [g_neS, decide_eq_true rfl]
      walk_at "ev"
      exact ⟨_, _, _, _, _, _, _, _, _, _, _, rfl⟩
  · rintro Γ st1 ⟨l2, l3, l4, l5, l6, l7, l8, l9, l10, l11, l12, rfl⟩
    walk_at "ev"
    exact ⟨_, rfl⟩
end Mn
namespace Mn
open PySem PySem.Spec PyProof.Rows L2
/-! tables of functions, and what is known of names -/
def tab (l : List (Nat × Fn)) : Nat → Fn := fun n => (l.lookup n).getD fun _ _ => none
theorem fnOf_len {np N k : Nat} {Φ : Nat → Fn} {sl : SLs} {as : List Arg} {st : Pn} {r : PyData × Pn} (h : fnOf np N k Φ sl as st = some r) : as.length = np := by
  unfold fnOf at h
  split at h
  · assumption
  · cases h
theorem fnOf_run {np N k : Nat} {Φ : Nat → Fn} {sl : SLs} : ∀ (as : List Arg) (st : Pn) (r : PyData × Pn), fnOf np N k Φ sl as st = some r → as.length = np ∧ ∃ W, runB (evB Φ W sl) N as st = some r := fun as st r h => by
  have hl := fnOf_len h
  unfold fnOf at h
  rw [if_pos hl] at h
  exact ⟨hl, k, h⟩
inductive Bls (mg : Str → Option Value) : List Str → Prop
  | nil : Bls mg []
  | cons {x : Str} {l : List Str} : mg x = none → Bls mg l → Bls mg (x :: l)
theorem Bls.ok {mg : Str → Option Value} {l : List Str} (h : Bls mg l) : ∀ x, l.contains x = true → mg x = none := by
  induction h with
  | nil => intro x hx; cases hx
  | @cons y l h _ ih =>
    intro x hx
    rcases List.mem_cons.mp (List.contains_iff_mem.mp hx) with rfl | hx
    · exact h
    · exact ih x (List.contains_iff_mem.mpr hx)
inductive Gcs (mg : Str → Option Value) : List (Str × Int) → Prop
  | nil : Gcs mg []
  | cons {x : Str} {i : Int} {l : List (Str × Int)} : (∃ t, mg x = some (.int i t)) → Gcs mg l → Gcs mg ((x, i) :: l)
theorem Gcs.ok {mg : Str → Option Value} {l : List (Str × Int)} (h : Gcs mg l) : ∀ x i, l.lookup x = some i → ∃ t, mg x = some (.int i t) := by
  induction h with
  | nil => intro x i hx; cases hx
  | @cons y j l h _ ih =>
    intro x i hx
    rw [List.lookup_cons] at hx
    split at hx
    · rename_i e
      cases hx
      rw [eq_of_beq e]
      exact h
    · exact ih x i hx
theorem Known.cons {P : Program} {w : World} {K : PySem.W.Frag} {mg : Str → Option Value} {base : Heap} {k : Nat} {Φ : Nat → Fn} {fns : List (Str × Nat)} {x : Str} {n : Nat} {f : Fn} {fa : Addr} {fd : FuncData} {ps : List Str} {j m : Nat} (e : Φ n = f)
    (h : FnOk P w K mg base CX0 j fa fd ps (spF K m f)) (hj : j ≤ k) (hm : mg x = some (.ref fa)) (hk : PySem.W.keepIn K (.ref fa) = true) (hb : Binds K fd ps []) (hl : ∀ as st r, f as st = some r → as.length = m) (t : Known P w K mg base k Φ fns) : Known P w K mg base k Φ ((x, n) :: fns) := fun y i hy => by
  rw [List.lookup_cons] at hy
  split at hy
  · rename_i e2
    cases hy
    rw [eq_of_beq e2]
    subst e
    exact ⟨fa, fd, ps, j, m, CX0, h, hj, hm, hk, hb, (fun _ _ _ _ _ z => z), hl⟩
  · exact t y i hy
end Mn
namespace Mn
open PySem PySem.Spec PyProof.Rows L2
/-! terms of defs that any value may be given to -/
def sl_is_number_of : SLs :=
  (SLs.cons (SL.ret (TL.fz [] (IL.and (IL.tyis (IL.v 0) "int" false) (IL.ch (O2.le) (O2.lt) (IL.k (PyData.int (0))) (IL.v 0) (IL.v 1))))) (SLs.nil))
def sl_is_one_of : SLs :=
  (SLs.cons (SL.ret (TL.fz [] (IL.and (IL.tyis (IL.v 0) "int" false) (IL.op (O2.in_) (IL.v 0) (IL.v 1))))) (SLs.nil))
def sl_is_ascending : SLs :=
  (SLs.cons (SL.ret (TL.fz [] (IL.cb (B1.all) (ILs.cons (IL.fr (ILF.lc (ILI.zp (IL.v 0) (IL.sl (IL.v 0) (ILO.some (IL.k (PyData.int (1)))) (ILO.none))) (Tg.tup [Tg.nm 1, Tg.nm 2]) (ILO.none) (IL.op (O2.lt) (IL.v 1) (IL.v 2)) [1, 2])) (ILs.nil))))) (SLs.nil))
def sl_is_ascending_choice : SLs :=
  (SLs.cons (SL.iff (IL.or (IL.tyis (IL.v 0) "tuple" true) (IL.not (IL.cb (B1.all) (ILs.cons (IL.fr (ILF.lc (ILI.seq (IL.v 0)) (Tg.nm 2) (ILO.none) (IL.call 22 (ILG.d (IL.v 2) (ILG.d (IL.v 1) (ILG.nil)))) [2])) (ILs.nil))))) (SLs.cons (SL.ret (TL.fz [] (IL.k (PyData.bool false)))) (SLs.nil)) (SLs.nil)) (SLs.cons (SL.ret (TL.fz [] (IL.call 55 (ILG.d (IL.v 0) (ILG.nil))))) (SLs.nil)))
def sl_law_odd : SLs :=
  (SLs.cons (SL.asg (Tg.nm 1) (TL.fz [] (IL.fr (ILF.lst (ILs.cons (IL.k PyData.none) (ILs.cons (IL.k (PyData.bool true)) (ILs.cons (IL.k (PyData.bool false)) (ILs.cons (IL.neg (IL.k (PyData.int (1)))) (ILs.cons (IL.k (PyData.int (0))) (ILs.cons (IL.k (PyData.int (1))) (ILs.cons (IL.k (PyData.int (2))) (ILs.cons (IL.k (PyData.int (3))) (ILs.cons (IL.k (PyData.int (8))) (ILs.cons (IL.k (PyData.int (9))) (ILs.cons (IL.k (PyData.int (24))) (ILs.cons (IL.k (PyData.str (Str.ofString ""))) (ILs.cons (IL.k (PyData.str (Str.ofString "0"))) (ILs.cons (IL.k (PyData.str (Str.ofString "first"))) (ILs.cons (IL.tup (ILs.nil)) (ILs.cons (IL.fr (ILF.lst (ILs.nil))) (ILs.cons (IL.d0) (ILs.cons (IL.tup (ILs.cons (IL.k (PyData.int (0))) (ILs.nil))) (ILs.cons (IL.tup (ILs.cons (IL.k (PyData.int (0))) (ILs.cons (IL.k (PyData.int (1))) (ILs.nil)))) (ILs.cons (IL.tup (ILs.cons (IL.k (PyData.int (0))) (ILs.cons (IL.k (PyData.int (1))) (ILs.cons (IL.k (PyData.int (2))) (ILs.nil))))) (ILs.nil))))))))))))))))))))))))) (SLs.cons (SL.ret (TL.fz [] (IL.call 8 (ILG.p 0 (ILG.d (IL.op (O2.add) (IL.v 1) (IL.fr (ILF.lst (ILs.cons (IL.op (O2.pow) (IL.k (PyData.int (10))) (IL.k (PyData.int (12)))) (ILs.cons (IL.op (O2.add) (IL.op (O2.pow) (IL.k (PyData.int (10))) (IL.k (PyData.int (12)))) (IL.k (PyData.int (1)))) (ILs.cons (IL.op (O2.sub) (IL.neg (IL.op (O2.pow) (IL.k (PyData.int (10))) (IL.k (PyData.int (12))))) (IL.k (PyData.int (1)))) (ILs.cons (IL.tup (ILs.cons (IL.tup (ILs.nil)) (ILs.nil))) (ILs.cons (IL.fr (ILF.lst (ILs.cons (IL.k (PyData.int (1))) (ILs.nil)))) (ILs.cons (IL.tup (ILs.cons (IL.k (PyData.int (1))) (ILs.cons (IL.tup (ILs.nil)) (ILs.nil)))) (ILs.cons (IL.tup (ILs.cons (IL.k PyData.none) (ILs.cons (IL.k (PyData.int (0))) (ILs.cons (IL.k (PyData.int (0))) (ILs.nil))))) (ILs.nil))))))))))) (ILG.nil)))))) (SLs.nil)))
def sl_law_bent : SLs :=
  (SLs.cons (SL.iff (IL.or (IL.not (IL.isa (IL.v 1) "tuple")) (IL.or (IL.op (O2.eq) (IL.v 1) (IL.tup (ILs.nil))) (IL.or (IL.op (O2.eq) (IL.v 2) (IL.k (PyData.int (0)))) (IL.op (O2.eq) (IL.call 7 (ILG.p 0 (ILG.d (IL.k (PyData.int (6))) (ILG.nil)))) (IL.k (PyData.int (0))))))) (SLs.cons (SL.asg (Tg.nm 3) (TL.fz [] (IL.call 7 (ILG.p 0 (ILG.d (IL.k (PyData.int (8))) (ILG.nil)))))) (SLs.cons (SL.iff (IL.and (IL.isa (IL.v 1) "int") (IL.and (IL.not (IL.isa (IL.v 1) "bool")) (IL.op (O2.lt) (IL.v 3) (IL.k (PyData.int (6)))))) (SLs.cons (SL.ret (TL.fz [] (IL.ix (IL.fr (ILF.lst (ILs.cons (IL.op (O2.add) (IL.v 1) (IL.k (PyData.int (1)))) (ILs.cons (IL.op (O2.sub) (IL.v 1) (IL.k (PyData.int (1)))) (ILs.cons (IL.op (O2.eq) (IL.v 1) (IL.k (PyData.int (1)))) (ILs.cons (IL.k (PyData.int (0))) (ILs.cons (IL.neg (IL.k (PyData.int (1)))) (ILs.cons (IL.op (O2.add) (IL.v 1) (IL.k (PyData.int (1)))) (ILs.nil))))))))) (IL.v 3)))) (SLs.nil)) (SLs.nil)) (SLs.cons (SL.iff (IL.and (IL.isa (IL.v 1) "tuple") (IL.op (O2.lt) (IL.v 3) (IL.k (PyData.int (6))))) (SLs.cons (SL.ret (TL.fz [] (IL.ix (IL.fr (ILF.lst (ILs.cons (IL.sl (IL.v 1) (ILO.some (IL.k (PyData.int (1)))) (ILO.none)) (ILs.cons (IL.sl (IL.v 1) (ILO.none) (ILO.some (IL.neg (IL.k (PyData.int (1)))))) (ILs.cons (IL.op (O2.add) (IL.v 1) (IL.sl (IL.v 1) (ILO.none) (ILO.some (IL.k (PyData.int (1)))))) (ILs.cons (IL.rev (IL.v 1)) (ILs.cons (IL.fr (ILF.cf (F1.list) (ILs.cons (IL.v 1) (ILs.nil)))) (ILs.cons (IL.op (O2.add) (IL.v 1) (IL.tup (ILs.cons (IL.k (PyData.int (0))) (ILs.nil)))) (ILs.nil))))))))) (IL.v 3)))) (SLs.nil)) (SLs.nil)) (SLs.cons (SL.ret (TL.fz [] (IL.call 28 (ILG.p 0 (ILG.nil))))) (SLs.nil))))) (SLs.nil)) (SLs.cons (SL.asg (Tg.nm 4) (TL.fz [] (IL.call 7 (ILG.p 0 (ILG.d (IL.cb (B1.len) (ILs.cons (IL.v 1) (ILs.nil))) (ILG.nil)))))) (SLs.cons (SL.ret (TL.fz [] (IL.op (O2.add) (IL.op (O2.add) (IL.sl (IL.v 1) (ILO.none) (ILO.some (IL.v 4))) (IL.tup (ILs.cons (IL.call 29 (ILG.p 0 (ILG.d (IL.ix (IL.v 1) (IL.v 4)) (ILG.d (IL.op (O2.sub) (IL.v 2) (IL.k (PyData.int (1)))) (ILG.nil))))) (ILs.nil)))) (IL.sl (IL.v 1) (ILO.some (IL.op (O2.add) (IL.v 4) (IL.k (PyData.int (1))))) (ILO.none))))) (SLs.nil))))
def sl_law_is_tuple : SLs :=
  (SLs.cons (SL.ret (TL.fz [] (IL.and (IL.isa (IL.v 0) "tuple") (IL.op (O2.eq) (IL.cb (B1.len) (ILs.cons (IL.v 0) (ILs.nil))) (IL.v 1))))) (SLs.nil))
def sl_law_are_variables : SLs :=
  (SLs.cons (SL.iff (IL.or (IL.not (IL.isa (IL.v 1) "tuple")) (IL.op (O2.ne) (IL.fr (ILF.lc (ILI.seq (IL.v 1)) (Tg.nm 2) (ILO.some (IL.or (IL.not (IL.call 9 (ILG.d (IL.v 2) (ILG.d (IL.k (PyData.int (0))) (ILG.d (IL.k (PyData.int (6))) (ILG.nil)))))) (IL.op (O2.notIn) (IL.v 2) (IL.v 0)))) (IL.k (PyData.int (1))) [2])) (IL.fr (ILF.lst (ILs.nil))))) (SLs.cons (SL.ret (TL.fz [] (IL.k (PyData.bool false)))) (SLs.nil)) (SLs.nil)) (SLs.cons (SL.ret (TL.fz [] (IL.op (O2.eq) (IL.fr (ILF.cf (F1.list) (ILs.cons (IL.v 1) (ILs.nil)))) (IL.fr (ILF.sset (IL.v 1)))))) (SLs.nil)))
def isTup : PyData → Bool
  | .tuple _ => true
  | _ => false
def isIntB : PyData → Bool
  | .int _ => true
  | .bool _ => true
  | _ => false
def isBl : PyData → Bool
  | .bool _ => true
  | _ => false
def isInt : PyData → Bool
  | .int _ => true
  | _ => false
theorem isa_T (d : PyData) : isaD d "tuple" = some (isTup d) := by cases d <;> rfl
theorem isa_I (d : PyData) : isaD d "int" = some (isIntB d) := by cases d <;> rfl
theorem isa_B (d : PyData) : isaD d "bool" = some (isBl d) := by cases d <;> rfl
theorem ty_T (d : PyData) : decide (tyD d = "tuple") = isTup d := by cases d <;> rfl
theorem ty_I (d : PyData) : decide (tyD d = "int") = isInt d := by cases d <;> rfl
theorem isTup_t {xs : List PyData} : isTup (.tuple xs) = true := rfl
theorem isTup_ex {d : PyData} (h : isTup d = true) : ∃ xs, d = .tuple xs := by
  cases d <;> first | exact ⟨_, rfl⟩ | cases h
theorem isInt_ex {d : PyData} (h : isInt d = true) : ∃ i, d = .int i := by
  cases d <;> first | exact ⟨_, rfl⟩ | cases h
theorem isIntB_ex {d : PyData} (h : isIntB d = true) (h2 : isBl d = false) : ∃ i, d = .int i := by
  cases d <;> first | exact ⟨_, rfl⟩ | (cases h; done) | (cases h2; done)
theorem g_eqN {xs : List PyData} {Q : PyData → Prop} : W (gEq (.tuple xs) (.tuple [])) Q ↔ Q (.bool xs.isEmpty) := by
  have e : gEq (.tuple xs) (.tuple []) = some (.bool xs.isEmpty) := rfl
  rw [e, W_some]
theorem g_eqI {i j : Int} {Q : PyData → Prop} : W (gEq (.int i) (.int j)) Q ↔ Q (.bool (decide (i = j))) := by
  have e : gEq (.int i) (.int j) = some (.bool (decide (i = j))) := by
    unfold gEq
    simp only [strs2, nilT, SeqAt.shaped, PyData.canLay0, PyData.depth, PyData.eqv]
    simp
    rfl
  rw [e, W_some]
theorem as_nm {i : Nat} {d : PyData} {Γ : Ev} : asT (.nm i) d Γ = some (Γ.set i (some (.d d))) := by simp only [asT]
theorem as_tup {ts : List Tg} {ds : List PyData} {Γ : Ev} : asT (.tup ts) (.tuple ds) Γ = asTs ts ds Γ := by simp only [asT]
theorem as_nil {Γ : Ev} : asTs [] [] Γ = some Γ := by simp only [asTs]
theorem w_asTs {t : Tg} {ts : List Tg} {d : PyData} {ds : List PyData} {Γ : Ev} {Q : Ev → Prop} : W (asTs (t :: ts) (d :: ds) Γ) Q ↔ W (asT t d Γ) fun Γ1 => W (asTs ts ds Γ1) Q := by
  simp only [asTs]
  cases asT t d Γ with
  | none => simp only [W_none]
  | some Γ1 => simp only [W_some]
local macro_rules | `(tactic| walk_at "ev") => `(tactic| simp only [isa_T, isa_I, isa_B, ty_T, ty_I, g_eqN, g_eqI, g_neI, w_zip, w_d0, evB, evS, evTL, evTFL, evCL, evE, evEs, evF, evI, evC, evO, evG, O2.g, B1.g, F1.g,
  w_k, w_v, w_2, w_tup, w_fr, w_lst, w_nil, w_cons, w_not, w_neg, w_call, w_callF, w_isa, w_tyis, w_o0, w_o1, w_sl, w_sset, w_lset, w_lrg, w_pix, w_lenS, w_fn, w_gn, w_gd, w_gp, w_it, w_enum, w_rng1, w_lc, w_sc, w_fz, w_pop, w_scF, w_fzF,
  w_next, w_seq, w_ret, w_drop, w_asg, w_ifS, w_own, w_lcD, w_cmO, w_cmD, w_par, w_app, w_ext, w_pset, w_for, w_forR, W_some, W_none, W_ite,
  List.getElem?_cons_zero, List.getElem?_cons_succ, List.getElem?_nil, frzBy, frz1, List.contains_nil, List.contains_cons, as_nm, as_tup, as_nil, w_asTs, penD, penPut, List.set_cons_zero, List.set_cons_succ, wipeE,
  items_l, items_t, g_add, g_sub, g_mod, g_fdiv, g_mul, g_pow, g_lt, g_le, g_gt, g_ge, g_lenL, g_lenT, g_int1, g_min, g_max, g_tupL, g_tupT, g_listL, g_listT, isa_ii, isa_ib, isa_tt, g_ix20, g_ix21, g_ix30, g_ix31, g_ix32, g_sortL, w_ssetL, w_ssetT, w_lsetT, Bool.not_true, Bool.not_false, List.length_map, Option.bind_some, scalD, Bool.and_true, Bool.true_and, List.all_cons, List.all_nil,
  Option.some.injEq, Sl.d.injEq, Sl.own.injEq, Sl.scr.injEq, PyData.int.injEq, PyData.bool.injEq, PyData.list.injEq, PyData.tuple.injEq, exists_eq_left', exists_eq_left, exists_eq', exists_eq, exists_and_left, true_and, and_true, if_true, if_false, ite_true, ite_false,
  allS, Nat.reduceAdd, Nat.reduceBEq, Bool.or_false, Bool.or_true, Bool.false_or, Bool.true_or, Bool.false_eq_true, reduceIte, reduceCtorEq, List.length_cons, List.length_nil, Int.reduceEq, decide_eq_true_eq, decide_eq_false_iff_not, one_ne_zero, not_false_eq_true,
  startE, List.map_cons, List.map_nil, slOf, List.replicate_zero, List.replicate_succ, List.cons_append, List.nil_append, Nat.reduceSub, forall_const, false_implies, implies_true])
local macro_rules | `(tactic| walk_at "evb") => `(tactic| simp only [isa_T, isa_I, isa_B, ty_T, ty_I, g_eqN, g_eqI, g_neI, w_zip, w_d0, evB, evS, evTL, evTFL, evCL, evE, evEs, evF, evI, evC, evO, evG, O2.g, B1.g, F1.g,
  w_k, w_v, w_2, w_tup, w_fr, w_lst, w_nil, w_cons, w_and, w_or, w_not, w_neg, w_if, w_ch, w_call, w_callF, w_isa, w_tyis, w_o0, w_o1, w_sl, w_sset, w_lset, w_lrg, w_pix, w_lenS, w_fn, w_gn, w_gd, w_gp, w_it, w_enum, w_rng1, w_lc, w_sc, w_fz, w_pop, w_scF, w_fzF,
  w_next, w_seq, w_ret, w_drop, w_asg, w_ifS, w_own, w_lcD, w_cmO, w_cmD, w_par, w_app, w_ext, w_pset, w_for, w_forR, W_some, W_none, W_ite,
  List.getElem?_cons_zero, List.getElem?_cons_succ, List.getElem?_nil, frzBy, frz1, List.contains_nil, List.contains_cons, as_nm, as_tup, as_nil, w_asTs, penD, penPut, List.set_cons_zero, List.set_cons_succ, wipeE,
  items_l, items_t, g_add, g_sub, g_mod, g_fdiv, g_mul, g_pow, g_lt, g_le, g_gt, g_ge, g_lenL, g_lenT, g_int1, g_min, g_max, g_tupL, g_tupT, g_listL, g_listT, isa_ii, isa_ib, isa_tt, g_ix20, g_ix21, g_ix30, g_ix31, g_ix32, g_sortL, w_ssetL, w_ssetT, w_lsetT, Bool.not_true, Bool.not_false, List.length_map, Option.bind_some, scalD, Bool.and_true, Bool.true_and, List.all_cons, List.all_nil,
  Option.some.injEq, Sl.d.injEq, Sl.own.injEq, Sl.scr.injEq, PyData.int.injEq, PyData.bool.injEq, PyData.list.injEq, PyData.tuple.injEq, exists_eq_left', exists_eq_left, exists_eq', exists_eq, exists_and_left, true_and, and_true, if_true, if_false, ite_true, ite_false,
  allS, Nat.reduceAdd, Nat.reduceBEq, Bool.or_false, Bool.or_true, Bool.false_or, Bool.true_or, Bool.false_eq_true, reduceIte, reduceCtorEq, List.length_cons, List.length_nil, Int.reduceEq, decide_eq_true_eq, decide_eq_false_iff_not, one_ne_zero, not_false_eq_true,
  startE, List.map_cons, List.map_nil, slOf, List.replicate_zero, List.replicate_succ, List.cons_append, List.nil_append, Nat.reduceSub, forall_const, false_implies, implies_true])
/-! parts of any value -/
def numB : PyData → Int → Bool
  | .int i, m => decide (0 ≤ i ∧ i < m)
  | _, _ => false
def oneB : PyData → List Int → Bool
  | .int i, ns => decide (i ∈ ns)
  | _, _ => false
def SpNum (f : Fn) : Prop := ∀ (v : PyData) (m : Int) st, W (f [.d v, .d (.int m)] st) fun r => r = (.bool (numB v m), st)
theorem num_ok {Φ : Nat → Fn} {k : Nat} : SpNum (fnOf 2 2 k Φ sl_is_number_of) := fun v m st => by
  refine (w_fnOf rfl).mpr ?_
  unfold sl_is_number_of
  walk_at "evb"
  cases v with
  | int i =>
    refine ⟨fun _ => ?_, fun h => nomatch h⟩
    rw [g_le, W_some]
    refine ⟨_, rfl, fun h => ?_, fun h => ?_⟩
    · rw [g_lt, W_some]
      have h := of_decide_eq_true h
      simp [h, numB]
    · have h := of_decide_eq_false h
      simp [h, numB]
  | _ => exact ⟨(fun h => nomatch h), fun _ => rfl⟩
theorem memD_ints (v : Int) : ∀ ns : List Int, memD (.int v) (dInts ns) = decide (v ∈ ns)
  | [] => rfl
  | n :: ns => by
    have ih := memD_ints v ns
    unfold memD at ih ⊢
    simp only [dInts, List.map_cons, List.any_cons] at ih ⊢
    rw [ih]
    have e : PyData.eqv (.int n) (.int v) = decide (n = v) := by simp only [PyData.eqv]; rfl
    rw [e]
    by_cases h : n = v
    · subst h; simp
    · have h2 : v ≠ n := fun e => h e.symm
      simp [h, h2]
theorem flat_ints : ∀ ns : List Int, (dInts ns).all flatD = true
  | [] => rfl
  | n :: ns => by
    have ih := flat_ints ns
    simp only [dInts, List.map_cons, List.all_cons, flatD, Bool.true_and] at ih ⊢
    exact ih
theorem g_inI {i : Int} {d : PyData} {ns : List Int} (h : itemsD d = some (dInts ns)) {Q : PyData → Prop} : W (gIn (.int i) d) Q ↔ Q (.bool (decide (i ∈ ns))) := by
  unfold gIn
  rw [h]
  simp only [flatD, flat_ints, Bool.and_self, if_true, memD_ints, W_some]
theorem g_notInI {i : Int} {d : PyData} {ns : List Int} (h : itemsD d = some (dInts ns)) {Q : PyData → Prop} : W (gNotIn (.int i) d) Q ↔ Q (.bool (!decide (i ∈ ns))) := by
  unfold gNotIn
  rw [h]
  simp only [flatD, flat_ints, Bool.and_self, if_true, memD_ints, W_some]
def SpOneOf (f : Fn) : Prop := ∀ (v d : PyData) (ns : List Int) st, itemsD d = some (dInts ns) → W (f [.d v, .d d] st) fun r => r = (.bool (oneB v ns), st)
theorem oneOf_ok {Φ : Nat → Fn} {k : Nat} : SpOneOf (fnOf 2 2 k Φ sl_is_one_of) := fun v d ns st hd => by
  refine (w_fnOf rfl).mpr ?_
  unfold sl_is_one_of
  walk_at "evb"
  cases v with
  | int i =>
    refine ⟨fun _ => ?_, fun h => nomatch h⟩
    rw [g_inI hd]
    rfl
  | _ => exact ⟨(fun h => nomatch h), fun _ => rfl⟩
/-- each is below the next one -/
def ascI : List Int → Bool
  | [] => true
  | [_] => true
  | x :: y :: r => decide (x < y) && ascI (y :: r)
theorem ascI_iff : ∀ ns : List Int, ascI ns = true ↔ ns.Pairwise (· < ·)
  | [] => by simp [ascI]
  | [x] => by simp [ascI]
  | x :: y :: r => by
    have ih := ascI_iff (y :: r)
    simp only [ascI, Bool.and_eq_true, decide_eq_true_eq]
    rw [ih]
    constructor
    · rintro ⟨h1, h2⟩
      refine List.pairwise_cons.mpr ⟨fun z hz => ?_, h2⟩
      rcases List.mem_cons.mp hz with rfl | hz
      · exact h1
      · exact Int.lt_trans h1 ((List.pairwise_cons.mp h2).1 z hz)
    · intro h
      exact ⟨(List.pairwise_cons.mp h).1 y (List.mem_cons_self ..), (List.pairwise_cons.mp h).2⟩
def pairsI : List Int → List (Int × Int)
  | [] => []
  | [_] => []
  | x :: y :: r => (x, y) :: pairsI (y :: r)
theorem asc_pairs : ∀ ns : List Int, ((pairsI ns).all fun p => decide (p.1 < p.2)) = ascI ns
  | [] => rfl
  | [_] => rfl
  | x :: y :: r => by
    have ih := asc_pairs (y :: r)
    simp only [pairsI, List.all_cons, ascI, ih]
theorem boolsD_of (bs : List Bool) : boolsD (bs.map PyData.bool) = some bs := boolsD_map bs
theorem g_allB {bs : List Bool} {Q : PyData → Prop} : W (gAll [.list (bs.map PyData.bool)]) Q ↔ Q (.bool (bs.all id)) := by
  unfold gAll
  simp only [boolsD_map, W_some]
theorem g_anyB {bs : List Bool} {Q : PyData → Prop} : W (gAny [.list (bs.map PyData.bool)]) Q ↔ Q (.bool (bs.any id)) := by
  unfold gAny
  simp only [boolsD_map, W_some]
/-- a comprehension without a test whose items are booleans -/
theorem lcAll {Γ : Ev} {st : Pn} {tg : Tg} {a : EvE} {p : PyData → Bool} (ds : List PyData) (h : ∀ d ∈ ds, W (asT tg d Γ) fun Γ1 => W (a Γ1 st) fun y => y = (.bool (p d), st)) : lcLoop tg none a Γ ds st = some ((ds.map p).map PyData.bool, st) := by
  have := lcMap (Γ := Γ) (st := st) (tg := tg) (a := a) (cc := none) (f := fun d => .bool (p d)) (p := fun _ => true) ds fun d hd => W_mono (h d hd) fun Γ1 q => by
    simp only [lcTest, W_some]
    exact ⟨trivial, fun _ => q⟩
  have e : ds.filter (fun _ => true) = ds := List.filter_eq_self.mpr fun _ _ => rfl
  rw [this, e, List.map_map]
  rfl
theorem pair_ints : ∀ ns : List Int, pairD (dInts ns) (dInts (ns.drop 1)) = (pairsI ns).map fun p => .tuple [.int p.1, .int p.2]
  | [] => rfl
  | [x] => rfl
  | x :: y :: r => by
    have ih := pair_ints (y :: r)
    simp only [List.drop_succ_cons, List.drop_zero, dInts, List.map_cons] at ih ⊢
    rw [pairD, ih]
    rfl
theorem cut1 (ds : List PyData) : cutL ds (some 1) none = ds.drop 1 := by
  unfold cutL
  cases ds with
  | nil => rfl
  | cons x r =>
    have h1 : HT.sIx (x :: r).length 0 (some 1) = 1 := by
      rw [show HT.sIx (x :: r).length 0 (some 1) = min 1 (x :: r).length from HT.sIx_nat _ _ 1, List.length_cons]
      omega
    have h2 : HT.sIx (x :: r).length (x :: r).length none = (x :: r).length := HT.sIx_none _ _
    rw [h1, h2, List.take_of_length_le (by rw [List.length_drop]; omega)]
def SpAsc (f : Fn) : Prop := ∀ (ns : List Int) st, ns.length ≤ 1000 → W (f [.d (.tuple (dInts ns))] st) fun r => r = (.bool (ascI ns), st)
theorem asc_ok {Φ : Nat → Fn} {k : Nat} : SpAsc (fnOf 1 3 k Φ sl_is_ascending) := fun ns st hl => by
  refine (w_fnOf rfl).mpr ?_
  unfold sl_is_ascending
  walk_at "evb"
  refine ⟨.tuple (dInts (ns.drop 1)), ?_, ?_⟩
  · show some (PyData.tuple (cutL (dInts ns) (some 1) none)) = _
    rw [cut1, dInts, dInts, List.map_drop]
  refine ⟨_, rfl, ?_⟩
  rw [pair_ints]
  refine ⟨?_, ?_⟩
  · rw [List.length_map]
    have : ∀ ns : List Int, (pairsI ns).length ≤ ns.length := by
      intro ns
      induction ns with
      | nil => simp [pairsI]
      | cons x r ih =>
        cases r with
        | nil => simp [pairsI]
        | cons y r => simp only [pairsI, List.length_cons] at ih ⊢; omega
    have := this ns
    rw [show LIM = 1000000 from rfl]; omega
  · rw [lcAll (p := fun d => match d with | .tuple [.int a, .int b] => decide (a < b) | _ => false)]
    · rw [W_some, g_allB, List.all_map, List.map_map, List.all_map]
      have := asc_pairs ns
      simp only [Function.comp_def, id_eq] at this ⊢
      rw [this]
    · intro d hd
      obtain ⟨p, hp, rfl⟩ := List.mem_map.mp hd
      walk_at "evb"
def ascD (xs : List PyData) : Bool := match intsD xs with
  | some zs => ascI zs
  | none => false
def ascB (v : PyData) (ns : List Int) : Bool := match v with
  | .tuple xs => (xs.all fun x => oneB x ns) && ascD xs
  | _ => false
def allOne (v : PyData) (ns : List Int) : Bool := match v with
  | .tuple xs => xs.all fun x => oneB x ns
  | _ => false
theorem ascB_no {v : PyData} {ns : List Int} (h : allOne v ns = false) : ascB v ns = false := by
  cases v with
  | tuple xs => simp only [ascB, show (xs.all fun x => oneB x ns) = false from h, Bool.false_and]
  | _ => rfl
theorem allOne_t {xs : List PyData} {ns : List Int} : allOne (.tuple xs) ns = xs.all fun x => oneB x ns := rfl
theorem w_lcT {a : EvE} {Γ : Ev} {st : Pn} {Q : Bool × Pn → Prop} : W (lcTest (some a) Γ st) Q ↔ W (a Γ st) fun p => ∃ b, p.1 = .bool b ∧ Q (b, p.2) := by
  cases h : a Γ st with
  | none => simp only [lcTest, h, W_none]
  | some p =>
    obtain ⟨d, st1⟩ := p
    cases d with
    | bool b =>
      simp only [lcTest, h, W_some]
      exact ⟨fun q => ⟨_, rfl, q⟩, fun ⟨_, e, q⟩ => by cases e; exact q⟩
    | _ => simp [lcTest, h, W_none, W_some]
theorem allOne_n {v : PyData} {ns : List Int} (h : isTup v = false) : allOne v ns = false := by
  cases v <;> first | rfl | cases h
def tupLen (v : PyData) : Nat := match v with
  | .tuple xs => xs.length
  | _ => 0
theorem ones_ints {ns : List Int} : ∀ {xs : List PyData}, (xs.all fun x => oneB x ns) = true → ∃ zs, xs = dInts zs ∧ ∀ z ∈ zs, z ∈ ns
  | [], _ => ⟨[], rfl, fun z h => nomatch h⟩
  | x :: xs, h => by
    rw [List.all_cons, Bool.and_eq_true] at h
    obtain ⟨zs, rfl, hz⟩ := ones_ints h.2
    cases x with
    | int i =>
      have hi : i ∈ ns := of_decide_eq_true h.1
      refine ⟨i :: zs, rfl, fun z hm => ?_⟩
      rcases List.mem_cons.mp hm with rfl | hm
      · exact hi
      · exact hz z hm
    | _ => exact absurd h.1 Bool.false_ne_true
def SpChoice (f : Fn) : Prop := ∀ (v d : PyData) (ns : List Int) st, itemsD d = some (dInts ns) → tupLen v ≤ 1000 → W (f [.d v, .d d] st) fun r => r = (.bool (ascB v ns), st)
theorem choice_ok {Φ : Nat → Fn} {k : Nat} (h22 : SpOneOf (Φ 22)) (h55 : SpAsc (Φ 55)) : SpChoice (fnOf 2 3 k Φ sl_is_ascending_choice) := fun v d ns st hd hl => by
  refine (w_fnOf rfl).mpr ?_
  unfold sl_is_ascending_choice
  walk_at "ev"
  refine W_mono (Q := fun p => p = (.bool (!allOne v ns), st)) ?_ ?_
  · walk_at "evb"
    cases hv : isTup v with
    | false => simp [allOne_n hv]
    | true =>
      obtain ⟨xs, rfl⟩ := isTup_ex hv
      have hl : xs.length ≤ 1000 := hl
      walk_at "evb"
      refine ⟨by rw [show LIM = 1000000 from rfl]; omega, ?_⟩
      rw [lcAll (p := fun x => oneB x ns)]
      · rw [W_some, g_allB, List.all_map]
        simp [Function.comp_def, allOne_t]
      · intro x hx
        walk_at "evb"
        exact h22 x d ns st hd
  · rintro _ rfl
    cases ha : allOne v ns with
    | false =>
      walk_at "evb"
      rw [ascB_no ha]
    | true =>
      walk_at "evb"
      have hv : isTup v = true := by
        cases hv : isTup v with
        | true => rfl
        | false => rw [allOne_n hv] at ha; cases ha
      obtain ⟨xs, rfl⟩ := isTup_ex hv
      rw [allOne_t] at ha
      obtain ⟨zs, rfl, hz⟩ := ones_ints ha
      refine W_mono (h55 zs st (by simpa [tupLen] using hl)) ?_
      rintro _ rfl
      simp only [ascB, ha, Bool.true_and, ascD, dInts, intsD_map]
def wholeB : PyData → Int → Int → Bool
  | .int i, lo, hi => decide (lo ≤ i ∧ i ≤ hi)
  | _, _, _ => false
def SpWholeA (f : Fn) : Prop := ∀ (v : PyData) (lo hi : Int) st, W (f [.d v, .d (.int lo), .d (.int hi)] st) fun r => r = (.bool (wholeB v lo hi), st)
theorem wholeA_ok {Φ : Nat → Fn} {k : Nat} : SpWholeA (fnOf 3 3 k Φ sl_law_whole) := fun v lo hi st => by
  refine (w_fnOf rfl).mpr ?_
  unfold sl_law_whole
  walk_at "evb"
  cases v with
  | int i =>
    refine ⟨fun _ => ?_, fun h => nomatch h⟩
    refine ⟨fun _ => ?_, fun h => nomatch h⟩
    rw [g_le, W_some]
    refine ⟨_, rfl, fun h => ?_, fun h => ?_⟩
    · rw [g_le, W_some]
      have h := of_decide_eq_true h
      simp [h, wholeB]
    · have h := of_decide_eq_false h
      simp [h, wholeB]
  | bool b => exact ⟨fun _ => ⟨(fun h => nomatch h), fun _ => rfl⟩, fun h => nomatch h⟩
  | _ => exact ⟨(fun h => nomatch h), fun _ => rfl⟩
def tupB (v : PyData) (m : Int) : Bool := match v with
  | .tuple xs => decide ((xs.length : Int) = m)
  | _ => false
def SpIsTup (f : Fn) : Prop := ∀ (v : PyData) (m : Int) st, W (f [.d v, .d (.int m)] st) fun r => r = (.bool (tupB v m), st)
theorem isTup_ok {Φ : Nat → Fn} {k : Nat} : SpIsTup (fnOf 2 2 k Φ sl_law_is_tuple) := fun v m st => by
  refine (w_fnOf rfl).mpr ?_
  unfold sl_law_is_tuple
  walk_at "evb"
  cases v with
  | tuple xs =>
    refine ⟨fun _ => ?_, fun h => nomatch h⟩
    walk_at "evb"
    rfl
  | _ => exact ⟨(fun h => nomatch h), fun _ => rfl⟩
theorem srtU_self {ns : List Int} (h : ns.Pairwise (· < ·)) : srtU ns = ns := by
  have h1 := srtU_sorted ns
  exact List.Perm.eq_of_pairwise (fun a b _ _ h1 h2 => absurd h1 (Int.lt_asymm h2)) h1 h ((List.perm_ext_iff_of_nodup (nodup_of_lt h1) (nodup_of_lt h)).mpr fun x => srtU_mem x ns)
theorem srtU_eq_iff {ns : List Int} : (ns = srtU ns) ↔ ns.Pairwise (· < ·) := ⟨fun h => by rw [h]; exact srtU_sorted ns, fun h => (srtU_self h).symm⟩
def SpAreVars (f : Fn) : Prop := ∀ (v d : PyData) (ns : List Int) st, itemsD d = some (dInts ns) → Sm ns → tupLen v < 64 → W (f [.d d, .d v] st) fun r => r = (.bool (ascB v ns), st)
theorem areVars_ok {Φ : Nat → Fn} {k : Nat} (h9 : SpWholeA (Φ 9)) : SpAreVars (fnOf 2 3 k Φ sl_law_are_variables) := fun v d ns st hd hs hl => by
  refine (w_fnOf rfl).mpr ?_
  unfold sl_law_are_variables
  walk_at "ev"
  refine W_mono (Q := fun p => p = (.bool (!allOne v ns), st)) ?_ ?_
  · walk_at "evb"
    cases hv : isTup v with
    | false => simp [allOne_n hv]
    | true =>
      obtain ⟨xs, rfl⟩ := isTup_ex hv
      have hl : xs.length < 64 := hl
      walk_at "evb"
      refine ⟨by rw [show LIM = 1000000 from rfl]; omega, ?_⟩
      rw [lcMap (f := fun _ => .int 1) (p := fun x => !oneB x ns)]
      · rw [W_some]
        refine ⟨by decide, ?_⟩
        have e : (xs.filter fun x => !oneB x ns).map (fun _ => PyData.int 1) = dInts ((xs.filter fun x => !oneB x ns).map fun _ => (1 : Int)) := by
          rw [dInts, List.map_map]; rfl
        rw [e, g_neL0]
        have e2 : decide ((xs.filter fun x => !oneB x ns).map (fun _ => (1 : Int)) = []) = xs.all fun x => oneB x ns := by
          rw [Bool.eq_iff_iff, decide_eq_true_eq, List.map_eq_nil_iff, List.filter_eq_nil_iff, List.all_eq_true]
          simp
        rw [e2]
        simp [allOne_t]
      · intro x hx
        simp only [asT, W_some, w_lcT]
        walk_at "evb"
        refine W_mono (h9 x 0 6 st) ?_
        rintro _ rfl
        cases x with
        | int i =>
          by_cases hw : (0 : Int) ≤ i ∧ i ≤ 6
          · have e : wholeB (.int i) 0 6 = true := decide_eq_true hw
            rw [e]
            walk_at "evb"
            rw [g_notIn hd, W_some]
            refine ⟨_, rfl, ?_⟩
            simp [oneB]
          · have e : wholeB (.int i) 0 6 = false := decide_eq_false hw
            rw [e]
            have e2 : oneB (.int i) ns = false := by
              refine decide_eq_false fun hi => hw ?_
              have := hs i hi
              omega
            rw [e2]
            exact ⟨_, rfl, (fun _ => rfl), fun h => nomatch h⟩
        | _ => exact ⟨_, rfl, (fun _ => rfl), fun h => nomatch h⟩
  · rintro _ rfl
    cases ha : allOne v ns with
    | false =>
      walk_at "evb"
      rw [ascB_no ha]
    | true =>
      have hv : isTup v = true := by
        cases hv : isTup v with
        | true => rfl
        | false => rw [allOne_n hv] at ha; cases ha
      obtain ⟨xs, rfl⟩ := isTup_ex hv
      have hl : xs.length < 64 := hl
      rw [allOne_t] at ha
      obtain ⟨zs, rfl, hz⟩ := ones_ints ha
      have hl : zs.length < 64 := by simpa using hl
      walk_at "evb"
      refine ⟨hl, ?_⟩
      rw [g_eqL]
      simp only [ascB, ha, Bool.true_and, ascD, dInts, intsD_map, Prod.mk.injEq, PyData.bool.injEq, and_true]
      rw [Bool.eq_iff_iff, decide_eq_true_eq, ascI_iff]
      exact srtU_eq_iff
end Mn
set_option exponentiation.threshold 3000
namespace Mn
open PySem PySem.Spec PyProof.Rows L2
/-! the size of any value -/
mutual
def Sz (b : Nat) : PyData → Prop
  | .none => True
  | .bool _ => True
  | .int i => i.natAbs ≤ 10 ^ 12 + b
  | .str x => x.cps.size ≤ 10 ∧ (x.cps.toList.all fun c => decide (c < 16 ^ 8)) = true
  | .list xs => xs.length ≤ b ∧ SzA b xs
  | .tuple xs => xs.length ≤ b ∧ SzA b xs
  | .dict kvs => kvs = []
def SzA (b : Nat) : List PyData → Prop
  | [] => True
  | x :: xs => Sz b x ∧ SzA b xs
end
theorem szA_iff {b : Nat} : ∀ {xs : List PyData}, SzA b xs ↔ ∀ x ∈ xs, Sz b x
  | [] => by simp [SzA]
  | x :: xs => by
    have ih := szA_iff (b := b) (xs := xs)
    simp only [SzA, ih, List.mem_cons, forall_eq_or_imp]
mutual
theorem Sz.mono {b b' : Nat} (h : b ≤ b') : ∀ d : PyData, Sz b d → Sz b' d
  | .none, _ => by simp only [Sz]
  | .bool _, _ => by simp only [Sz]
  | .int i, q => by simp only [Sz] at q ⊢; omega
  | .str x, q => by simp only [Sz] at q ⊢; exact q
  | .list xs, q => by simp only [Sz] at q ⊢; exact ⟨Nat.le_trans q.1 h, SzA.mono h xs q.2⟩
  | .tuple xs, q => by simp only [Sz] at q ⊢; exact ⟨Nat.le_trans q.1 h, SzA.mono h xs q.2⟩
  | .dict kvs, q => by simp only [Sz] at q ⊢; exact q
theorem SzA.mono {b b' : Nat} (h : b ≤ b') : ∀ xs : List PyData, SzA b xs → SzA b' xs
  | [], _ => by simp only [SzA]
  | x :: xs, q => by simp only [SzA] at q ⊢; exact ⟨Sz.mono h x q.1, SzA.mono h xs q.2⟩
end
theorem int_small {i : Int} (h : i.natAbs ≤ 2 * 10 ^ 12) : i.natAbs.log2 < 1920 ∧ (PyData.shown (.int i)).length ≤ 22 := by
  constructor
  · by_cases e : i.natAbs = 0
    · rw [e]; decide
    · refine (Nat.log2_lt e).mpr (Nat.lt_of_le_of_lt h ?_)
      exact Nat.lt_of_lt_of_le (by decide : 2 * 10 ^ 12 < 2 ^ 41) (Nat.pow_le_pow_right (by decide) (by decide))
  · have e := int_text_length_le10 (a := i) (k := 20) (by decide) (Nat.lt_of_le_of_lt h (by decide))
    show (Str.ofString (toString i)).length ≤ 22
    rw [PySem.ofString_length]; omega
mutual
theorem sz_gd {b : Nat} (hb : b ≤ 10 ^ 12) : ∀ d : PyData, Sz b d → d.showable = true ∧ d.leavesShort 22 = true
  | .none, _ => by simp [PyData.showable, PyData.leavesShort]
  | .bool _, _ => by simp [PyData.showable, PyData.leavesShort]
  | .int i, q => by
    simp only [Sz] at q
    have := int_small (i := i) (by omega)
    simp only [PyData.showable, PyData.leavesShort, decide_eq_true_eq]
    exact this
  | .str x, q => by simp only [Sz] at q; simp only [PyData.showable, PyData.leavesShort]; exact ⟨trivial, q.2⟩
  | .list xs, q => by simp only [Sz] at q; simp only [PyData.showable, PyData.leavesShort]; exact szA_gd hb xs q.2
  | .tuple xs, q => by simp only [Sz] at q; simp only [PyData.showable, PyData.leavesShort]; exact szA_gd hb xs q.2
  | .dict kvs, q => by simp only [Sz] at q; subst q; simp [PyData.showable, PyData.leavesShort, PyData.showableKv, PyData.leavesShortKv]
theorem szA_gd {b : Nat} (hb : b ≤ 10 ^ 12) : ∀ xs : List PyData, SzA b xs → PyData.showableAll xs = true ∧ PyData.leavesShortAll 22 xs = true
  | [], _ => by simp [PyData.showableAll, PyData.leavesShortAll]
  | x :: xs, q => by
    simp only [SzA] at q
    have h1 := sz_gd hb x q.1
    have h2 := szA_gd hb xs q.2
    simp only [PyData.showableAll, PyData.leavesShortAll, h1.1, h1.2, h2.1, h2.2, Bool.and_self]
    exact ⟨trivial, trivial⟩
end
theorem depthA_iff {k : Nat} : ∀ {xs : List PyData}, PyData.depthAll xs ≤ k ↔ ∀ x ∈ xs, x.depth ≤ k
  | [] => by simp [PyData.depthAll]
  | x :: xs => by
    have ih := depthA_iff (k := k) (xs := xs)
    simp only [PyData.depthAll, List.mem_cons, forall_eq_or_imp, ← ih]
    omega
theorem bulkA_append : ∀ xs ys : List PyData, PyData.bulkAll (xs ++ ys) = PyData.bulkAll xs + PyData.bulkAll ys
  | [], ys => by simp [PyData.bulkAll]
  | x :: xs, ys => by
    have ih := bulkA_append xs ys
    simp only [List.cons_append, PyData.bulkAll, ih]
    omega
theorem bulkA_sub {xs ys : List PyData} (h : xs.Sublist ys) : PyData.bulkAll xs ≤ PyData.bulkAll ys := by
  induction h with
  | slnil => exact Nat.le_refl _
  | cons a _ ih => simp only [PyData.bulkAll]; omega
  | cons_cons a _ ih => simp only [PyData.bulkAll]; omega
theorem bulkA_rev : ∀ xs : List PyData, PyData.bulkAll xs.reverse = PyData.bulkAll xs
  | [] => rfl
  | x :: xs => by rw [List.reverse_cons, bulkA_append, bulkA_rev xs]; simp only [PyData.bulkAll]; omega
theorem cut_sub {α : Type} (xs : List α) (lo hi : Option Int) : (cutL xs lo hi).Sublist xs := (List.take_sublist _ _).trans (List.drop_sublist _ _)
theorem cut_drop {α : Type} (xs : List α) (m : Nat) : cutL xs (some (m : Int)) none = xs.drop m := by
  unfold cutL
  rw [HT.sIx_none, HT.sIx_nat]
  by_cases h : m ≤ xs.length
  · rw [Nat.min_eq_left h, List.take_of_length_le (by rw [List.length_drop]; omega)]
  · rw [Nat.min_eq_right (by omega), Nat.sub_self, List.take_zero, List.drop_eq_nil_of_le (by omega)]
/-- within bounds -/
structure Bd (b k B : Nat) (d : PyData) : Prop where
  sz : Sz b d
  dp : d.depth ≤ k
  bk : d.bulk ≤ B
theorem Bd.up {b k B b' k' B' : Nat} {d : PyData} (h : Bd b k B d) (h1 : b ≤ b') (h2 : k ≤ k') (h3 : B ≤ B') : Bd b' k' B' d := ⟨h.sz.mono h1, Nat.le_trans h.dp h2, Nat.le_trans h.bk h3⟩
theorem Bd.gd {b k B : Nat} {d : PyData} (h : Bd b k B d) (hb : b ≤ 10 ^ 12) : Gd k B d := ⟨(sz_gd hb d h.sz).1, (sz_gd hb d h.sz).2, h.dp, h.bk⟩
structure BdA (b k B : Nat) (xs : List PyData) : Prop where
  sz : ∀ x ∈ xs, Sz b x
  dp : ∀ x ∈ xs, x.depth ≤ k
  bk : PyData.bulkAll xs ≤ B
theorem Bd.tupE {b k B : Nat} {xs : List PyData} (h : Bd b k B (.tuple xs)) : xs.length ≤ b ∧ 1 ≤ k ∧ BdA b (k - 1) B xs := by
  obtain ⟨h1, h2, h3⟩ := h
  simp only [Sz] at h1
  simp only [PyData.depth] at h2
  simp only [PyData.bulk] at h3
  exact ⟨h1.1, by omega, szA_iff.mp h1.2, depthA_iff.mp (by omega), h3⟩
theorem BdA.tup {b k B : Nat} {xs : List PyData} (h : BdA b k B xs) (hl : xs.length ≤ b) : Bd b (k + 1) B (.tuple xs) := by
  have := depthA_iff.mpr h.dp
  constructor
  · simp only [Sz]; exact ⟨hl, szA_iff.mpr h.sz⟩
  · simp only [PyData.depth]; omega
  · simp only [PyData.bulk]; exact h.bk
theorem BdA.lst {b k B : Nat} {xs : List PyData} (h : BdA b k B xs) (hl : xs.length ≤ b) : Bd b (k + 1) B (.list xs) := by
  have := depthA_iff.mpr h.dp
  constructor
  · simp only [Sz]; exact ⟨hl, szA_iff.mpr h.sz⟩
  · simp only [PyData.depth]; omega
  · simp only [PyData.bulk]; exact h.bk
theorem BdA.up {b k B b' k' B' : Nat} {xs : List PyData} (h : BdA b k B xs) (h1 : b ≤ b') (h2 : k ≤ k') (h3 : B ≤ B') : BdA b' k' B' xs := ⟨fun x hx => (h.sz x hx).mono h1, fun x hx => Nat.le_trans (h.dp x hx) h2, Nat.le_trans h.bk h3⟩
theorem BdA.sub {b k B : Nat} {xs ys : List PyData} (h : BdA b k B xs) (s : ys.Sublist xs) : BdA b k B ys := ⟨fun x hx => h.sz x (s.subset hx), fun x hx => h.dp x (s.subset hx), Nat.le_trans (bulkA_sub s) h.bk⟩
theorem BdA.append {b k B B' : Nat} {xs ys : List PyData} (h : BdA b k B xs) (h' : BdA b k B' ys) : BdA b k (B + B') (xs ++ ys) :=
  ⟨fun x hx => (List.mem_append.mp hx).elim (h.sz x) (h'.sz x), fun x hx => (List.mem_append.mp hx).elim (h.dp x) (h'.dp x), by have := h.bk; have := h'.bk; rw [bulkA_append]; omega⟩
theorem BdA.one {b k B : Nat} {x : PyData} (h : Bd b k B x) : BdA b k (B + 1) [x] :=
  ⟨fun y hy => by rw [List.mem_singleton.mp hy]; exact h.sz, fun y hy => by rw [List.mem_singleton.mp hy]; exact h.dp, by have := h.bk; simp only [PyData.bulkAll]; omega⟩
theorem BdA.nil {b k B : Nat} : BdA b k B [] := ⟨(fun x h => nomatch h), (fun x h => nomatch h), by show PyData.bulkAll [] ≤ B; simp [PyData.bulkAll]⟩
theorem BdA.rev {b k B : Nat} {xs : List PyData} (h : BdA b k B xs) : BdA b k B xs.reverse := ⟨fun x hx => h.sz x (List.mem_reverse.mp hx), fun x hx => h.dp x (List.mem_reverse.mp hx), by rw [bulkA_rev]; exact h.bk⟩
theorem BdA.all {b k B : Nat} : ∀ {xs : List PyData}, (∀ x ∈ xs, Bd b k B x) → BdA b k (xs.length * (B + 1)) xs
  | [], _ => .nil
  | x :: xs, h => by
    have h1 := BdA.append (.one (h x (List.mem_cons_self ..))) (BdA.all (xs := xs) fun y hy => h y (List.mem_cons_of_mem _ hy))
    rw [List.length_cons, Nat.add_mul, Nat.one_mul, Nat.add_comm]
    exact h1
theorem bd_int {b k B : Nat} {i : Int} (h : i.natAbs ≤ 10 ^ 12 + b) : Bd b k B (.int i) := ⟨by simp only [Sz]; exact h, by simp [PyData.depth], by simp [PyData.bulk]⟩
theorem bd_bool {b k B : Nat} {x : Bool} : Bd b k B (.bool x) := ⟨by simp only [Sz], by simp [PyData.depth], by simp [PyData.bulk]⟩
theorem bd_none {b k B : Nat} : Bd b k B .none := ⟨by simp only [Sz], by simp [PyData.depth], by simp [PyData.bulk]⟩
local macro_rules | `(tactic| walk_at "ev") => `(tactic| simp only [isa_T, isa_I, isa_B, ty_T, ty_I, g_eqN, g_eqI, w_zip, w_d0, evB, evS, evTL, evTFL, evCL, evE, evEs, evF, evI, evC, evO, evG, O2.g, B1.g, F1.g,
  w_k, w_v, w_2, w_tup, w_fr, w_lst, w_nil, w_cons, w_not, w_neg, w_call, w_callF, w_isa, w_tyis, w_o0, w_o1, w_sl, w_sset, w_lset, w_lrg, w_pix, w_lenS, w_fn, w_gn, w_gd, w_gp, w_it, w_enum, w_rng1, w_lc, w_sc, w_fz, w_pop, w_scF, w_fzF,
  w_next, w_seq, w_ret, w_drop, w_asg, w_ifS, w_own, w_lcD, w_cmO, w_cmD, w_par, w_app, w_ext, w_pset, w_for, w_forR, W_some, W_none, W_ite,
  List.getElem?_cons_zero, List.getElem?_cons_succ, List.getElem?_nil, frzBy, frz1, List.contains_nil, List.contains_cons, as_nm, as_tup, as_nil, w_asTs, penD, penPut, List.set_cons_zero, List.set_cons_succ, wipeE,
  items_l, items_t, g_add, g_sub, g_mod, g_fdiv, g_mul, g_pow, g_lt, g_le, g_gt, g_ge, g_lenL, g_lenT, g_int1, g_min, g_max, g_tupL, g_tupT, g_listL, g_listT, isa_ii, isa_ib, isa_tt, g_ix20, g_ix21, g_ix30, g_ix31, g_ix32, g_sortL, w_ssetL, w_ssetT, w_lsetT, Bool.not_true, Bool.not_false, List.length_map, Option.bind_some, scalD, Bool.and_true, Bool.true_and, List.all_cons, List.all_nil,
  Option.some.injEq, Sl.d.injEq, Sl.own.injEq, Sl.scr.injEq, PyData.int.injEq, PyData.bool.injEq, PyData.list.injEq, PyData.tuple.injEq, exists_eq_left', exists_eq_left, exists_eq', exists_eq, exists_and_left, true_and, and_true, if_true, if_false, ite_true, ite_false,
  allS, Nat.reduceAdd, Nat.reduceBEq, Bool.or_false, Bool.or_true, Bool.false_or, Bool.true_or, Bool.false_eq_true, reduceIte, reduceCtorEq, List.length_cons, List.length_nil, Int.reduceEq, decide_eq_true_eq, decide_eq_false_iff_not, one_ne_zero, not_false_eq_true,
  startE, List.map_cons, List.map_nil, slOf, List.replicate_zero, List.replicate_succ, List.cons_append, List.nil_append, Nat.reduceSub, forall_const, false_implies, implies_true])
local macro_rules | `(tactic| walk_at "evb") => `(tactic| simp only [isa_T, isa_I, isa_B, ty_T, ty_I, g_eqN, g_eqI, w_zip, w_d0, evB, evS, evTL, evTFL, evCL, evE, evEs, evF, evI, evC, evO, evG, O2.g, B1.g, F1.g,
  w_k, w_v, w_2, w_tup, w_fr, w_lst, w_nil, w_cons, w_and, w_or, w_not, w_neg, w_if, w_ch, w_call, w_callF, w_isa, w_tyis, w_o0, w_o1, w_sl, w_sset, w_lset, w_lrg, w_pix, w_lenS, w_fn, w_gn, w_gd, w_gp, w_it, w_enum, w_rng1, w_lc, w_sc, w_fz, w_pop, w_scF, w_fzF,
  w_next, w_seq, w_ret, w_drop, w_asg, w_ifS, w_own, w_lcD, w_cmO, w_cmD, w_par, w_app, w_ext, w_pset, w_for, w_forR, W_some, W_none, W_ite,
  List.getElem?_cons_zero, List.getElem?_cons_succ, List.getElem?_nil, frzBy, frz1, List.contains_nil, List.contains_cons, as_nm, as_tup, as_nil, w_asTs, penD, penPut, List.set_cons_zero, List.set_cons_succ, wipeE,
  items_l, items_t, g_add, g_sub, g_mod, g_fdiv, g_mul, g_pow, g_lt, g_le, g_gt, g_ge, g_lenL, g_lenT, g_int1, g_min, g_max, g_tupL, g_tupT, g_listL, g_listT, isa_ii, isa_ib, isa_tt, g_ix20, g_ix21, g_ix30, g_ix31, g_ix32, g_sortL, w_ssetL, w_ssetT, w_lsetT, Bool.not_true, Bool.not_false, List.length_map, Option.bind_some, scalD, Bool.and_true, Bool.true_and, List.all_cons, List.all_nil,
  Option.some.injEq, Sl.d.injEq, Sl.own.injEq, Sl.scr.injEq, PyData.int.injEq, PyData.bool.injEq, PyData.list.injEq, PyData.tuple.injEq, exists_eq_left', exists_eq_left, exists_eq', exists_eq, exists_and_left, true_and, and_true, if_true, if_false, ite_true, ite_false,
  allS, Nat.reduceAdd, Nat.reduceBEq, Bool.or_false, Bool.or_true, Bool.false_or, Bool.true_or, Bool.false_eq_true, reduceIte, reduceCtorEq, List.length_cons, List.length_nil, Int.reduceEq, decide_eq_true_eq, decide_eq_false_iff_not, one_ne_zero, not_false_eq_true,
  startE, List.map_cons, List.map_nil, slOf, List.replicate_zero, List.replicate_succ, List.cons_append, List.nil_append, Nat.reduceSub, forall_const, false_implies, implies_true])
theorem odd_small {x : PyData} (h : x ∈ ([.none, .bool true, .bool false, .int (-1), .int 0, .int 1, .int 2, .int 3, .int 8, .int 9, .int 24, .str (Str.ofString ""), .str (Str.ofString "0"), .str (Str.ofString "first"), .tuple [], .list [], .dict [], .tuple [.int 0], .tuple [.int 0, .int 1], .tuple [.int 0, .int 1, .int 2], .int (10 ^ 12), .int (10 ^ 12 + 1), .int (-10 ^ 12 - 1), .tuple [.tuple []], .list [.int 1], .tuple [.int 1, .tuple []], .tuple [.none, .int 0, .int 0]] : List PyData)) : Bd 8 2 20 x := by
  simp only [List.mem_cons, List.not_mem_nil, or_false] at h
  rcases h with rfl | rfl | rfl | rfl | rfl | rfl | rfl | rfl | rfl | rfl | rfl | rfl | rfl | rfl | rfl | rfl | rfl | rfl | rfl | rfl | rfl | rfl | rfl | rfl | rfl | rfl | rfl <;>
    (constructor <;> first | (simp [Sz, SzA, PyData.depth, PyData.depthAll, PyData.depthKv, PyData.bulk, PyData.bulkAll, PyData.bulkKv]; done) | (simp only [Sz]; decide) | decide +kernel)
def SpOdd (f : Fn) : Prop := ∀ st, W (f [.pen] st) fun r => Bd 8 2 20 r.1
theorem g_ten : W (gPow (.int 10) (.int 12)) Q ↔ Q (.int (10 ^ 12)) := by
  rw [g_pow]
  exact ⟨fun h => h.2, fun h => ⟨by decide, h⟩⟩
theorem odd_ok {Φ : Nat → Fn} {k : Nat} (h8 : SpOne (Φ 8)) : SpOdd (fnOf 1 2 k Φ sl_law_odd) := fun st => by
  refine (w_fnOf rfl).mpr ?_
  unfold sl_law_odd
  walk_at "ev"
  repeat (refine ⟨by decide, ?_⟩)
  rw [g_addL]
  refine ⟨by decide, W_mono (h8 _ st (List.cons_ne_nil _ _) (by decide)) fun r hr => odd_small ?_⟩
  exact hr
theorem w_rev {a : EvE} {Γ : Ev} {st : Pn} {Q : PyData × Pn → Prop} : W (evRev a Γ st) Q ↔ W (a Γ st) fun p => (∃ xs, p.1 = .list xs ∧ Q (.list xs.reverse, p.2)) ∨ ∃ xs, p.1 = .tuple xs ∧ Q (.tuple xs.reverse, p.2) := by
  cases h : a Γ st with
  | none => simp only [evRev, h, W_none]
  | some p =>
    obtain ⟨d, st1⟩ := p
    cases d <;> simp [evRev, h, W_none, W_some]
theorem g_addT {xs ys : List PyData} {Q : PyData → Prop} : W (gAdd (.tuple xs) (.tuple ys)) Q ↔ xs.length + ys.length ≤ LIM ∧ Q (.tuple (xs ++ ys)) := by
  show W (if xs.length + ys.length ≤ LIM then some (PyData.tuple (xs ++ ys)) else none) Q ↔ _
  rw [W_ite, W_some]
theorem g_cutT {xs : List PyData} {lo hi : Option Int} : cutD (.tuple xs) lo hi = some (.tuple (cutL xs lo hi)) := rfl
/-! one part changed -/
def SpBent (n : Nat) (f : Fn) : Prop := ∀ (j : Nat) (d : PyData) (b k B : Nat) st, j ≤ n → Bd b k B d → 8 ≤ b → b ≤ 1000 → j + 2 ≤ k → W (f [.pen, .d d, .d (.int j)] st) fun r => Bd (b + 1) k (2 * B + 20) r.1
theorem bent_ok {Φ : Nat → Fn} {kk n : Nat} (h7 : SpDraw (Φ 7)) (h28 : SpOdd (Φ 28)) (h29 : ∀ m, n = m + 1 → SpBent m (Φ 29)) : SpBent n (fnOf 3 5 kk Φ sl_law_bent) := fun j d b k B st hj hd hb0 hb hk => by
  refine (w_fnOf rfl).mpr ?_
  unfold sl_law_bent
  walk_at "ev"
  refine W_mono (Q := fun p => ∃ c, p.1 = .bool c ∧ (c = false → ∃ xs, d = .tuple xs ∧ xs ≠ [] ∧ j ≠ 0)) ?_ ?_
  · walk_at "evb"
    intro ht
    have ht : isTup d = true := by simpa using ht
    obtain ⟨xs, rfl⟩ := isTup_ex ht
    refine ⟨by decide, ?_⟩
    rw [g_eqN]
    refine ⟨_, rfl, fun hx => ?_⟩
    intro hj0
    refine W_mono (h7 6 st (by decide) (by decide)) fun r ⟨z, hz, z0, z1⟩ => ?_
    rw [hz, g_eqI]
    refine ⟨_, rfl, fun _ => ⟨xs, rfl, ?_, by omega⟩⟩
    rintro rfl
    cases hx
  · rintro ⟨d0, st1⟩ ⟨c, e, hc⟩
    have e : d0 = .bool c := e
    subst e
    cases c with
    | true =>
      walk_at "ev"
      refine W_mono (h7 8 st1 (by decide) (by decide)) fun r ⟨z, hz, z0, z1⟩ => ?_
      rw [hz]
      have iob : (j : Int).natAbs = j := by omega
      refine W_mono (Q := fun p => ∃ c2, p = (.bool c2, r.2) ∧ (c2 = true → z < 6 ∧ ∃ i, d = .int i)) ?_ ?_
      · walk_at "evb"
        refine ⟨fun h1 => ⟨fun h2 => ?_, fun _ => ?_⟩, fun _ => ?_⟩
        · exact ⟨_, rfl, fun h3 => ⟨of_decide_eq_true h3, isIntB_ex h1 (by simpa using h2)⟩⟩
        · exact ⟨_, rfl, fun h => nomatch h⟩
        · exact ⟨_, rfl, fun h => nomatch h⟩
      · rintro _ ⟨c2, rfl, hc2⟩
        refine ⟨c2, rfl, fun h => ?_, fun _ => ?_⟩
        · obtain ⟨z6, i, rfl⟩ := hc2 h
          have hi := hd.sz
          simp only [Sz] at hi
          rw [g_add, W_some, g_sub, W_some, g_eqI, W_some]
          refine ⟨by decide, ?_⟩
          refine g_ixL z0 (by simp only [List.length_cons, List.length_nil]; omega) fun x hx => ?_
          have hm := List.mem_of_getElem? hx
          simp only [List.mem_cons, List.not_mem_nil, or_false] at hm
          rcases hm with rfl | rfl | rfl | rfl | rfl | rfl
          · exact bd_int (by omega)
          · exact bd_int (by omega)
          · exact bd_bool
          · exact bd_int (by omega)
          · exact bd_int (by omega)
          · exact bd_int (by omega)
        · refine W_mono (Q := fun p => ∃ c3, p = (.bool c3, r.2) ∧ (c3 = true → z < 6 ∧ ∃ xs, d = .tuple xs)) ?_ ?_
          · walk_at "evb"
            refine ⟨fun h1 => ?_, fun _ => ?_⟩
            · exact ⟨_, rfl, fun h3 => ⟨of_decide_eq_true h3, isTup_ex h1⟩⟩
            · exact ⟨_, rfl, fun h => nomatch h⟩
          · rintro _ ⟨c3, rfl, hc3⟩
            refine ⟨c3, rfl, fun h => ?_, fun _ => ?_⟩
            · obtain ⟨z6, xs, rfl⟩ := hc3 h
              obtain ⟨hl, hk1, hA⟩ := hd.tupE
              have fin : ∀ {ys : List PyData} {B' : Nat}, BdA b (k - 1) B' ys → B' ≤ 2 * B + 20 → ys.length ≤ b + 1 → Bd (b + 1) k (2 * B + 20) (.tuple ys) := fun {ys B'} h1 h2 h3 => by
                have := (h1.up (Nat.le_succ b) (Nat.le_refl _) h2).tup h3
                rw [Nat.sub_add_cancel hk1] at this
                exact this
              have hx1 : ∀ lo hi, (cutL xs lo hi).length ≤ xs.length := fun lo hi => (cut_sub xs lo hi).length_le
              have hLIM : LIM = 1000000 := rfl
              rw [g_cutT, W_some, g_cutT, W_some, g_cutT, W_some, g_addT]
              have h11 := hx1 none (some 1)
              have h12 : (cutL xs none (some 1)).length ≤ 1 := by
                rw [show ((1 : Int)) = ((1 : Nat) : Int) from rfl, cut_take, List.length_take]; omega
              refine ⟨by omega, ?_⟩
              rw [w_rev]
              walk_at "ev"
              rw [g_addT]
              refine .inr ⟨by decide, by simp only [List.length_cons, List.length_nil]; omega, by decide, ?_⟩
              refine g_ixL z0 (by simp only [List.length_cons, List.length_nil]; omega) fun x hx => ?_
              have hm := List.mem_of_getElem? hx
              simp only [List.mem_cons, List.not_mem_nil, or_false] at hm
              rcases hm with rfl | rfl | rfl | rfl | rfl | rfl
              · exact fin (hA.sub (cut_sub ..)) (by omega) (by have := hx1 (some 1) none; omega)
              · exact fin (hA.sub (cut_sub ..)) (by omega) (by have := hx1 none (some (-1)); omega)
              · exact fin (hA.append (hA.sub (cut_sub ..))) (by omega) (by rw [List.length_append]; omega)
              · exact fin hA.rev (by omega) (by rw [List.length_reverse]; omega)
              · have := (hA.up (Nat.le_succ b) (Nat.le_refl _) (show B ≤ 2 * B + 20 by omega)).lst (by omega)
                rw [Nat.sub_add_cancel hk1] at this
                exact this
              · exact fin (hA.append (.one (B := 0) (bd_int (by show 0 ≤ _; omega)))) (by omega) (by rw [List.length_append]; simp only [List.length_cons, List.length_nil]; omega)
            · exact W_mono (h28 r.2) fun r2 h2 => h2.up (by omega) (by omega) (by omega)
    | false =>
      obtain ⟨xs, rfl, hx, hj0⟩ := hc rfl
      obtain ⟨hl, hk1, hA⟩ := hd.tupE
      have hx' := List.length_pos_iff.mpr hx
      walk_at "ev"
      refine W_mono (h7 xs.length st1 (by omega) (by omega)) fun r ⟨z, hz, z0, z1⟩ => ?_
      rw [hz]
      refine ⟨z, rfl, ?_⟩
      obtain ⟨m, rfl⟩ : ∃ m : Nat, z = (m : Int) := ⟨z.toNat, by omega⟩
      have hm : m < xs.length := by omega
      rw [g_cutT, W_some]
      refine g_ixT z0 z1 fun x hx1 => ?_
      have hx1 : xs[m]? = some x := by simpa using hx1
      have hxm := List.mem_of_getElem? hx1
      obtain ⟨n', rfl⟩ : ∃ n', n = n' + 1 := ⟨n - 1, by omega⟩
      have hb1 : Bd b (k - 1) x.bulk x := ⟨hA.sz x hxm, hA.dp x hxm, Nat.le_refl _⟩
      rw [show (j : Int) - 1 = ((j - 1 : Nat) : Int) by omega]
      refine W_mono (h29 n' rfl (j - 1) x b (k - 1) x.bulk r.2 (by omega) hb1 hb0 hb (by omega)) fun r2 h2 => ?_
      have hLIM : LIM = 1000000 := rfl
      have e1 : xs = xs.take m ++ (x :: xs.drop (m + 1)) := by
        have h3 := List.getElem?_eq_some_iff.mp hx1
        obtain ⟨h3, h4⟩ := h3
        rw [← h4, List.getElem_cons_drop, List.take_append_drop]
      have hbk : PyData.bulkAll xs = PyData.bulkAll (xs.take m) + (x.bulk + 1 + PyData.bulkAll (xs.drop (m + 1))) := by
        conv => lhs; rw [e1]
        rw [bulkA_append]
        simp only [PyData.bulkAll]
      have hB := hA.bk
      rw [cut_take, g_addT]
      refine ⟨by decide, by simp only [List.length_take, List.length_cons, List.length_nil]; omega, ?_⟩
      rw [g_add, W_some]
      refine ⟨_, rfl, ?_⟩
      rw [show (m : Int) + 1 = ((m + 1 : Nat) : Int) by omega, g_cutT, W_some, cut_drop, g_addT]
      refine ⟨by simp only [List.length_append, List.length_take, List.length_drop, List.length_cons, List.length_nil]; omega, ?_⟩
      have q1 : BdA (b + 1) (k - 1) (PyData.bulkAll (xs.take m)) (xs.take m) := ⟨fun y hy => (hA.sz y (List.mem_of_mem_take hy)).mono (by omega), fun y hy => hA.dp y (List.mem_of_mem_take hy), Nat.le_refl _⟩
      have q2 : BdA (b + 1) (k - 1) (PyData.bulkAll (xs.drop (m + 1))) (xs.drop (m + 1)) := ⟨fun y hy => (hA.sz y (List.mem_of_mem_drop hy)).mono (by omega), fun y hy => hA.dp y (List.mem_of_mem_drop hy), Nat.le_refl _⟩
      have q3 := ((q1.append (.one h2)).append q2)
      have q4 := (q3.up (Nat.le_refl _) (Nat.le_refl _) (show _ ≤ 2 * B + 20 by omega)).tup (by simp only [List.length_append, List.length_take, List.length_drop, List.length_cons, List.length_nil]; omega)
      rw [Nat.sub_add_cancel hk1] at q4
      exact q4
end Mn
namespace Mn
open PySem PySem.Spec PyProof.Rows L2
def sl_is_rule : SLs :=
  (SLs.cons (SL.iff (IL.or (IL.tyis (IL.v 1) "tuple" true) (IL.op (O2.ne) (IL.cb (B1.len) (ILs.cons (IL.v 1) (ILs.nil))) (IL.k (PyData.int (3))))) (SLs.cons (SL.ret (TL.fz [] (IL.k (PyData.bool false)))) (SLs.nil)) (SLs.nil)) (SLs.cons (SL.asg (Tg.tup [Tg.nm 2, Tg.nm 3, Tg.nm 4]) (TL.fz [] (IL.v 1))) (SLs.cons (SL.iff (IL.not (IL.call 21 (ILG.d (IL.v 2) (ILG.d (IL.cb (B1.len) (ILs.cons (IL.ix (IL.v 0) (IL.k (PyData.int (1)))) (ILs.nil))) (ILG.nil))))) (SLs.cons (SL.ret (TL.fz [] (IL.k (PyData.bool false)))) (SLs.nil)) (SLs.nil)) (SLs.cons (SL.asg (Tg.nm 5) (TL.fz [] (IL.ix (IL.ix (IL.v 0) (IL.k (PyData.int (1)))) (IL.v 2)))) (SLs.cons (SL.ret (TL.fz [] (IL.and (IL.call 23 (ILG.d (IL.v 3) (ILG.d (IL.v 5) (ILG.nil)))) (IL.and (IL.call 22 (ILG.d (IL.v 4) (ILG.d (IL.v 5) (ILG.nil)))) (IL.op (O2.notIn) (IL.v 4) (IL.v 3)))))) (SLs.nil))))))
def sl_require_rules : XLs :=
  (XLs.cons (XL.iff (IL.or (IL.tyis (IL.v 1) "tuple" true) (IL.op (O2.gt) (IL.cb (B1.len) (ILs.cons (IL.v 1) (ILs.nil))) (IL.k (PyData.int (6))))) (XLs.cons (XL.raise 1 (ILs.cons (IL.k PyData.none) (ILs.nil))) (XLs.nil)) (XLs.nil)) (XLs.cons (XL.for_ [] (ILI.en (IL.v 1)) (Tg.tup [Tg.nm 2, Tg.nm 3]) (XLs.cons (XL.iff (IL.not (IL.call 36 (ILG.d (IL.v 0) (ILG.d (IL.v 3) (ILG.nil))))) (XLs.cons (XL.raise 1 (ILs.cons (IL.v 2) (ILs.nil))) (XLs.nil)) (XLs.nil)) (XLs.nil))) (XLs.cons (XL.st (SL.ret (TL.fz [] (IL.v 1)))) (XLs.nil))))
def sl_law_is_rule : SLs :=
  (SLs.cons (SL.iff (IL.or (IL.not (IL.call 30 (ILG.d (IL.v 1) (ILG.d (IL.k (PyData.int (3))) (ILG.nil))))) (IL.not (IL.call 9 (ILG.d (IL.ix (IL.v 1) (IL.k (PyData.int (0)))) (ILG.d (IL.k (PyData.int (0))) (ILG.d (IL.op (O2.sub) (IL.cb (B1.len) (ILs.cons (IL.ix (IL.v 0) (IL.k (PyData.int (1)))) (ILs.nil))) (IL.k (PyData.int (1)))) (ILG.nil))))))) (SLs.cons (SL.ret (TL.fz [] (IL.k (PyData.bool false)))) (SLs.nil)) (SLs.nil)) (SLs.cons (SL.asg (Tg.nm 2) (TL.fz [] (IL.ix (IL.ix (IL.v 0) (IL.k (PyData.int (1)))) (IL.ix (IL.v 1) (IL.k (PyData.int (0))))))) (SLs.cons (SL.iff (IL.not (IL.call 32 (ILG.d (IL.fr (ILF.cf (F1.list) (ILs.cons (IL.v 2) (ILs.nil)))) (ILG.d (IL.ix (IL.v 1) (IL.k (PyData.int (1)))) (ILG.nil))))) (SLs.cons (SL.ret (TL.fz [] (IL.k (PyData.bool false)))) (SLs.nil)) (SLs.nil)) (SLs.cons (SL.ret (TL.fz [] (IL.and (IL.call 9 (ILG.d (IL.ix (IL.v 1) (IL.k (PyData.int (2)))) (ILG.d (IL.k (PyData.int (0))) (ILG.d (IL.k (PyData.int (6))) (ILG.nil))))) (IL.and (IL.op (O2.in_) (IL.ix (IL.v 1) (IL.k (PyData.int (2)))) (IL.v 2)) (IL.op (O2.notIn) (IL.ix (IL.v 1) (IL.k (PyData.int (2)))) (IL.ix (IL.v 1) (IL.k (PyData.int (1))))))))) (SLs.nil)))))
def sl_law_due : SLs :=
  (SLs.cons (SL.iff (IL.or (IL.not (IL.isa (IL.v 1) "tuple")) (IL.op (O2.gt) (IL.cb (B1.len) (ILs.cons (IL.v 1) (ILs.nil))) (IL.k (PyData.int (6))))) (SLs.cons (SL.ret (TL.fz [] (IL.fr (ILF.lst (ILs.cons (IL.k (PyData.str (Str.ofString "index"))) (ILs.cons (IL.k PyData.none) (ILs.nil))))))) (SLs.nil)) (SLs.nil)) (SLs.cons (SL.lcD 2 [] (ILF.lc (ILI.en (IL.v 1)) (Tg.tup [Tg.nm 3, Tg.nm 4]) (ILO.some (IL.not (IL.call 37 (ILG.d (IL.v 0) (ILG.d (IL.v 4) (ILG.nil)))))) (IL.v 3) [3, 4])) (SLs.cons (SL.ret (TL.fz [] (IL.ite (IL.op (O2.ne) (IL.v 2) (IL.fr (ILF.lst (ILs.nil)))) (IL.fr (ILF.lst (ILs.cons (IL.k (PyData.str (Str.ofString "index"))) (ILs.cons (IL.ix (IL.v 2) (IL.k (PyData.int (0)))) (ILs.nil))))) (IL.fr (ILF.lst (ILs.cons (IL.k (PyData.str (Str.ofString "told"))) (ILs.cons (IL.v 1) (ILs.nil)))))))) (SLs.nil))))
def sl_law_k02 : SLs :=
  (SLs.cons (SL.forR (ILI.r1 (IL.cb (B1.max) (ILs.cons (IL.k (PyData.int (3))) (ILs.cons (IL.cb (B1.min) (ILs.cons (IL.k (PyData.int (8))) (ILs.cons (IL.lenS 0) (ILs.nil)))) (ILs.nil))))) (Tg.nm 2) (SLs.cons (SL.asg (Tg.nm 3) (TL.fz [] (IL.call 13 (ILG.p 1 (ILG.d (IL.k (PyData.int (5))) (ILG.d (IL.k (PyData.int (7))) (ILG.d (IL.k (PyData.int (4))) (ILG.nil)))))))) (SLs.cons (SL.asg (Tg.nm 4) (TL.fz [] (IL.call 15 (ILG.p 1 (ILG.d (IL.v 3) (ILG.nil)))))) (SLs.cons (SL.asg (Tg.nm 5) (TL.fz [] (IL.call 29 (ILG.p 1 (ILG.d (IL.call 29 (ILG.p 1 (ILG.d (IL.v 4) (ILG.d (IL.k (PyData.int (3))) (ILG.nil))))) (ILG.d (IL.k (PyData.int (3))) (ILG.nil))))))) (SLs.cons (SL.asg (Tg.nm 6) (TL.fz [] (IL.op (O2.mul) (IL.op (O2.add) (IL.v 4) (IL.tup (ILs.cons (IL.call 14 (ILG.p 1 (ILG.d (IL.v 3) (ILG.nil)))) (ILs.nil)))) (IL.k (PyData.int (7)))))) (SLs.cons (SL.for_ [] (ILI.seq (IL.tup (ILs.cons (IL.v 4) (ILs.cons (IL.call 29 (ILG.p 1 (ILG.d (IL.v 4) (ILG.d (IL.k (PyData.int (3))) (ILG.nil))))) (ILs.cons (IL.v 5) (ILs.cons (IL.sl (IL.v 6) (ILO.none) (ILO.some (IL.k (PyData.int (6))))) (ILs.cons (IL.sl (IL.v 6) (ILO.none) (ILO.some (IL.k (PyData.int (7))))) (ILs.cons (IL.fr (ILF.cf (F1.list) (ILs.cons (IL.v 4) (ILs.nil)))) (ILs.cons (IL.call 28 (ILG.p 1 (ILG.nil))) (ILs.nil)))))))))) (Tg.nm 7) (SLs.cons (SL.asg (Tg.nm 8) (TL.fz [] (IL.cb (B1.repr) (ILs.cons (IL.v 7) (ILs.nil))))) (SLs.cons (SL.iff (IL.or (IL.op (O2.ne) (IL.cb (B1.repr) (ILs.cons (IL.call 34 (ILG.d (IL.v 3) (ILG.d (IL.v 7) (ILG.nil)))) (ILs.nil))) (IL.cb (B1.repr) (ILs.cons (IL.call 38 (ILG.d (IL.v 3) (ILG.d (IL.v 7) (ILG.nil)))) (ILs.nil)))) (IL.op (O2.ne) (IL.cb (B1.repr) (ILs.cons (IL.v 7) (ILs.nil))) (IL.v 8))) (SLs.cons (SL.ret (TL.fz [] (IL.k (PyData.bool false)))) (SLs.nil)) (SLs.nil)) (SLs.nil)))) (SLs.nil))))))) (SLs.cons (SL.ret (TL.fz [] (IL.k (PyData.bool true)))) (SLs.nil)))
/-! rules, or not -/
def inXs (y : PyData) : PyData → Bool
  | .tuple zs => memD y zs
  | _ => false
def rule3 (as : List (List Int)) (t xs y : PyData) : Bool := match t with
  | .int i => if 0 ≤ i ∧ i < as.length then (match as[i.toNat]? with
    | some a => ascB xs a && (oneB y a && !inXs y xs)
    | none => false) else false
  | _ => false
def ruleB (as : List (List Int)) (v : PyData) : Bool := match v with
  | .tuple [t, xs, y] => rule3 as t xs y
  | _ => false
def badIx (as : List (List Int)) : List PyData → Nat → List Int
  | [], _ => []
  | x :: xs, n => if ruleB as x = true then badIx as xs (n + 1) else (n : Int) :: badIx as xs (n + 1)
theorem sz_tup {b : Nat} {xs : List PyData} (h : Sz b (.tuple xs)) : xs.length ≤ b ∧ ∀ x ∈ xs, Sz b x := by
  simp only [Sz] at h
  exact ⟨h.1, szA_iff.mp h.2⟩
theorem sz_len {b : Nat} {d : PyData} (h : Sz b d) : tupLen d ≤ b := by
  cases d with
  | tuple xs => exact (sz_tup h).1
  | _ => exact Nat.zero_le _
theorem at_get {as : List (List Int)} {i : Int} (h : 0 ≤ i ∧ i < as.length) : ∃ a, as[i.toNat]? = some a ∧ a ∈ as := by
  have hl : i.toNat < as.length := by omega
  exact ⟨as[i.toNat], List.getElem?_eq_getElem hl, List.getElem_mem hl⟩
theorem g_ixA {as : List (List Int)} {i : Int} {a : List Int} {Q : PyData → Prop} (h0 : 0 ≤ i) (h1 : i < as.length) (ha : as[i.toNat]? = some a) (q : Q (.tuple (dInts a))) : W (gIx (.tuple (dAts as)) (.int i)) Q := by
  refine g_ixT h0 (by rw [dAts, List.length_map]; exact h1) fun x hx => ?_
  unfold dAts at hx
  rw [List.getElem?_map, ha] at hx
  cases hx
  exact q
theorem g_notInD {y : PyData} {zs : List Int} {a : List Int} {d : PyData} (hd : itemsD d = some (dInts zs)) (hy : oneB y a = true) {Q : PyData → Prop} : W (gNotIn y d) Q ↔ Q (.bool (!memD y (dInts zs))) := by
  cases y with
  | int i =>
    unfold gNotIn
    rw [hd]
    simp only [flatD, flat_ints, Bool.and_self, if_true, W_some]
  | _ => cases hy
local macro_rules | `(tactic| walk_at "ev") => `(tactic| simp only [isa_T, isa_I, isa_B, ty_T, ty_I, g_eqN, g_eqI, w_zip, w_d0, evB, evS, evTL, evTFL, evCL, evE, evEs, evF, evI, evC, evO, evG, O2.g, B1.g, F1.g,
  w_k, w_v, w_2, w_tup, w_fr, w_lst, w_nil, w_cons, w_not, w_neg, w_call, w_callF, w_isa, w_tyis, w_o0, w_o1, w_sl, w_sset, w_lset, w_lrg, w_pix, w_lenS, w_fn, w_gn, w_gd, w_gp, w_it, w_enum, w_rng1, w_lc, w_sc, w_fz, w_pop, w_scF, w_fzF,
  w_next, w_seq, w_ret, w_drop, w_asg, w_ifS, w_own, w_lcD, w_cmO, w_cmD, w_par, w_app, w_ext, w_pset, w_for, w_forR, W_some, W_none, W_ite,
  List.getElem?_cons_zero, List.getElem?_cons_succ, List.getElem?_nil, frzBy, frz1, List.contains_nil, List.contains_cons, as_nm, as_tup, as_nil, w_asTs, penD, penPut, List.set_cons_zero, List.set_cons_succ, wipeE,
  items_l, items_t, g_add, g_sub, g_mod, g_fdiv, g_mul, g_pow, g_lt, g_le, g_gt, g_ge, g_lenL, g_lenT, g_int1, g_min, g_max, g_tupL, g_tupT, g_listL, g_listT, isa_ii, isa_ib, isa_tt, g_ix20, g_ix21, g_ix30, g_ix31, g_ix32, g_sortL, w_ssetL, w_ssetT, w_lsetT, Bool.not_true, Bool.not_false, List.length_map, Option.bind_some, scalD, Bool.and_true, Bool.true_and, List.all_cons, List.all_nil,
  Option.some.injEq, Sl.d.injEq, Sl.own.injEq, Sl.scr.injEq, PyData.int.injEq, PyData.bool.injEq, PyData.list.injEq, PyData.tuple.injEq, exists_eq_left', exists_eq_left, exists_eq', exists_eq, exists_and_left, true_and, and_true, if_true, if_false, ite_true, ite_false,
  allS, Nat.reduceAdd, Nat.reduceBEq, Bool.or_false, Bool.or_true, Bool.false_or, Bool.true_or, Bool.false_eq_true, reduceIte, reduceCtorEq, List.length_cons, List.length_nil, Int.reduceEq, decide_eq_true_eq, decide_eq_false_iff_not, one_ne_zero, not_false_eq_true,
  startE, List.map_cons, List.map_nil, slOf, List.replicate_zero, List.replicate_succ, List.cons_append, List.nil_append, Nat.reduceSub, forall_const, false_implies, implies_true])
local macro_rules | `(tactic| walk_at "evb") => `(tactic| simp only [isa_T, isa_I, isa_B, ty_T, ty_I, g_eqN, g_eqI, w_zip, w_d0, evB, evS, evTL, evTFL, evCL, evE, evEs, evF, evI, evC, evO, evG, O2.g, B1.g, F1.g,
  w_k, w_v, w_2, w_tup, w_fr, w_lst, w_nil, w_cons, w_and, w_or, w_not, w_neg, w_if, w_ch, w_call, w_callF, w_isa, w_tyis, w_o0, w_o1, w_sl, w_sset, w_lset, w_lrg, w_pix, w_lenS, w_fn, w_gn, w_gd, w_gp, w_it, w_enum, w_rng1, w_lc, w_sc, w_fz, w_pop, w_scF, w_fzF,
  w_next, w_seq, w_ret, w_drop, w_asg, w_ifS, w_own, w_lcD, w_cmO, w_cmD, w_par, w_app, w_ext, w_pset, w_for, w_forR, W_some, W_none, W_ite,
  List.getElem?_cons_zero, List.getElem?_cons_succ, List.getElem?_nil, frzBy, frz1, List.contains_nil, List.contains_cons, as_nm, as_tup, as_nil, w_asTs, penD, penPut, List.set_cons_zero, List.set_cons_succ, wipeE,
  items_l, items_t, g_add, g_sub, g_mod, g_fdiv, g_mul, g_pow, g_lt, g_le, g_gt, g_ge, g_lenL, g_lenT, g_int1, g_min, g_max, g_tupL, g_tupT, g_listL, g_listT, isa_ii, isa_ib, isa_tt, g_ix20, g_ix21, g_ix30, g_ix31, g_ix32, g_sortL, w_ssetL, w_ssetT, w_lsetT, Bool.not_true, Bool.not_false, List.length_map, Option.bind_some, scalD, Bool.and_true, Bool.true_and, List.all_cons, List.all_nil,
  Option.some.injEq, Sl.d.injEq, Sl.own.injEq, Sl.scr.injEq, PyData.int.injEq, PyData.bool.injEq, PyData.list.injEq, PyData.tuple.injEq, exists_eq_left', exists_eq_left, exists_eq', exists_eq, exists_and_left, true_and, and_true, if_true, if_false, ite_true, ite_false,
  allS, Nat.reduceAdd, Nat.reduceBEq, Bool.or_false, Bool.or_true, Bool.false_or, Bool.true_or, Bool.false_eq_true, reduceIte, reduceCtorEq, List.length_cons, List.length_nil, Int.reduceEq, decide_eq_true_eq, decide_eq_false_iff_not, one_ne_zero, not_false_eq_true,
  startE, List.map_cons, List.map_nil, slOf, List.replicate_zero, List.replicate_succ, List.cons_append, List.nil_append, Nat.reduceSub, forall_const, false_implies, implies_true])
def SpIsRule (f : Fn) : Prop := ∀ (m w : Int) hd as (v : PyData) (b : Nat) st, QOk m w hd as → Sz b v → b < 64 → W (f [.d (dQ hd as), .d v] st) fun r => r = (.bool (ruleB as v), st)
theorem len3 {xs : List PyData} (h : xs.length = 3) : ∃ a b c, xs = [a, b, c] := by
  match xs, h with
  | [a, b, c], _ => exact ⟨a, b, c, rfl⟩
theorem ruleB_no {as : List (List Int)} {v : PyData} (h : tupB v 3 = false) : ruleB as v = false := by
  cases v with
  | tuple xs =>
    match xs, h with
    | [], _ => rfl
    | [_], _ => rfl
    | [_, _], _ => rfl
    | [_, _, _], h => exact absurd h (by simp [tupB])
    | _ :: _ :: _ :: _ :: _, _ => rfl
  | _ => rfl
theorem tupB_ex {v : PyData} (h : tupB v 3 = true) : ∃ a b c, v = .tuple [a, b, c] := by
  cases v with
  | tuple xs =>
    have h : (xs.length : Int) = 3 := of_decide_eq_true h
    obtain ⟨a, b, c, rfl⟩ := len3 (xs := xs) (by omega)
    exact ⟨a, b, c, rfl⟩
  | _ => cases h
theorem isRule_ok {Φ : Nat → Fn} {k : Nat} (h21 : SpNum (Φ 21)) (h22 : SpOneOf (Φ 22)) (h23 : SpChoice (Φ 23)) : SpIsRule (fnOf 2 6 k Φ sl_is_rule) := fun m w hd as v b st q hv hb => by
  refine (w_fnOf rfl).mpr ?_
  unfold sl_is_rule dQ
  simp only [evB, evS]
  refine w_seq.mpr (w_ifS.mpr (W_mono (Q := fun p => p = (.bool (!tupB v 3), st)) ?_ ?_))
  · walk_at "evb"
    cases hT : isTup v with
    | false =>
      have : tupB v 3 = false := by cases v <;> first | rfl | cases hT
      rw [this]
      simp
    | true =>
      obtain ⟨xs, rfl⟩ := isTup_ex hT
      walk_at "evb"
      rw [g_neI, W_some]
      rfl
  · rintro _ rfl
    cases hT : tupB v 3 with
    | false =>
      rw [ruleB_no hT]
      exact ⟨true, rfl, (fun _ => w_seq.mpr (w_ret.mpr (w_fz.mpr (w_k.mpr rfl)))), fun h => nomatch h⟩
    | true =>
      refine ⟨false, rfl, (fun h => nomatch h), fun _ => ?_⟩
      obtain ⟨t, xs, y, rfl⟩ := tupB_ex hT
      obtain ⟨_, hsz⟩ := sz_tup hv
      walk_at "ev"
      have e0 : (dAts as).length = as.length := List.length_map ..
      rw [e0]
      refine W_mono (h21 t as.length st) ?_
      rintro _ rfl
      cases t with
      | int i =>
        by_cases hi : 0 ≤ i ∧ i < as.length
        · have e1 : numB (.int i) as.length = true := decide_eq_true hi
          obtain ⟨a, ha, _⟩ := at_get hi
          rw [e1]
          walk_at "ev"
          refine g_ixA hi.1 hi.2 ha ?_
          refine W_mono (Q := fun p => p = (.bool (ascB xs a && (oneB y a && !inXs y xs)), st)) ?_ ?_
          · walk_at "evb"
            refine W_mono (h23 xs (.tuple (dInts a)) a st items_t (Nat.le_trans (sz_len (hsz xs (by simp))) (by omega))) ?_
            rintro _ rfl
            refine ⟨_, rfl, fun hA => ?_, fun hA => ?_⟩
            · refine W_mono (h22 y (.tuple (dInts a)) a st items_t) ?_
              rintro _ rfl
              refine ⟨_, rfl, fun hO => ?_, fun hO => ?_⟩
              · have : ∃ zs, xs = .tuple (dInts zs) := by
                  cases xs with
                  | tuple ws =>
                    simp only [ascB, Bool.and_eq_true] at hA
                    obtain ⟨zs, rfl, _⟩ := ones_ints hA.1
                    exact ⟨zs, rfl⟩
                  | _ => cases hA
                obtain ⟨zs, rfl⟩ := this
                rw [g_notInD items_t hO, hA, hO]
                rfl
              · rw [hA, hO]; rfl
            · rw [hA]; rfl
          · rintro _ rfl
            show (_, _) = (PyData.bool (rule3 as (.int i) xs y), st)
            simp only [rule3, if_pos hi, ha]
        · have e1 : numB (.int i) as.length = false := decide_eq_false hi
          have e2 : ruleB as (.tuple [.int i, xs, y]) = false := by
            show rule3 as (.int i) xs y = false
            simp only [rule3, if_neg hi]
          rw [e1, e2]
          walk_at "ev"
      | _ => exact ⟨false, rfl, (fun _ => rfl), fun h => nomatch h⟩
theorem g_ixN {xs : List PyData} {i : Nat} {x : PyData} (h : xs[i]? = some x) : gIx (.tuple xs) (.int (i : Int)) = some x := by
  have hl : i < xs.length := (List.getElem?_eq_some_iff.mp h).1
  show atI xs (i : Int) = _
  unfold atI
  rw [ixN_ok (by omega) (by omega)]
  simpa using h
def num0 (v : PyData) (n : Int) : Bool := match v with
  | .tuple [t, _, _] => numB t n
  | _ => false
theorem num0_no {v : PyData} {n : Int} (hT : tupB v 3 = false) : num0 v n = false := by
  cases v with
  | tuple xs =>
    match xs, hT with
    | [], _ => rfl
    | [_], _ => rfl
    | [_, _], _ => rfl
    | [_, _, _], h => exact absurd h (by simp [tupB])
    | _ :: _ :: _ :: _ :: _, _ => rfl
  | _ => rfl
def SpLIsRule (f : Fn) : Prop := ∀ (m w : Int) hd as (v : PyData) (b : Nat) st, QOk m w hd as → Sz b v → b < 64 → W (f [.d (dQ hd as), .d v] st) fun r => r = (.bool (ruleB as v), st)
theorem lIsRule_ok {Φ : Nat → Fn} {k : Nat} (h30 : SpIsTup (Φ 30)) (h9 : SpWholeA (Φ 9)) (h32 : SpAreVars (Φ 32)) : SpLIsRule (fnOf 2 3 k Φ sl_law_is_rule) := fun m w hd as v b st q hv hb => by
  refine (w_fnOf rfl).mpr ?_
  unfold sl_law_is_rule dQ
  walk_at "ev"
  refine W_mono (Q := fun p => p = (.bool (!(num0 v as.length)), st)) ?_ ?_
  · walk_at "evb"
    refine W_mono (h30 v 3 st) ?_
    rintro _ rfl
    cases hT : tupB v 3 with
    | false =>
      refine ⟨_, rfl, fun _ => ?_, fun h => nomatch h⟩
      rw [num0_no hT]; rfl
    | true =>
      obtain ⟨t, xs, y, rfl⟩ := tupB_ex hT
      refine ⟨_, rfl, (fun h => nomatch h), fun _ => ?_⟩
      have e0 : (dAts as).length = as.length := List.length_map ..
      walk_at "evb"
      rw [e0]
      refine W_mono (h9 t 0 ((as.length : Int) - 1) st) ?_
      rintro _ rfl
      refine ⟨_, rfl, ?_⟩
      show (PyData.bool (!wholeB t 0 ((as.length : Int) - 1)), st) = (PyData.bool (!numB t as.length), st)
      have : wholeB t 0 ((as.length : Int) - 1) = numB t as.length := by
        cases t with
        | int i =>
          simp only [wholeB, numB]
          rw [Bool.eq_iff_iff]
          simp only [decide_eq_true_eq]
          omega
        | _ => rfl
      rw [this]
  · rintro _ rfl
    cases hT : tupB v 3 with
    | false =>
      rw [ruleB_no hT, num0_no hT]
      walk_at "ev"
    | true =>
      obtain ⟨t, xs, y, rfl⟩ := tupB_ex hT
      obtain ⟨_, hsz⟩ := sz_tup hv
      cases t with
      | int i =>
        by_cases hi : 0 ≤ i ∧ i < as.length
        · have e1 : num0 (.tuple [.int i, xs, y]) as.length = true := decide_eq_true hi
          obtain ⟨a, ha, hm⟩ := at_get hi
          rw [e1]
          walk_at "ev"
          refine g_ixA hi.1 hi.2 ha ?_
          walk_at "ev"
          refine W_mono (h32 xs (.list (dInts a)) a st items_l (q.at_ a hm).sm (Nat.lt_of_le_of_lt (sz_len (hsz xs (by simp))) hb)) ?_
          rintro _ rfl
          have hr : ruleB as (.tuple [.int i, xs, y]) = (ascB xs a && (oneB y a && !inXs y xs)) := by
            show rule3 as (.int i) xs y = _
            simp only [rule3, if_pos hi, ha]
          rw [hr]
          cases hA : ascB xs a with
          | false => exact ⟨_, rfl, (fun _ => rfl), fun h => nomatch h⟩
          | true =>
            refine ⟨_, rfl, (fun h => nomatch h), fun _ => ?_⟩
            have : ∃ zs, xs = .tuple (dInts zs) := by
              cases xs with
              | tuple ws =>
                simp only [ascB, Bool.and_eq_true] at hA
                obtain ⟨zs, rfl, _⟩ := ones_ints hA.1
                exact ⟨zs, rfl⟩
              | _ => cases hA
            obtain ⟨zs, rfl⟩ := this
            refine W_mono (Q := fun p => p = (.bool (oneB y a && !memD y (dInts zs)), st)) ?_ ?_
            · walk_at "evb"
              refine W_mono (h9 y 0 6 st) ?_
              rintro _ rfl
              refine ⟨_, rfl, fun hW => ?_, fun hW => ?_⟩
              · cases y with
                | int j =>
                  rw [g_inI items_t]
                  refine ⟨_, rfl, fun hj => ?_, fun hj => ?_⟩
                  · have hO : oneB (.int j) a = true := hj
                    rw [g_notInD items_t hO, hO]
                    rfl
                  · have hO : oneB (.int j) a = false := hj
                    rw [hO]; rfl
                | _ => cases hW
              · have hO : oneB y a = false := by
                  cases y with
                  | int j =>
                    have hW := of_decide_eq_false hW
                    refine decide_eq_false fun hj => hW ?_
                    have := (q.at_ a hm).sm j hj
                    omega
                  | _ => rfl
                rw [hO]; rfl
            · rintro _ rfl
              rfl
        · have e1 : num0 (.tuple [.int i, xs, y]) as.length = false := decide_eq_false hi
          have e2 : ruleB as (.tuple [.int i, xs, y]) = false := by
            show rule3 as (.int i) xs y = false
            simp only [rule3, if_neg hi]
          rw [e1, e2]
          walk_at "ev"
      | _ => exact ⟨true, rfl, (fun _ => rfl), fun h => nomatch h⟩
/-! what is due -/
def dueR (as : List (List Int)) (v : PyData) : Sum PyData (List PyData) := match v with
  | .tuple xs => if xs.length ≤ 6 then (match badIx as xs 0 with
    | [] => .inl v
    | i :: _ => .inr [.int i]) else .inr [.none]
  | _ => .inr [.none]
theorem len6 (xs : List PyData) : decide ((xs.length : Int) > 6) = !decide (xs.length ≤ 6) := by
  by_cases h : xs.length ≤ 6
  · rw [decide_eq_true h, decide_eq_false (by omega)]; rfl
  · rw [decide_eq_false h, decide_eq_true (by omega)]; rfl
def fst2 (d : PyData) : PyData := match d with
  | .tuple [i, _] => i
  | _ => .none
def bad2 (as : List (List Int)) (d : PyData) : Bool := match d with
  | .tuple [_, x] => !ruleB as x
  | _ => false
theorem bad2_t {as : List (List Int)} {i x : PyData} : bad2 as (.tuple [i, x]) = !ruleB as x := rfl
def SpReqR (g : FnX) : Prop := ∀ (m w : Int) hd as (v : PyData) (b : Nat) st, QOk m w hd as → Sz b v → b < 64 → W (g [.d (dQ hd as), .d v] st) fun r => r = match dueR as v with
  | .inl d => .inl (d, st)
  | .inr ds => .inr (ds, st)
local macro_rules | `(tactic| walk_at "evx") => `(tactic| simp only [evXB, evX, w_xof, w_xseq, w_xif, w_xraise, w_xfor])
theorem reqR_ok {Φ : Nat → Fn} {k : Nat} (h36 : SpIsRule (Φ 36)) : SpReqR (fnX 2 4 k Φ sl_require_rules) := fun m w hd as v b st q hv hb => by
  refine (w_fnX rfl).mpr ?_
  unfold sl_require_rules
  simp only [evXB, evX]
  refine w_xseq.mpr (w_xif.mpr (W_mono (Q := fun p => p = (.bool (!(isTup v && decide (tupLen v ≤ 6))), st)) ?_ ?_))
  · walk_at "evb"
    cases hT : isTup v with
    | false => simp
    | true =>
      obtain ⟨xs, rfl⟩ := isTup_ex hT
      walk_at "evb"
      simp only [tupLen, Prod.mk.injEq, PyData.bool.injEq, and_true, Bool.true_and]
      exact len6 xs
  · rintro _ rfl
    cases hT : isTup v with
    | false =>
      have e : dueR as v = .inr [.none] := by cases v <;> first | rfl | cases hT
      rw [e]
      refine ⟨true, rfl, fun _ => ?_, fun h => nomatch h⟩
      refine w_xseq.mpr (w_xraise.mpr ?_)
      walk_at "evb"
    | true =>
      obtain ⟨xs, rfl⟩ := isTup_ex hT
      obtain ⟨hl, hsz⟩ := sz_tup hv
      by_cases h6 : xs.length ≤ 6
      · have e6 : decide (tupLen (.tuple xs) ≤ 6) = true := decide_eq_true h6
        rw [e6]
        refine ⟨false, rfl, (fun h => nomatch h), fun _ => ?_⟩
        refine w_xof.mpr (w_next.mpr ?_)
        dsimp only
        refine w_xseq.mpr (w_xfor.mpr ?_)
        walk_at "ev"
        refine xloopI (I := fun ds Γ st1 => ∃ n rest l2 l3, ds = zipD n rest ∧ (∀ x ∈ rest, x ∈ xs) ∧ badIx as xs 0 = badIx as rest n ∧ st1 = st ∧ Γ = [some (.d (dQ hd as)), some (.d (.tuple xs)), l2, l3]) ?_ ?_ _ _ _ ⟨0, xs, none, none, rfl, fun _ h => h, rfl, rfl, rfl⟩
        · rintro d ds Γ st1 ⟨n, rest, l2, l3, e1, hr, hbx, rfl, rfl⟩
          cases rest with
          | nil => cases e1
          | cons x rest =>
            obtain ⟨rfl, rfl⟩ := List.cons.inj e1
            walk_at "ev"
            refine w_xseq.mpr (w_xif.mpr ?_)
            walk_at "ev"
            refine W_mono (h36 m w hd as x b st1 q (hsz x (hr x (List.mem_cons_self ..))) hb) ?_
            rintro _ rfl
            cases hR : ruleB as x with
            | true =>
              refine ⟨_, rfl, (fun h => nomatch h), fun _ => ?_⟩
              refine w_xof.mpr (w_next.mpr ?_)
              dsimp only
              refine w_xof.mpr (w_next.mpr ?_)
              refine ⟨n + 1, rest, rfl, fun y hy => hr y (List.mem_cons_of_mem _ hy), ?_, rfl, _, _, rfl⟩
              rw [hbx]
              simp only [badIx, hR, if_true]
            | false =>
              refine ⟨_, rfl, fun _ => ?_, fun h => nomatch h⟩
              refine w_xseq.mpr (w_xraise.mpr ?_)
              walk_at "ev"
              simp only [dueR, if_pos h6, hbx, badIx, hR, Bool.false_eq_true, if_false]
        · rintro Γ st1 ⟨n, rest, l2, l3, e1, hr, hbx, rfl, rfl⟩
          have : rest = [] := by
            cases rest with
            | nil => rfl
            | cons a r => cases e1
          subst this
          dsimp only
          refine w_xseq.mpr (w_xof.mpr ?_)
          walk_at "ev"
          simp only [dueR, if_pos h6, hbx, badIx]
      · have e6 : decide (tupLen (.tuple xs) ≤ 6) = false := decide_eq_false h6
        have e : dueR as (.tuple xs) = .inr [.none] := by simp only [dueR, if_neg h6]
        rw [e6, e]
        refine ⟨true, rfl, fun _ => ?_, fun h => nomatch h⟩
        refine w_xseq.mpr (w_xraise.mpr ?_)
        walk_at "evb"
def dueL (as : List (List Int)) (v : PyData) : PyData := match dueR as v with
  | .inl d => .list [.str (Str.ofString "told"), d]
  | .inr ds => .list [.str (Str.ofString "index"), g1of ds]
def SpDueR (f : Fn) : Prop := ∀ (m w : Int) hd as (v : PyData) (b : Nat) st, QOk m w hd as → Sz b v → b < 64 → W (f [.d (dQ hd as), .d v] st) fun r => r = (dueL as v, st)
theorem bad_filter {as : List (List Int)} : ∀ (xs : List PyData) (n : Nat), ((zipD n xs).filter (bad2 as)).map fst2 = dInts (badIx as xs n)
  | [], n => rfl
  | x :: xs, n => by
    have ih := bad_filter (as := as) xs (n + 1)
    rw [show zipD n (x :: xs) = PyData.tuple [PyData.int n, x] :: zipD (n + 1) xs from rfl, List.filter_cons, badIx]
    by_cases hR : ruleB as x = true
    · have e : bad2 as (.tuple [.int n, x]) = false := by rw [bad2_t, hR]; rfl
      rw [e, if_neg Bool.false_ne_true, if_pos hR]
      exact ih
    · have e : bad2 as (.tuple [.int n, x]) = true := by rw [bad2_t]; simpa using hR
      rw [e, if_pos rfl, if_neg hR, List.map_cons, ih]
      rfl
theorem dueR_ok {Φ : Nat → Fn} {k : Nat} (h37 : SpLIsRule (Φ 37)) : SpDueR (fnOf 2 5 k Φ sl_law_due) := fun m w hd as v b st q hv hb => by
  refine (w_fnOf rfl).mpr ?_
  unfold sl_law_due
  simp only [evB, evS]
  refine w_seq.mpr (w_ifS.mpr (W_mono (Q := fun p => p = (.bool (!(isTup v && decide (tupLen v ≤ 6))), st)) ?_ ?_))
  · walk_at "evb"
    cases hT : isTup v with
    | false => simp
    | true =>
      obtain ⟨xs, rfl⟩ := isTup_ex hT
      walk_at "evb"
      simp only [tupLen, Prod.mk.injEq, PyData.bool.injEq, and_true, Bool.true_and]
      exact len6 xs
  · rintro _ rfl
    cases hT : isTup v with
    | false =>
      have e : dueL as v = .list [.str (Str.ofString "index"), .none] := by cases v <;> first | rfl | cases hT
      rw [e]
      refine ⟨true, rfl, fun _ => ?_, fun h => nomatch h⟩
      walk_at "ev"
      decide
    | true =>
      obtain ⟨xs, rfl⟩ := isTup_ex hT
      obtain ⟨hl, hsz⟩ := sz_tup hv
      by_cases h6 : xs.length ≤ 6
      · have e6 : decide (tupLen (.tuple xs) ≤ 6) = true := decide_eq_true h6
        rw [e6]
        refine ⟨false, rfl, (fun h => nomatch h), fun _ => ?_⟩
        walk_at "ev"
        have hz : (zipD 0 xs).length ≤ LIM := by
          have : ∀ (xs : List PyData) n, (zipD n xs).length = xs.length := by
            intro xs
            induction xs with
            | nil => intro n; rfl
            | cons x r ih => intro n; simp only [zipD, List.length_cons, ih]
          rw [this, show LIM = 1000000 from rfl]; omega
        refine ⟨hz, ?_⟩
        rw [lcMap (f := fst2) (p := bad2 as)]
        · rw [W_some, bad_filter]
          refine W_mono (Q := fun p => p = (dueL as (.tuple xs), st)) ?_ ?_
          · walk_at "evb"
            refine ⟨by decide, ?_⟩
            rw [g_neL0]
            have hdue : dueR as (.tuple xs) = (match badIx as xs 0 with
                | [] => .inl (.tuple xs)
                | i :: _ => .inr [.int i]) := by simp only [dueR, if_pos h6]
            cases hB : badIx as xs 0 with
            | nil =>
              rw [hB] at hdue
              refine ⟨_, rfl, fun h => by simp at h, fun _ => ⟨by decide, ?_⟩⟩
              simp only [dueL, hdue]
            | cons i r =>
              rw [hB] at hdue
              refine ⟨_, rfl, fun _ => ?_, fun h => by simp at h⟩
              refine g_ixL (by decide) (by simp) fun x hx => ?_
              have : x = .int i := by simpa using hx.symm
              subst this
              refine ⟨by decide, ?_⟩
              simp only [dueL, hdue, g1of]
              rfl
          · rintro _ rfl
            rfl
        · intro d hd'
          have : ∃ i x, d = .tuple [i, x] ∧ x ∈ xs := by
            have : ∀ (ys : List PyData) n, d ∈ zipD n ys → ∃ i x, d = .tuple [i, x] ∧ x ∈ ys := by
              intro ys
              induction ys with
              | nil => intro n h; cases h
              | cons y r ih =>
                intro n h
                rcases List.mem_cons.mp h with rfl | h
                · exact ⟨_, _, rfl, List.mem_cons_self ..⟩
                · obtain ⟨i, x, e, hx⟩ := ih (n + 1) h
                  exact ⟨i, x, e, List.mem_cons_of_mem _ hx⟩
            exact this xs 0 hd'
          obtain ⟨i, x, rfl, hx⟩ := this
          rw [as_tup]
          walk_at "evb"
          rw [w_lcT]
          walk_at "evb"
          refine W_mono (h37 m w hd as x b st q (hsz x hx) hb) ?_
          rintro _ rfl
          exact ⟨_, rfl, rfl, fun _ => rfl⟩
      · have e6 : decide (tupLen (.tuple xs) ≤ 6) = false := decide_eq_false h6
        have e : dueL as (.tuple xs) = .list [.str (Str.ofString "index"), .none] := by simp only [dueL, dueR, if_neg h6]; rfl
        rw [e6, e]
        refine ⟨true, rfl, fun _ => ?_, fun h => nomatch h⟩
        walk_at "ev"
        decide
end Mn
namespace Mn
open PySem PySem.Spec PyProof.Rows L2
/-! bounds of what is drawn -/
theorem bdA_ints {b k : Nat} {ns : List Int} (h : Sm ns) : BdA b k ns.length (dInts ns) := by
  have := BdA.all (b := b) (k := k) (B := 0) (xs := dInts ns) fun d hd => by
    obtain ⟨i, hi, rfl⟩ := List.mem_map.mp hd
    have := h i hi
    exact bd_int (by omega)
  rw [List.length_map, Nat.zero_add, Nat.mul_one] at this
  exact this
theorem bd_R {m w : Int} {hd : List Int} {as : List (List Int)} (q : QOk m w hd as) (hm : m ≤ 8) {r : Rl} (h : ROk as r) : Bd 8 2 10 (dR r) := by
  obtain ⟨a, ha, hy, hx⟩ := h.at_
  have hl := q.len
  have ht : r.t.toNat < as.length := (List.getElem?_eq_some_iff.mp ha).1
  have h0 := h.t0
  have h7 := h.len q
  have hsm : Sm r.xs := fun x hx => q.sm x (h.mem.2 x hx)
  have hys := q.sm r.y h.mem.1
  have b1 : Bd 8 1 0 (.int r.t) := bd_int (by omega)
  have b2 : Bd 8 1 7 (.tuple (dInts r.xs)) := ((bdA_ints (b := 8) (k := 0) hsm).tup (by rw [List.length_map]; omega)).up (Nat.le_refl _) (Nat.le_refl _) h7
  have b3 : Bd 8 1 0 (.int r.y) := bd_int (by omega)
  exact ((BdA.one b1).append ((BdA.one b2).append (BdA.one b3))).tup (by show 3 ≤ 8; decide)
theorem bd_str {b k : Nat} {x : Str} (h : x.cps.size ≤ 10 ∧ (x.cps.toList.all fun c => decide (c < 16 ^ 8)) = true) : Bd b k 10 (.str x) := ⟨by simp only [Sz]; exact h, by simp [PyData.depth], by simp only [PyData.bulk]; exact h.1⟩
theorem badIx_mem {as : List (List Int)} : ∀ (xs : List PyData) (n : Nat) (i : Int), i ∈ badIx as xs n → 0 ≤ i ∧ i < n + xs.length
  | [], n, i, h => nomatch h
  | x :: xs, n, i, h => by
    rw [badIx] at h
    have ih := badIx_mem (as := as) xs (n + 1) i
    rw [List.length_cons]
    split at h
    · have := ih h; omega
    · rcases List.mem_cons.mp h with rfl | h
      · omega
      · have := ih h; omega
theorem bd_due {as : List (List Int)} {b k B : Nat} {v : PyData} (h : Bd b k B v) (hk : 1 ≤ k) (hb : 8 ≤ b) : Bd b (k + 1) (B + 20) (dueL as v) := by
  have go : ∀ (s : Str) (d : PyData), (s.cps.size ≤ 10 ∧ (s.cps.toList.all fun c => decide (c < 16 ^ 8)) = true) → Bd b k B d → Bd b (k + 1) (B + 20) (.list [.str s, d]) := fun s d hs hd =>
    (((BdA.one (bd_str (b := b) (k := k) hs)).append (BdA.one hd)).up (Nat.le_refl _) (Nat.le_refl _) (by omega)).lst (by simp only [List.length_append, List.length_cons, List.length_nil]; omega)
  unfold dueL
  cases hD : dueR as v with
  | inl d =>
    have : d = v := by
      cases v with
      | tuple xs =>
        simp only [dueR] at hD
        split at hD
        · split at hD
          · cases hD; rfl
          · cases hD
        · cases hD
      | _ => simp only [dueR] at hD; cases hD
    subst this
    exact go _ _ (by decide) h
  | inr ds =>
    refine go _ _ (by decide) ?_
    cases v with
    | tuple xs =>
      simp only [dueR] at hD
      split at hD
      · rename_i h6
        split at hD
        · cases hD
        · rename_i i r hi
          cases hD
          have := badIx_mem (as := as) xs 0 i (by rw [hi]; exact List.mem_cons_self ..)
          exact bd_int (by omega)
      · cases hD; exact bd_none
    | _ => simp only [dueR] at hD; cases hD; exact bd_none
def SpReqd (f : Fn) : Prop := ∀ (m w : Int) hd as (v : PyData) (b : Nat) st, QOk m w hd as → Sz b v → b < 64 → W (f [.d (dQ hd as), .d v] st) fun r => r = (dueL as v, st)
local macro_rules | `(tactic| walk_at "ev") => `(tactic| simp only [isa_T, isa_I, isa_B, ty_T, ty_I, g_eqN, g_eqI, w_zip, w_d0, evB, evS, evTL, evTFL, evCL, evE, evEs, evF, evI, evC, evO, evG, O2.g, B1.g, F1.g,
  w_k, w_v, w_2, w_tup, w_fr, w_lst, w_nil, w_cons, w_not, w_neg, w_call, w_callF, w_isa, w_tyis, w_o0, w_o1, w_sl, w_sset, w_lset, w_lrg, w_pix, w_lenS, w_fn, w_gn, w_gd, w_gp, w_it, w_enum, w_rng1, w_lc, w_sc, w_fz, w_pop, w_scF, w_fzF,
  w_next, w_seq, w_ret, w_drop, w_asg, w_ifS, w_own, w_lcD, w_cmO, w_cmD, w_par, w_app, w_ext, w_pset, w_for, w_forR, W_some, W_none, W_ite,
  List.getElem?_cons_zero, List.getElem?_cons_succ, List.getElem?_nil, frzBy, frz1, List.contains_nil, List.contains_cons, as_nm, as_tup, as_nil, w_asTs, penD, penPut, List.set_cons_zero, List.set_cons_succ, wipeE,
  items_l, items_t, g_add, g_sub, g_mod, g_fdiv, g_mul, g_pow, g_lt, g_le, g_gt, g_ge, g_lenL, g_lenT, g_int1, g_min, g_max, g_tupL, g_tupT, g_listL, g_listT, isa_ii, isa_ib, isa_tt, g_ix20, g_ix21, g_ix30, g_ix31, g_ix32, g_sortL, w_ssetL, w_ssetT, w_lsetT, Bool.not_true, Bool.not_false, List.length_map, Option.bind_some, scalD, Bool.and_true, Bool.true_and, List.all_cons, List.all_nil,
  Option.some.injEq, Sl.d.injEq, Sl.own.injEq, Sl.scr.injEq, PyData.int.injEq, PyData.bool.injEq, PyData.list.injEq, PyData.tuple.injEq, exists_eq_left', exists_eq_left, exists_eq', exists_eq, exists_and_left, true_and, and_true, if_true, if_false, ite_true, ite_false,
  allS, Nat.reduceAdd, Nat.reduceBEq, Bool.or_false, Bool.or_true, Bool.false_or, Bool.true_or, Bool.false_eq_true, reduceIte, reduceCtorEq, List.length_cons, List.length_nil, Int.reduceEq, decide_eq_true_eq, decide_eq_false_iff_not, one_ne_zero, not_false_eq_true,
  startE, List.map_cons, List.map_nil, slOf, List.replicate_zero, List.replicate_succ, List.cons_append, List.nil_append, Nat.reduceSub, forall_const, false_implies, implies_true])
local macro_rules | `(tactic| walk_at "evb") => `(tactic| simp only [isa_T, isa_I, isa_B, ty_T, ty_I, g_eqN, g_eqI, w_zip, w_d0, evB, evS, evTL, evTFL, evCL, evE, evEs, evF, evI, evC, evO, evG, O2.g, B1.g, F1.g,
  w_k, w_v, w_2, w_tup, w_fr, w_lst, w_nil, w_cons, w_and, w_or, w_not, w_neg, w_if, w_ch, w_call, w_callF, w_isa, w_tyis, w_o0, w_o1, w_sl, w_sset, w_lset, w_lrg, w_pix, w_lenS, w_fn, w_gn, w_gd, w_gp, w_it, w_enum, w_rng1, w_lc, w_sc, w_fz, w_pop, w_scF, w_fzF,
  w_next, w_seq, w_ret, w_drop, w_asg, w_ifS, w_own, w_lcD, w_cmO, w_cmD, w_par, w_app, w_ext, w_pset, w_for, w_forR, W_some, W_none, W_ite,
  List.getElem?_cons_zero, List.getElem?_cons_succ, List.getElem?_nil, frzBy, frz1, List.contains_nil, List.contains_cons, as_nm, as_tup, as_nil, w_asTs, penD, penPut, List.set_cons_zero, List.set_cons_succ, wipeE,
  items_l, items_t, g_add, g_sub, g_mod, g_fdiv, g_mul, g_pow, g_lt, g_le, g_gt, g_ge, g_lenL, g_lenT, g_int1, g_min, g_max, g_tupL, g_tupT, g_listL, g_listT, isa_ii, isa_ib, isa_tt, g_ix20, g_ix21, g_ix30, g_ix31, g_ix32, g_sortL, w_ssetL, w_ssetT, w_lsetT, Bool.not_true, Bool.not_false, List.length_map, Option.bind_some, scalD, Bool.and_true, Bool.true_and, List.all_cons, List.all_nil,
  Option.some.injEq, Sl.d.injEq, Sl.own.injEq, Sl.scr.injEq, PyData.int.injEq, PyData.bool.injEq, PyData.list.injEq, PyData.tuple.injEq, exists_eq_left', exists_eq_left, exists_eq', exists_eq, exists_and_left, true_and, and_true, if_true, if_false, ite_true, ite_false,
  allS, Nat.reduceAdd, Nat.reduceBEq, Bool.or_false, Bool.or_true, Bool.false_or, Bool.true_or, Bool.false_eq_true, reduceIte, reduceCtorEq, List.length_cons, List.length_nil, Int.reduceEq, decide_eq_true_eq, decide_eq_false_iff_not, one_ne_zero, not_false_eq_true,
  startE, List.map_cons, List.map_nil, slOf, List.replicate_zero, List.replicate_succ, List.cons_append, List.nil_append, Nat.reduceSub, forall_const, false_implies, implies_true])
theorem reqd_ok {Φ : Nat → Fn} {g : FnX} {N : Nat} (h : SpReqR g) : SpReqd (reqFn (Str.ofString "told") (Str.ofString "index") 2 (N + 2) (evG Φ (ILG.d (IL.v 0) (ILG.d (IL.v 1) ILG.nil))) g1of g) := fun m w hd as v b st q hv hb => by
  refine (w_reqFn (np := 2) rfl).mpr ?_
  simp only [evG, evE]
  refine w_gd.mpr (w_v.mpr ⟨_, rfl, w_gd.mpr (w_v.mpr ⟨_, rfl, w_gn.mpr ?_⟩)⟩)
  refine W_mono (h m w hd as v b st q hv hb) ?_
  rintro r rfl
  unfold dueL
  cases dueR as v <;> rfl
theorem g_mulT {xs : List PyData} {k : Int} {Q : PyData → Prop} : W (gMul (.tuple xs) (.int k)) Q ↔ mulTB xs.length k = true ∧ Q (.tuple (List.replicate k.toNat xs).flatten) := by
  show W (if mulTB xs.length k = true then some (PyData.tuple (List.replicate k.toNat xs).flatten) else none) Q ↔ _
  rw [w_ib]
theorem law2 {Φ : Nat → Fn} {W' : Nat} (h13 : SpQuery (Φ 13)) (h15 : SpRules (Φ 15)) (h14 : SpRule (Φ 14)) (h29 : SpBent 3 (Φ 29)) (h28 : SpOdd (Φ 28)) (h34 : SpReqd (Φ 34)) (h38 : SpDueR (Φ 38)) (ns : List Int) (hns : ns.length ≤ 63) :
    W (evB Φ W' sl_law_k02 (some (.scr ns) :: some .pen :: List.replicate 7 none) ⟨ns, 0, 0⟩) fun r => ∃ st, r = .rt (.bool true) st := by
  unfold sl_law_k02
  walk_at "ev"
  refine ⟨by split <;> split <;> omega, ?_⟩
  refine loopI (I := fun ds Γ st1 => ∃ l2 l3 l4 l5 l6 l7 l8, Γ = [some (.scr ns), some .pen, l2, l3, l4, l5, l6, l7, l8]) ?_ ?_ _ _ _ ⟨none, none, none, none, none, none, none, rfl⟩
  · rintro x ds Γ st1 ⟨l2, l3, l4, l5, l6, l7, l8, rfl⟩
    walk_at "ev"
    refine W_mono (h13 5 7 4 st1 (by decide) (by decide) (by decide) (by decide) (by decide) (by decide)) ?_
    rintro ⟨d1, st2⟩ ⟨hd, as, e, q⟩
    have e : d1 = dQ hd as := e
    subst e
    refine W_mono (h15 5 4 hd as st2 q (by decide) (by decide)) ?_
    rintro ⟨d2, st3⟩ ⟨rs, e, hrl, hro⟩
    have e : d2 = dRs rs := e
    subst e
    have hbr : ∀ y ∈ rs.map dR, Bd 8 2 10 y := fun y hy => by
      obtain ⟨r, hr, rfl⟩ := List.mem_map.mp hy
      exact bd_R q (by decide) (hro r hr)
    have hbR : BdA 8 2 66 (rs.map dR) := (BdA.all hbr).up (Nat.le_refl _) (Nat.le_refl _) (by rw [List.length_map]; omega)
    have hb0 : Bd 8 5 100 (dRs rs) := (hbR.tup (by rw [List.length_map]; omega)).up (Nat.le_refl _) (by decide) (by decide)
    refine W_mono (h29 3 (dRs rs) 8 5 100 st3 (by decide) hb0 (by decide) (by decide) (by decide)) ?_
    rintro ⟨d3, st4⟩ hb1
    refine W_mono (h29 3 d3 9 5 220 st4 (by decide) hb1 (by decide) (by decide) (by decide)) ?_
    rintro ⟨d4, st5⟩ hb2
    have hb2 : Bd 10 5 460 d4 := hb2
    dsimp only
    refine W_mono (h14 5 4 hd as st5 q (by decide) (by decide)) ?_
    rintro ⟨d5, st6⟩ ⟨ru, e, hru⟩
    have e : d5 = dR ru := e
    subst e
    have hLIM : LIM = 1000000 := rfl
    refine ⟨by decide, ?_⟩
    unfold dRs
    rw [g_addT]
    refine ⟨by simp only [List.length_map, List.length_cons, List.length_nil]; omega, ?_⟩
    rw [g_mulT]
    refine ⟨decide_eq_true (p := (0 : Int) ≤ 7 ∧ (7 : Int) ≤ 1000 ∧ _ ≤ 1000) ⟨by decide, by decide, by simp only [List.length_append, List.length_map, List.length_cons, List.length_nil]; omega⟩, ?_⟩
    refine W_mono (h29 3 (dRs rs) 8 5 100 st6 (by decide) hb0 (by decide) (by decide) (by decide)) ?_
    rintro ⟨d6, st7⟩ hb3
    have hb3 : Bd 9 5 220 d6 := hb3
    have hmany : ∀ y ∈ (List.replicate (Int.toNat 7) (rs.map dR ++ [dR ru])).flatten, Bd 8 2 10 y := fun y hy => by
      obtain ⟨l, hl, hy⟩ := List.mem_flatten.mp hy
      rw [(List.mem_replicate.mp hl).2] at hy
      rcases List.mem_append.mp hy with hy | hy
      · exact hbr y hy
      · rw [List.mem_singleton.mp hy]; exact bd_R q (by decide) hru
    generalize hM : (List.replicate (Int.toNat 7) (rs.map dR ++ [dR ru])).flatten = M at hmany
    have hcut : ∀ n : Nat, n ≤ 7 → Bd 10 5 460 (.tuple (cutL M none (some (n : Int)))) := fun n hn => by
      rw [cut_take]
      have hlen : (M.take n).length ≤ 7 := by rw [List.length_take]; omega
      have := BdA.all (xs := M.take n) fun y hy => hmany y (List.mem_of_mem_take hy)
      exact ((this.up (Nat.le_refl _) (Nat.le_refl _) (show _ ≤ 77 by omega)).tup (by omega)).up (by decide) (by decide) (by decide)
    rw [g_cutT, W_some, g_cutT, W_some]
    walk_at "ev"
    refine W_mono (h28 st7) ?_
    rintro ⟨d7, st8⟩ hb7
    have hb7 : Bd 8 2 20 d7 := hb7
    refine ⟨by decide, ?_⟩
    have hall : ∀ d ∈ [PyData.tuple (rs.map dR), d6, d4, .tuple (cutL M none (some 6)), .tuple (cutL M none (some 7)), .list (rs.map dR), d7], Bd 10 5 460 d := fun d hd' => by
      simp only [List.mem_cons, List.not_mem_nil, or_false] at hd'
      rcases hd' with rfl | rfl | rfl | rfl | rfl | rfl | rfl
      · exact hb0.up (by decide) (Nat.le_refl _) (by decide)
      · exact hb3.up (by decide) (Nat.le_refl _) (by decide)
      · exact hb2
      · exact hcut 6 (by decide)
      · exact hcut 7 (by decide)
      · exact (hbR.lst (by rw [List.length_map]; omega)).up (by decide) (by decide) (by decide)
      · exact hb7.up (by decide) (by decide) (by decide)
    refine loopI (I := fun ds Γ st1 => (∀ d ∈ ds, Bd 10 5 460 d) ∧ ∃ m7 m8, Γ = [some (.scr ns), some .pen, some (.d x), some (.d (dQ hd as)), some (.d (.tuple (rs.map dR))), some (.d d4), some (.d (.tuple M)), m7, m8]) ?_ ?_ _ _ _ ⟨hall, l7, l8, rfl⟩
    · rintro v ds2 Γ2 st9 ⟨hds, m7, m8, rfl⟩
      have hv := hds v (List.mem_cons_self ..)
      have gv := hv.gd (by decide)
      have gd := (bd_due (as := as) hv (by decide) (by decide)).gd (by decide)
      walk_at "ev"
      rw [g_repr gv (by decide) (by decide), W_some]
      refine W_mono (Q := fun p => p = (.bool false, st9)) ?_ ?_
      · walk_at "evb"
        refine W_mono (h34 5 4 hd as v 10 st9 q hv.sz (by decide)) ?_
        rintro _ rfl
        rw [g_repr gd (by decide) (by decide), W_some]
        refine W_mono (h38 5 4 hd as v 10 st9 q hv.sz (by decide)) ?_
        rintro _ rfl
        rw [g_repr gd (by decide) (by decide), W_some, g_neS, W_some]
        rw [decide_eq_true rfl]
        refine ⟨_, rfl, (fun h => nomatch h), fun _ => ?_⟩
        rw [g_repr gv (by decide) (by decide), W_some, g_neS, W_some]
        rw [decide_eq_true rfl]
        rfl
      · rintro _ rfl
        refine ⟨_, rfl, (fun h => nomatch h), fun _ => ?_⟩
        exact ⟨fun d hd' => hds d (List.mem_cons_of_mem _ hd'), _, _, rfl⟩
    · rintro Γ2 st9 ⟨_, m7, m8, rfl⟩
      exact ⟨_, _, _, _, _, _, _, rfl⟩
  · rintro Γ st1 ⟨l2, l3, l4, l5, l6, l7, l8, rfl⟩
    walk_at "ev"
    exact ⟨_, rfl⟩
end Mn
namespace Mn
open PySem PySem.Spec PyProof.Rows L2
def sl_require_query : XLs :=
  (XLs.cons (XL.iff (IL.not (IL.call 25 (ILG.d (IL.v 0) (ILG.nil)))) (XLs.cons (XL.raise 1 (ILs.cons (IL.k PyData.none) (ILs.nil))) (XLs.nil)) (XLs.nil)) (XLs.cons (XL.for_ [] (ILI.en (IL.ix (IL.v 0) (IL.k (PyData.int (1))))) (Tg.tup [Tg.nm 1, Tg.nm 2]) (XLs.cons (XL.iff (IL.not (IL.call 26 (ILG.d (IL.v 2) (ILG.nil)))) (XLs.cons (XL.raise 1 (ILs.cons (IL.v 1) (ILs.nil))) (XLs.nil)) (XLs.nil)) (XLs.nil))) (XLs.cons (XL.iff (IL.not (IL.call 23 (ILG.d (IL.ix (IL.v 0) (IL.k (PyData.int (0)))) (ILG.d (IL.call 27 (ILG.d (IL.v 0) (ILG.nil))) (ILG.nil))))) (XLs.cons (XL.raise 1 (ILs.cons (IL.neg (IL.k (PyData.int (1)))) (ILs.nil))) (XLs.nil)) (XLs.nil)) (XLs.cons (XL.st (SL.ret (TL.fz [] (IL.v 0)))) (XLs.nil)))))
def sl_has_query_form : SLs :=
  (SLs.cons (SL.iff (IL.or (IL.tyis (IL.v 0) "tuple" true) (IL.op (O2.ne) (IL.cb (B1.len) (ILs.cons (IL.v 0) (ILs.nil))) (IL.k (PyData.int (2))))) (SLs.cons (SL.ret (TL.fz [] (IL.k (PyData.bool false)))) (SLs.nil)) (SLs.nil)) (SLs.cons (SL.asg (Tg.tup [Tg.nm 1, Tg.nm 2]) (TL.fz [] (IL.v 0))) (SLs.cons (SL.ret (TL.fz [] (IL.and (IL.tyis (IL.v 1) "tuple" false) (IL.and (IL.tyis (IL.v 2) "tuple" false) (IL.ch (O2.le) (O2.le) (IL.k (PyData.int (1))) (IL.cb (B1.len) (ILs.cons (IL.v 2) (ILs.nil))) (IL.k (PyData.int (5)))))))) (SLs.nil))))
def sl_is_atom : SLs :=
  (SLs.cons (SL.iff (IL.or (IL.tyis (IL.v 0) "tuple" true) (IL.not (IL.ch (O2.le) (O2.le) (IL.k (PyData.int (1))) (IL.cb (B1.len) (ILs.cons (IL.v 0) (ILs.nil))) (IL.k (PyData.int (4)))))) (SLs.cons (SL.ret (TL.fz [] (IL.k (PyData.bool false)))) (SLs.nil)) (SLs.nil)) (SLs.cons (SL.ret (TL.fz [] (IL.and (IL.cb (B1.all) (ILs.cons (IL.fr (ILF.lc (ILI.seq (IL.v 0)) (Tg.nm 1) (ILO.none) (IL.call 21 (ILG.d (IL.v 1) (ILG.d (IL.k (PyData.int (7))) (ILG.nil)))) [1])) (ILs.nil))) (IL.op (O2.eq) (IL.lset (IL.v 0)) (IL.cb (B1.len) (ILs.cons (IL.v 0) (ILs.nil))))))) (SLs.nil)))
def sl_variables_of : SLs :=
  (SLs.cons (SL.ret (TL.fz [] (IL.cb (B1.tuple) (ILs.cons (IL.fr (ILF.slc2 (ILI.seq (IL.ix (IL.v 0) (IL.k (PyData.int (1))))) (Tg.nm 1) (ILO.none) (ILI.seq (IL.v 1)) (Tg.nm 2) (ILO.none) (IL.v 2) [1, 2] [2])) (ILs.nil))))) (SLs.nil))
def sl_law_is_atom : SLs :=
  (SLs.cons (SL.iff (IL.or (IL.not (IL.isa (IL.v 0) "tuple")) (IL.not (IL.ch (O2.le) (O2.le) (IL.k (PyData.int (1))) (IL.cb (B1.len) (ILs.cons (IL.v 0) (ILs.nil))) (IL.k (PyData.int (4)))))) (SLs.cons (SL.ret (TL.fz [] (IL.k (PyData.bool false)))) (SLs.nil)) (SLs.nil)) (SLs.cons (SL.ret (TL.fz [] (IL.and (IL.op (O2.eq) (IL.fr (ILF.lc (ILI.seq (IL.v 0)) (Tg.nm 1) (ILO.some (IL.not (IL.call 9 (ILG.d (IL.v 1) (ILG.d (IL.k (PyData.int (0))) (ILG.d (IL.k (PyData.int (6))) (ILG.nil))))))) (IL.k (PyData.int (1))) [1])) (IL.fr (ILF.lst (ILs.nil)))) (IL.op (O2.eq) (IL.lset (IL.v 0)) (IL.cb (B1.len) (ILs.cons (IL.v 0) (ILs.nil))))))) (SLs.nil)))
def sl_law_query_fault : SLs :=
  (SLs.cons (SL.iff (IL.or (IL.not (IL.call 30 (ILG.d (IL.v 0) (ILG.d (IL.k (PyData.int (2))) (ILG.nil))))) (IL.or (IL.not (IL.isa (IL.ix (IL.v 0) (IL.k (PyData.int (0)))) "tuple")) (IL.not (IL.isa (IL.ix (IL.v 0) (IL.k (PyData.int (1)))) "tuple")))) (SLs.cons (SL.ret (TL.fz [] (IL.fr (ILF.lst (ILs.cons (IL.k PyData.none) (ILs.nil)))))) (SLs.nil)) (SLs.nil)) (SLs.cons (SL.iff (IL.not (IL.ch (O2.le) (O2.le) (IL.k (PyData.int (1))) (IL.cb (B1.len) (ILs.cons (IL.ix (IL.v 0) (IL.k (PyData.int (1)))) (ILs.nil))) (IL.k (PyData.int (5))))) (SLs.cons (SL.ret (TL.fz [] (IL.fr (ILF.lst (ILs.cons (IL.k PyData.none) (ILs.nil)))))) (SLs.nil)) (SLs.nil)) (SLs.cons (SL.lcD 1 [] (ILF.lc (ILI.en (IL.ix (IL.v 0) (IL.k (PyData.int (1))))) (Tg.tup [Tg.nm 2, Tg.nm 3]) (ILO.some (IL.not (IL.call 31 (ILG.d (IL.v 3) (ILG.nil))))) (IL.v 2) [2, 3])) (SLs.cons (SL.iff (IL.op (O2.ne) (IL.v 1) (IL.fr (ILF.lst (ILs.nil)))) (SLs.cons (SL.ret (TL.fz [] (IL.sl (IL.v 1) (ILO.none) (ILO.some (IL.k (PyData.int (1))))))) (SLs.nil)) (SLs.nil)) (SLs.cons (SL.ret (TL.fz [] (IL.ite (IL.call 32 (ILG.d (IL.call 10 (ILG.d (IL.v 0) (ILG.nil))) (ILG.d (IL.ix (IL.v 0) (IL.k (PyData.int (0)))) (ILG.nil)))) (IL.fr (ILF.lst (ILs.nil))) (IL.fr (ILF.lst (ILs.cons (IL.neg (IL.k (PyData.int (1)))) (ILs.nil))))))) (SLs.nil))))))
def sl_law_k01 : SLs :=
  (SLs.cons (SL.forR (ILI.r1 (IL.cb (B1.max) (ILs.cons (IL.k (PyData.int (3))) (ILs.cons (IL.cb (B1.min) (ILs.cons (IL.k (PyData.int (8))) (ILs.cons (IL.lenS 0) (ILs.nil)))) (ILs.nil))))) (Tg.nm 2) (SLs.cons (SL.asg (Tg.nm 3) (TL.fz [] (IL.call 13 (ILG.p 1 (ILG.d (IL.k (PyData.int (5))) (ILG.d (IL.k (PyData.int (7))) (ILG.d (IL.k (PyData.int (4))) (ILG.nil)))))))) (SLs.cons (SL.asg (Tg.nm 4) (TL.fz [] (IL.call 29 (ILG.p 1 (ILG.d (IL.call 29 (ILG.p 1 (ILG.d (IL.v 3) (ILG.d (IL.k (PyData.int (3))) (ILG.nil))))) (ILG.d (IL.k (PyData.int (3))) (ILG.nil))))))) (SLs.cons (SL.asg (Tg.nm 5) (TL.fz [] (IL.fr (ILF.lst (ILs.cons (IL.v 3) (ILs.cons (IL.call 29 (ILG.p 1 (ILG.d (IL.v 3) (ILG.d (IL.k (PyData.int (3))) (ILG.nil))))) (ILs.cons (IL.v 4) (ILs.cons (IL.call 28 (ILG.p 1 (ILG.nil))) (ILs.cons (IL.fr (ILF.cf (F1.list) (ILs.cons (IL.v 3) (ILs.nil)))) (ILs.cons (IL.tup (ILs.cons (IL.ix (IL.v 3) (IL.k (PyData.int (0)))) (ILs.cons (IL.tup (ILs.nil)) (ILs.nil)))) (ILs.nil))))))))))) (SLs.cons (SL.asg (Tg.nm 5) (TL.fz [] (IL.op (O2.add) (IL.v 5) (IL.fr (ILF.lst (ILs.cons (IL.tup (ILs.cons (IL.tup (ILs.nil)) (ILs.cons (IL.tup (ILs.cons (IL.tup (ILs.cons (IL.k (PyData.int (0))) (ILs.cons (IL.k (PyData.int (1))) (ILs.cons (IL.k (PyData.int (2))) (ILs.cons (IL.k (PyData.int (3))) (ILs.cons (IL.k (PyData.int (4))) (ILs.nil))))))) (ILs.nil))) (ILs.nil)))) (ILs.cons (IL.tup (ILs.cons (IL.tup (ILs.nil)) (ILs.cons (IL.tup (ILs.cons (IL.tup (ILs.cons (IL.k (PyData.int (6))) (ILs.cons (IL.k (PyData.int (5))) (ILs.cons (IL.k (PyData.int (4))) (ILs.cons (IL.k (PyData.int (3))) (ILs.nil)))))) (ILs.nil))) (ILs.nil)))) (ILs.cons (IL.tup (ILs.cons (IL.ix (IL.v 3) (IL.k (PyData.int (0)))) (ILs.cons (IL.op (O2.add) (IL.sl (IL.ix (IL.v 3) (IL.k (PyData.int (1)))) (ILO.none) (ILO.some (IL.k (PyData.int (4))))) (IL.tup (ILs.cons (IL.tup (ILs.cons (IL.k (PyData.int (0))) (ILs.cons (IL.k (PyData.int (1))) (ILs.cons (IL.k (PyData.int (2))) (ILs.cons (IL.k (PyData.int (3))) (ILs.cons (IL.k (PyData.int (4))) (ILs.nil))))))) (ILs.nil)))) (ILs.nil)))) (ILs.nil))))))))) (SLs.cons (SL.asg (Tg.nm 5) (TL.fz [] (IL.op (O2.add) (IL.v 5) (IL.fr (ILF.lst (ILs.cons (IL.tup (ILs.cons (IL.ix (IL.v 3) (IL.k (PyData.int (0)))) (ILs.cons (IL.op (O2.mul) (IL.ix (IL.v 3) (IL.k (PyData.int (1)))) (IL.k (PyData.int (6)))) (ILs.nil)))) (ILs.cons (IL.tup (ILs.cons (IL.rev (IL.ix (IL.v 3) (IL.k (PyData.int (0))))) (ILs.cons (IL.ix (IL.v 3) (IL.k (PyData.int (1)))) (ILs.nil)))) (ILs.cons (IL.tup (ILs.cons (IL.op (O2.mul) (IL.ix (IL.v 3) (IL.k (PyData.int (0)))) (IL.k (PyData.int (2)))) (ILs.cons (IL.ix (IL.v 3) (IL.k (PyData.int (1)))) (ILs.nil)))) (ILs.cons (IL.op (O2.add) (IL.v 3) (IL.tup (ILs.cons (IL.tup (ILs.nil)) (ILs.nil)))) (ILs.nil)))))))))) (SLs.cons (SL.for_ [] (ILI.seq (IL.v 5)) (Tg.nm 6) (SLs.cons (SL.par 7 8 [] (CL.da (IL.cb (B1.repr) (ILs.cons (IL.v 6) (ILs.nil)))) (CL.da (IL.call 33 (ILG.d (IL.v 6) (ILG.nil))))) (SLs.cons (SL.asg (Tg.nm 9) (TL.fz [] (IL.ite (IL.op (O2.eq) (IL.v 8) (IL.fr (ILF.lst (ILs.nil)))) (IL.fr (ILF.lst (ILs.cons (IL.k (PyData.str (Str.ofString "told"))) (ILs.cons (IL.v 6) (ILs.nil))))) (IL.fr (ILF.lst (ILs.cons (IL.k (PyData.str (Str.ofString "index"))) (ILs.cons (IL.ix (IL.v 8) (IL.k (PyData.int (0)))) (ILs.nil)))))))) (SLs.cons (SL.iff (IL.or (IL.op (O2.ne) (IL.cb (B1.repr) (ILs.cons (IL.call 34 (ILG.d (IL.v 6) (ILG.nil))) (ILs.nil))) (IL.cb (B1.repr) (ILs.cons (IL.v 9) (ILs.nil)))) (IL.op (O2.ne) (IL.cb (B1.repr) (ILs.cons (IL.v 6) (ILs.nil))) (IL.v 7))) (SLs.cons (SL.ret (TL.fz [] (IL.k (PyData.bool false)))) (SLs.nil)) (SLs.nil)) (SLs.nil))))) (SLs.cons (SL.iff (IL.op (O2.ne) (IL.cb (B1.repr) (ILs.cons (IL.call 27 (ILG.d (IL.v 3) (ILG.nil))) (ILs.nil))) (IL.cb (B1.repr) (ILs.cons (IL.cb (B1.tuple) (ILs.cons (IL.call 10 (ILG.d (IL.v 3) (ILG.nil))) (ILs.nil))) (ILs.nil)))) (SLs.cons (SL.ret (TL.fz [] (IL.k (PyData.bool false)))) (SLs.nil)) (SLs.nil)) (SLs.nil))))))))) (SLs.cons (SL.ret (TL.fz [] (IL.k (PyData.bool true)))) (SLs.nil)))
/-! queries, or not -/
def nodB (xs : List PyData) : Bool := match intsD xs with
  | some ns => decide ((srtU ns).length = ns.length)
  | none => false
def allNum (v : PyData) : Bool := match v with
  | .tuple xs => xs.all fun x => numB x 7
  | _ => false
def lenIn (v : PyData) (m : Nat) : Bool := match v with
  | .tuple xs => decide (1 ≤ xs.length ∧ xs.length ≤ m)
  | _ => false
def atomB (v : PyData) : Bool := match v with
  | .tuple xs => lenIn v 4 && (allNum v && nodB xs)
  | _ => false
def badAt : List PyData → Nat → List Int
  | [], _ => []
  | x :: xs, n => if atomB x = true then badAt xs (n + 1) else (n : Int) :: badAt xs (n + 1)
def intsA (xs : List PyData) : List Int := xs.flatMap fun x => match x with
  | .tuple ys => (intsD ys).getD []
  | _ => []
def form2 (a b : PyData) : Bool := isTup a && (isTup b && lenIn b 5)
def formB (v : PyData) : Bool := match v with
  | .tuple [a, b] => form2 a b
  | _ => false
def tupL : PyData → List PyData
  | .tuple xs => xs
  | _ => []
/-- what is wrong, if anything is -/
def qf2 (a b : PyData) : Option PyData := match badAt (tupL b) 0 with
  | i :: _ => some (.int i)
  | [] => if ascB a (srtU (intsA (tupL b))) = true then none else some (.int (-1))
def qf (v : PyData) : Option PyData := match v with
  | .tuple [a, b] => if form2 a b = true then qf2 a b else some .none
  | _ => some .none
theorem nums_ints : ∀ {xs : List PyData}, (xs.all fun x => numB x 7) = true → ∃ ns, xs = dInts ns ∧ Sm ns
  | [], _ => ⟨[], rfl, fun x h => nomatch h⟩
  | x :: xs, h => by
    rw [List.all_cons, Bool.and_eq_true] at h
    obtain ⟨ns, rfl, hs⟩ := nums_ints h.2
    cases x with
    | int i =>
      refine ⟨i :: ns, rfl, fun y hy => ?_⟩
      rcases List.mem_cons.mp hy with rfl | hy
      · exact of_decide_eq_true h.1
      · exact hs y hy
    | _ => exact absurd h.1 Bool.false_ne_true
theorem atomB_ex {x : PyData} (h : atomB x = true) : ∃ ns, x = .tuple (dInts ns) ∧ Sm ns ∧ 1 ≤ ns.length ∧ ns.length ≤ 4 ∧ (srtU ns).length = ns.length := by
  cases x with
  | tuple xs =>
    simp only [atomB, Bool.and_eq_true] at h
    obtain ⟨h1, h2, h3⟩ := h
    obtain ⟨ns, rfl, hs⟩ := nums_ints h2
    simp only [nodB, dInts, intsD_map, decide_eq_true_eq] at h3
    simp only [lenIn, decide_eq_true_eq, List.length_map] at h1
    exact ⟨ns, rfl, hs, h1.1, h1.2, h3⟩
  | _ => cases h
theorem badAt_nil : ∀ {xs : List PyData} {n : Nat}, badAt xs n = [] → ∃ as, xs = dAts as ∧ (∀ a ∈ as, Sm a ∧ 1 ≤ a.length ∧ a.length ≤ 4 ∧ (srtU a).length = a.length) ∧ intsA xs = as.flatten
  | [], _, _ => ⟨[], rfl, (fun a h => nomatch h), rfl⟩
  | x :: xs, n, h => by
    rw [badAt] at h
    split at h
    · rename_i hx
      obtain ⟨ns, rfl, hp⟩ := atomB_ex hx
      obtain ⟨as, rfl, ha, hi⟩ := badAt_nil h
      refine ⟨ns :: as, rfl, fun a hm => ?_, ?_⟩
      · rcases List.mem_cons.mp hm with rfl | hm
        · exact hp
        · exact ha a hm
      · rw [intsA, List.flatMap_cons, List.flatten_cons, ← hi]
        simp only [dInts, intsD_map, Option.getD_some]
        rfl
    · cases h
theorem flat4 {as : List (List Int)} {P : List Int → Prop} (h : ∀ a ∈ as, a.length ≤ 4) : as.flatten.length ≤ 4 * as.length := by
  have := flat_len (w := 4) (as := as) fun a ha => by have := h a ha; omega
  omega
local macro_rules | `(tactic| walk_at "ev") => `(tactic| simp only [isa_T, isa_I, isa_B, ty_T, ty_I, g_eqN, g_eqI, g_neI, w_sset2, w_lc2, w_zip, w_d0, evB, evS, evTL, evTFL, evCL, evE, evEs, evF, evI, evC, evO, evG, O2.g, B1.g, F1.g,
  w_k, w_v, w_2, w_tup, w_fr, w_lst, w_nil, w_cons, w_not, w_neg, w_call, w_callF, w_isa, w_tyis, w_o0, w_o1, w_sl, w_sset, w_lset, w_lrg, w_pix, w_lenS, w_fn, w_gn, w_gd, w_gp, w_it, w_enum, w_rng1, w_lc, w_sc, w_fz, w_pop, w_scF, w_fzF,
  w_next, w_seq, w_ret, w_drop, w_asg, w_ifS, w_own, w_lcD, w_cmO, w_cmD, w_par, w_app, w_ext, w_pset, w_for, w_forR, W_some, W_none, W_ite,
  List.getElem?_cons_zero, List.getElem?_cons_succ, List.getElem?_nil, frzBy, frz1, List.contains_nil, List.contains_cons, as_nm, as_tup, as_nil, w_asTs, penD, penPut, List.set_cons_zero, List.set_cons_succ, wipeE,
  items_l, items_t, g_add, g_sub, g_mod, g_fdiv, g_mul, g_pow, g_lt, g_le, g_gt, g_ge, g_lenL, g_lenT, g_int1, g_min, g_max, g_tupL, g_tupT, g_listL, g_listT, isa_ii, isa_ib, isa_tt, g_ix20, g_ix21, g_ix30, g_ix31, g_ix32, g_sortL, w_ssetL, w_ssetT, w_lsetT, Bool.not_true, Bool.not_false, List.length_map, Option.bind_some, scalD, Bool.and_true, Bool.true_and, List.all_cons, List.all_nil,
  Option.some.injEq, Sl.d.injEq, Sl.own.injEq, Sl.scr.injEq, PyData.int.injEq, PyData.bool.injEq, PyData.list.injEq, PyData.tuple.injEq, exists_eq_left', exists_eq_left, exists_eq', exists_eq, exists_and_left, true_and, and_true, if_true, if_false, ite_true, ite_false,
  allS, Nat.reduceAdd, Nat.reduceBEq, Bool.or_false, Bool.or_true, Bool.false_or, Bool.true_or, Bool.false_eq_true, reduceIte, reduceCtorEq, List.length_cons, List.length_nil, Int.reduceEq, decide_eq_true_eq, decide_eq_false_iff_not, one_ne_zero, not_false_eq_true,
  startE, List.map_cons, List.map_nil, slOf, List.replicate_zero, List.replicate_succ, List.cons_append, List.nil_append, Nat.reduceSub, forall_const, false_implies, implies_true])
local macro_rules | `(tactic| walk_at "evb") => `(tactic| simp only [isa_T, isa_I, isa_B, ty_T, ty_I, g_eqN, g_eqI, g_neI, w_sset2, w_lc2, w_zip, w_d0, evB, evS, evTL, evTFL, evCL, evE, evEs, evF, evI, evC, evO, evG, O2.g, B1.g, F1.g,
  w_k, w_v, w_2, w_tup, w_fr, w_lst, w_nil, w_cons, w_and, w_or, w_not, w_neg, w_if, w_ch, w_call, w_callF, w_isa, w_tyis, w_o0, w_o1, w_sl, w_sset, w_lset, w_lrg, w_pix, w_lenS, w_fn, w_gn, w_gd, w_gp, w_it, w_enum, w_rng1, w_lc, w_sc, w_fz, w_pop, w_scF, w_fzF,
  w_next, w_seq, w_ret, w_drop, w_asg, w_ifS, w_own, w_lcD, w_cmO, w_cmD, w_par, w_app, w_ext, w_pset, w_for, w_forR, W_some, W_none, W_ite,
  List.getElem?_cons_zero, List.getElem?_cons_succ, List.getElem?_nil, frzBy, frz1, List.contains_nil, List.contains_cons, as_nm, as_tup, as_nil, w_asTs, penD, penPut, List.set_cons_zero, List.set_cons_succ, wipeE,
  items_l, items_t, g_add, g_sub, g_mod, g_fdiv, g_mul, g_pow, g_lt, g_le, g_gt, g_ge, g_lenL, g_lenT, g_int1, g_min, g_max, g_tupL, g_tupT, g_listL, g_listT, isa_ii, isa_ib, isa_tt, g_ix20, g_ix21, g_ix30, g_ix31, g_ix32, g_sortL, w_ssetL, w_ssetT, w_lsetT, Bool.not_true, Bool.not_false, List.length_map, Option.bind_some, scalD, Bool.and_true, Bool.true_and, List.all_cons, List.all_nil,
  Option.some.injEq, Sl.d.injEq, Sl.own.injEq, Sl.scr.injEq, PyData.int.injEq, PyData.bool.injEq, PyData.list.injEq, PyData.tuple.injEq, exists_eq_left', exists_eq_left, exists_eq', exists_eq, exists_and_left, true_and, and_true, if_true, if_false, ite_true, ite_false,
  allS, Nat.reduceAdd, Nat.reduceBEq, Bool.or_false, Bool.or_true, Bool.false_or, Bool.true_or, Bool.false_eq_true, reduceIte, reduceCtorEq, List.length_cons, List.length_nil, Int.reduceEq, decide_eq_true_eq, decide_eq_false_iff_not, one_ne_zero, not_false_eq_true,
  startE, List.map_cons, List.map_nil, slOf, List.replicate_zero, List.replicate_succ, List.cons_append, List.nil_append, Nat.reduceSub, forall_const, false_implies, implies_true])
theorem tupLen_t {xs : List PyData} : tupLen (.tuple xs) = xs.length := rfl
theorem ch_len {n m : Nat} {Q : Bool → Prop} (h : Q (decide (1 ≤ n ∧ n ≤ m))) : (1 ≤ (n : Int) → Q (decide ((n : Int) ≤ (m : Int)))) ∧ (¬1 ≤ (n : Int) → Q false) := by
  refine ⟨fun h1 => ?_, fun h1 => ?_⟩
  · have e : decide (1 ≤ n ∧ n ≤ m) = decide ((n : Int) ≤ (m : Int)) := by
      rw [Bool.eq_iff_iff, decide_eq_true_eq, decide_eq_true_eq]
      omega
    rw [← e]; exact h
  · have e : decide (1 ≤ n ∧ n ≤ m) = false := decide_eq_false (by omega)
    rw [← e]; exact h
def SpForm (f : Fn) : Prop := ∀ (v : PyData) st, W (f [.d v] st) fun r => r = (.bool (formB v), st)
theorem tup2_ex {v : PyData} (h : tupB v 2 = true) : ∃ a b, v = .tuple [a, b] := by
  cases v with
  | tuple xs =>
    have h : (xs.length : Int) = 2 := of_decide_eq_true h
    match xs, h with
    | [a, b], _ => exact ⟨a, b, rfl⟩
    | [], h => cases h
    | [_], h => cases h
    | _ :: _ :: _ :: _, h => simp at h; omega
  | _ => cases h
theorem form_no {v : PyData} (h : tupB v 2 = false) : formB v = false ∧ qf v = some .none := by
  cases v with
  | tuple xs =>
    match xs, h with
    | [], _ => exact ⟨rfl, rfl⟩
    | [_], _ => exact ⟨rfl, rfl⟩
    | [_, _], h => exact absurd h (by simp [tupB])
    | _ :: _ :: _ :: _, _ => exact ⟨rfl, rfl⟩
  | _ => exact ⟨rfl, rfl⟩
theorem form_ok {Φ : Nat → Fn} {k : Nat} : SpForm (fnOf 1 3 k Φ sl_has_query_form) := fun v st => by
  refine (w_fnOf rfl).mpr ?_
  unfold sl_has_query_form
  simp only [evB, evS]
  refine w_seq.mpr (w_ifS.mpr (W_mono (Q := fun p => p = (.bool (!tupB v 2), st)) ?_ ?_))
  · walk_at "evb"
    cases hT : isTup v with
    | false =>
      have : tupB v 2 = false := by cases v <;> first | rfl | cases hT
      rw [this]
      simp
    | true =>
      obtain ⟨xs, rfl⟩ := isTup_ex hT
      walk_at "evb"
      rfl
  · rintro _ rfl
    cases hT : tupB v 2 with
    | false =>
      rw [(form_no hT).1]
      exact ⟨true, rfl, (fun _ => w_seq.mpr (w_ret.mpr (w_fz.mpr (w_k.mpr rfl)))), fun h => nomatch h⟩
    | true =>
      refine ⟨false, rfl, (fun h => nomatch h), fun _ => ?_⟩
      obtain ⟨a, b, rfl⟩ := tup2_ex hT
      walk_at "ev"
      walk_at "evb"
      cases hA : isTup a with
      | false => simp [formB, form2, hA]
      | true =>
        cases hB : isTup b with
        | false => simp [formB, form2, hA, hB]
        | true =>
          obtain ⟨xs, rfl⟩ := isTup_ex hB
          refine ⟨fun _ => ⟨fun _ => ?_, fun h => nomatch h⟩, fun h => nomatch h⟩
          walk_at "evb"
          refine ch_len (m := 5) (Q := fun b => (PyData.bool b, st) = _) ?_
          simp only [formB, form2, hA, hB, lenIn, Bool.true_and]
def SpIsAtom (f : Fn) : Prop := ∀ (v : PyData) st, tupLen v ≤ 1000 → W (f [.d v] st) fun r => r = (.bool (atomB v), st)
theorem atomB_no {v : PyData} (h : lenIn v 4 = false) : atomB v = false := by
  cases v with
  | tuple xs => simp only [atomB, h, Bool.false_and]
  | _ => rfl
theorem lenIn_ex {v : PyData} {m : Nat} (h : lenIn v m = true) : ∃ xs, v = .tuple xs ∧ 1 ≤ xs.length ∧ xs.length ≤ m := by
  cases v with
  | tuple xs => exact ⟨xs, rfl, of_decide_eq_true h⟩
  | _ => cases h
theorem lenIn_n {v : PyData} {m : Nat} (h : isTup v = false) : lenIn v m = false := by cases v <;> first | rfl | cases h
theorem nod_w {ns : List Int} {st : Pn} (hl : ns.length ≤ 4) (Q : PyData × Pn → Prop) (q : Q (.bool (nodB (dInts ns)), st)) : ns.length ≤ 4000 ∧ W (gEq (.int ((srtU ns).length : Nat)) (.int ((dInts ns).length : Nat))) fun z => Q (z, st) := by
  refine ⟨by omega, ?_⟩
  rw [g_eqI]
  have e : decide (((srtU ns).length : Int) = ((dInts ns).length : Nat)) = nodB (dInts ns) := by
    simp only [nodB, dInts, intsD_map, List.length_map]
    rw [Bool.eq_iff_iff, decide_eq_true_eq, decide_eq_true_eq]
    omega
  rw [e]
  exact q
theorem isAtom_ok {Φ : Nat → Fn} {k : Nat} (h21 : SpNum (Φ 21)) : SpIsAtom (fnOf 1 2 k Φ sl_is_atom) := fun v st hl => by
  refine (w_fnOf rfl).mpr ?_
  unfold sl_is_atom
  simp only [evB, evS]
  refine w_seq.mpr (w_ifS.mpr (W_mono (Q := fun p => p = (.bool (!lenIn v 4), st)) ?_ ?_))
  · walk_at "evb"
    cases hT : isTup v with
    | false => simp [lenIn_n hT]
    | true =>
      obtain ⟨xs, rfl⟩ := isTup_ex hT
      walk_at "evb"
      exact ch_len (m := 4) (Q := fun b => (PyData.bool !b, st) = (PyData.bool (!lenIn (PyData.tuple xs) 4), st)) rfl
  · rintro _ rfl
    cases hT : lenIn v 4 with
    | false =>
      rw [atomB_no hT]
      exact ⟨true, rfl, (fun _ => w_seq.mpr (w_ret.mpr (w_fz.mpr (w_k.mpr rfl)))), fun h => nomatch h⟩
    | true =>
      refine ⟨false, rfl, (fun h => nomatch h), fun _ => ?_⟩
      obtain ⟨xs, rfl, l1, l4⟩ := lenIn_ex hT
      walk_at "ev"
      refine W_mono (Q := fun p => p = (.bool (allNum (.tuple xs) && nodB xs), st)) ?_ ?_
      · walk_at "evb"
        refine ⟨by rw [show LIM = 1000000 from rfl]; omega, ?_⟩
        rw [lcAll (p := fun x => numB x 7)]
        · rw [W_some, g_allB, List.all_map]
          refine ⟨_, rfl, fun hA => ?_, fun hA => ?_⟩
          · have hA : (xs.all fun x => numB x 7) = true := hA
            obtain ⟨ns, rfl, hs⟩ := nums_ints hA
            rw [w_lsetT]
            have hn : ns.length ≤ 4 := by simpa using l4
            refine nod_w (st := st) hn (fun p => p = _) ?_
            simp only [allNum, hA, Bool.true_and]
          · have hA : (xs.all fun x => numB x 7) = false := hA
            simp only [allNum, hA, Bool.false_and]
        · intro x hx
          walk_at "evb"
          exact h21 x 7 st
      · rintro _ rfl
        simp only [atomB, hT, Bool.true_and]
def SpLIsAtom (f : Fn) : Prop := ∀ (v : PyData) st, tupLen v ≤ 1000 → W (f [.d v] st) fun r => r = (.bool (atomB v), st)
theorem whole6 (x : PyData) : wholeB x 0 6 = numB x 7 := by
  cases x with
  | int i =>
    simp only [wholeB, numB]
    rw [Bool.eq_iff_iff]
    simp only [decide_eq_true_eq]
    omega
  | _ => rfl
theorem lIsAtom_ok {Φ : Nat → Fn} {k : Nat} (h9 : SpWholeA (Φ 9)) : SpLIsAtom (fnOf 1 2 k Φ sl_law_is_atom) := fun v st hl => by
  refine (w_fnOf rfl).mpr ?_
  unfold sl_law_is_atom
  simp only [evB, evS]
  refine w_seq.mpr (w_ifS.mpr (W_mono (Q := fun p => p = (.bool (!lenIn v 4), st)) ?_ ?_))
  · walk_at "evb"
    cases hT : isTup v with
    | false => simp [lenIn_n hT]
    | true =>
      obtain ⟨xs, rfl⟩ := isTup_ex hT
      walk_at "evb"
      exact ch_len (m := 4) (Q := fun b => (PyData.bool !b, st) = (PyData.bool (!lenIn (PyData.tuple xs) 4), st)) rfl
  · rintro _ rfl
    cases hT : lenIn v 4 with
    | false =>
      rw [atomB_no hT]
      exact ⟨true, rfl, (fun _ => w_seq.mpr (w_ret.mpr (w_fz.mpr (w_k.mpr rfl)))), fun h => nomatch h⟩
    | true =>
      refine ⟨false, rfl, (fun h => nomatch h), fun _ => ?_⟩
      obtain ⟨xs, rfl, l1, l4⟩ := lenIn_ex hT
      walk_at "ev"
      refine W_mono (Q := fun p => p = (.bool (allNum (.tuple xs) && nodB xs), st)) ?_ ?_
      · walk_at "evb"
        refine ⟨by rw [show LIM = 1000000 from rfl]; omega, ?_⟩
        rw [lcMap (f := fun _ => .int 1) (p := fun x => !numB x 7)]
        · rw [W_some]
          refine ⟨by decide, ?_⟩
          have e : (xs.filter fun x => !numB x 7).map (fun _ => PyData.int 1) = dInts ((xs.filter fun x => !numB x 7).map fun _ => (1 : Int)) := by
            rw [dInts, List.map_map]; rfl
          have e2 : decide ((xs.filter fun x => !numB x 7).map (fun _ => (1 : Int)) = []) = xs.all fun x => numB x 7 := by
            rw [Bool.eq_iff_iff, decide_eq_true_eq, List.map_eq_nil_iff, List.filter_eq_nil_iff, List.all_eq_true]
            simp
          rw [e, g_eqL0, e2]
          refine ⟨_, rfl, fun hA => ?_, fun hA => ?_⟩
          · obtain ⟨ns, rfl, hs⟩ := nums_ints hA
            rw [w_lsetT]
            have hn : ns.length ≤ 4 := by simpa using l4
            refine nod_w (st := st) hn (fun p => p = _) ?_
            simp only [allNum, hA, Bool.true_and]
          · simp only [allNum, hA, Bool.false_and]
        · intro x hx
          simp only [as_nm, W_some, w_lcT]
          walk_at "evb"
          refine W_mono (h9 x 0 6 st) ?_
          rintro _ rfl
          rw [whole6]
          exact ⟨_, rfl, rfl⟩
      · rintro _ rfl
        simp only [atomB, hT, Bool.true_and]
def SpVarsOf (f : Fn) : Prop := ∀ (h : PyData) (as : List (List Int)) st, as.flatten.length < 64 → W (f [.d (.tuple [h, .tuple (dAts as)])] st) fun r => r = (.tuple (dInts (srtU as.flatten)), st)
theorem varsOf_loop {Γ : Ev} {st : Pn} {c : EvE} (vs : List Nat) (it : EvI) (hi : ∀ a, W (asT (.nm 1) (.tuple (dInts a)) Γ) fun Γ1 => W (it Γ1 st) fun p => p = (dInts a, st) ∧ ∀ y, W (asT (.nm 2) (.int y) (wipeE Γ1 vs)) fun Γ2 => W (c Γ2 st) fun p => p = (.int y, st)) :
    ∀ as : List (List Int), lcLoop2 (.nm 1) none it (.nm 2) none c vs Γ (dAts as) st = some (dInts as.flatten, st)
  | [] => rfl
  | a :: as => by
    have ih := varsOf_loop vs it hi as
    obtain ⟨Γ1, e1, p, e2, rfl, q⟩ := hi a
    have e3 : lcLoop (.nm 2) none c (wipeE Γ1 vs) (dInts a) st = some (dInts a, st) := by
      have := lcMap (Γ := wipeE Γ1 vs) (st := st) (tg := .nm 2) (a := c) (cc := none) (f := id) (p := fun _ => true) (dInts a) fun d hd => by
        obtain ⟨y, hy, rfl⟩ := List.mem_map.mp hd
        refine W_mono (q y) fun Γ2 q2 => ?_
        simp only [lcTest, W_some]
        exact ⟨trivial, fun _ => q2⟩
      rw [this]
      simp
    rw [show dAts (a :: as) = .tuple (dInts a) :: dAts as from rfl, lcLoop2, e1]
    simp only [lcTest, e2, e3, ih]
    rw [List.flatten_cons, dInts, dInts, dInts, List.map_append]
theorem varsOf_ok {Φ : Nat → Fn} {k : Nat} : SpVarsOf (fnOf 1 3 k Φ sl_variables_of) := fun h as st hl => by
  refine (w_fnOf rfl).mpr ?_
  unfold sl_variables_of
  walk_at "evb"
  rw [varsOf_loop]
  · rw [W_some]
    refine ⟨by simp only [List.length_map, show LIM = 1000000 from rfl]; omega, ?_⟩
    refine ⟨dInts (srtU as.flatten), ?_, ?_⟩
    · unfold sset2D
      rw [intsD_map, Option.bind_some]
      have := srtU_le as.flatten
      rw [if_pos ⟨by omega, by omega⟩]
    · rfl
  · intro a
    rw [as_nm, W_some]
    refine W_mono (Q := fun p => p = (dInts a, st)) ?_ ?_
    · walk_at "evb"
    · rintro _ rfl
      refine ⟨rfl, fun y => ?_⟩
      walk_at "evb"
end Mn
namespace Mn
open PySem PySem.Spec PyProof.Rows L2
local macro_rules | `(tactic| walk_at "ev") => `(tactic| simp only [isa_T, isa_I, isa_B, ty_T, ty_I, g_eqN, g_eqI, g_neI, w_zip, w_d0, evB, evS, evTL, evTFL, evCL, evE, evEs, evF, evI, evC, evO, evG, O2.g, B1.g, F1.g,
  w_k, w_v, w_2, w_tup, w_fr, w_lst, w_nil, w_cons, w_not, w_neg, w_call, w_callF, w_isa, w_tyis, w_o0, w_o1, w_sl, w_sset, w_lset, w_lrg, w_pix, w_lenS, w_fn, w_gn, w_gd, w_gp, w_it, w_enum, w_rng1, w_lc, w_sc, w_fz, w_pop, w_scF, w_fzF,
  w_next, w_seq, w_ret, w_drop, w_asg, w_ifS, w_own, w_lcD, w_cmO, w_cmD, w_par, w_app, w_ext, w_pset, w_for, w_forR, W_some, W_none, W_ite,
  List.getElem?_cons_zero, List.getElem?_cons_succ, List.getElem?_nil, frzBy, frz1, List.contains_nil, List.contains_cons, as_nm, as_tup, as_nil, w_asTs, penD, penPut, List.set_cons_zero, List.set_cons_succ, wipeE,
  items_l, items_t, g_add, g_sub, g_mod, g_fdiv, g_mul, g_pow, g_lt, g_le, g_gt, g_ge, g_lenL, g_lenT, g_int1, g_min, g_max, g_tupL, g_tupT, g_listL, g_listT, isa_ii, isa_ib, isa_tt, g_ix20, g_ix21, g_ix30, g_ix31, g_ix32, g_sortL, w_ssetL, w_ssetT, w_lsetT, Bool.not_true, Bool.not_false, List.length_map, Option.bind_some, scalD, Bool.and_true, Bool.true_and, List.all_cons, List.all_nil,
  Option.some.injEq, Sl.d.injEq, Sl.own.injEq, Sl.scr.injEq, PyData.int.injEq, PyData.bool.injEq, PyData.list.injEq, PyData.tuple.injEq, exists_eq_left', exists_eq_left, exists_eq', exists_eq, exists_and_left, true_and, and_true, if_true, if_false, ite_true, ite_false,
  allS, Nat.reduceAdd, Nat.reduceBEq, Bool.or_false, Bool.or_true, Bool.false_or, Bool.true_or, Bool.false_eq_true, reduceIte, reduceCtorEq, List.length_cons, List.length_nil, Int.reduceEq, decide_eq_true_eq, decide_eq_false_iff_not, one_ne_zero, not_false_eq_true,
  startE, List.map_cons, List.map_nil, slOf, List.replicate_zero, List.replicate_succ, List.cons_append, List.nil_append, Nat.reduceSub, forall_const, false_implies, implies_true])
local macro_rules | `(tactic| walk_at "evb") => `(tactic| simp only [isa_T, isa_I, isa_B, ty_T, ty_I, g_eqN, g_eqI, g_neI, w_zip, w_d0, evB, evS, evTL, evTFL, evCL, evE, evEs, evF, evI, evC, evO, evG, O2.g, B1.g, F1.g,
  w_k, w_v, w_2, w_tup, w_fr, w_lst, w_nil, w_cons, w_and, w_or, w_not, w_neg, w_if, w_ch, w_call, w_callF, w_isa, w_tyis, w_o0, w_o1, w_sl, w_sset, w_lset, w_lrg, w_pix, w_lenS, w_fn, w_gn, w_gd, w_gp, w_it, w_enum, w_rng1, w_lc, w_sc, w_fz, w_pop, w_scF, w_fzF,
  w_next, w_seq, w_ret, w_drop, w_asg, w_ifS, w_own, w_lcD, w_cmO, w_cmD, w_par, w_app, w_ext, w_pset, w_for, w_forR, W_some, W_none, W_ite,
  List.getElem?_cons_zero, List.getElem?_cons_succ, List.getElem?_nil, frzBy, frz1, List.contains_nil, List.contains_cons, as_nm, as_tup, as_nil, w_asTs, penD, penPut, List.set_cons_zero, List.set_cons_succ, wipeE,
  items_l, items_t, g_add, g_sub, g_mod, g_fdiv, g_mul, g_pow, g_lt, g_le, g_gt, g_ge, g_lenL, g_lenT, g_int1, g_min, g_max, g_tupL, g_tupT, g_listL, g_listT, isa_ii, isa_ib, isa_tt, g_ix20, g_ix21, g_ix30, g_ix31, g_ix32, g_sortL, w_ssetL, w_ssetT, w_lsetT, Bool.not_true, Bool.not_false, List.length_map, Option.bind_some, scalD, Bool.and_true, Bool.true_and, List.all_cons, List.all_nil,
  Option.some.injEq, Sl.d.injEq, Sl.own.injEq, Sl.scr.injEq, PyData.int.injEq, PyData.bool.injEq, PyData.list.injEq, PyData.tuple.injEq, exists_eq_left', exists_eq_left, exists_eq', exists_eq, exists_and_left, true_and, and_true, if_true, if_false, ite_true, ite_false,
  allS, Nat.reduceAdd, Nat.reduceBEq, Bool.or_false, Bool.or_true, Bool.false_or, Bool.true_or, Bool.false_eq_true, reduceIte, reduceCtorEq, List.length_cons, List.length_nil, Int.reduceEq, decide_eq_true_eq, decide_eq_false_iff_not, one_ne_zero, not_false_eq_true,
  startE, List.map_cons, List.map_nil, slOf, List.replicate_zero, List.replicate_succ, List.cons_append, List.nil_append, Nat.reduceSub, forall_const, false_implies, implies_true])
theorem qf_no {v : PyData} (h : formB v = false) : qf v = some .none := by
  cases hT : tupB v 2 with
  | false => exact (form_no hT).2
  | true =>
    obtain ⟨a, b, rfl⟩ := tup2_ex hT
    have h : form2 a b = false := h
    simp only [qf, h, Bool.false_eq_true, if_false]
theorem qf_form {v : PyData} (h : formB v = true) : ∃ hd xs, v = .tuple [.tuple hd, .tuple xs] ∧ 1 ≤ xs.length ∧ xs.length ≤ 5 ∧ qf v = qf2 (.tuple hd) (.tuple xs) := by
  cases hT : tupB v 2 with
  | false => rw [(form_no hT).1] at h; cases h
  | true =>
    obtain ⟨a, b, rfl⟩ := tup2_ex hT
    have h : form2 a b = true := h
    have h' := h
    simp only [form2, Bool.and_eq_true] at h'
    obtain ⟨h1, h2, h3⟩ := h'
    obtain ⟨hd, rfl⟩ := isTup_ex h1
    obtain ⟨xs, rfl⟩ := isTup_ex h2
    have h3 := of_decide_eq_true h3
    exact ⟨hd, xs, rfl, h3.1, h3.2, by simp only [qf, h, if_true]⟩
theorem flat20 {as : List (List Int)} (h : ∀ a ∈ as, Sm a ∧ 1 ≤ a.length ∧ a.length ≤ 4 ∧ (srtU a).length = a.length) (hl : as.length ≤ 5) : as.flatten.length < 64 ∧ Sm (srtU as.flatten) := by
  have := flat_len (w := 4) (as := as) fun a ha => by have := (h a ha).2.2.1; omega
  refine ⟨by omega, sm_srtU fun x hx => ?_⟩
  obtain ⟨a, ha, hx⟩ := List.mem_flatten.mp hx
  exact (h a ha).1 x hx
def SpReqQ (g : FnX) : Prop := ∀ (v : PyData) (b : Nat) st, Sz b v → b < 64 → W (g [.d v] st) fun r => r = match qf v with
  | none => .inl (v, st)
  | some d => .inr ([d], st)
theorem reqQ_ok {Φ : Nat → Fn} {k : Nat} (h25 : SpForm (Φ 25)) (h26 : SpIsAtom (Φ 26)) (h27 : SpVarsOf (Φ 27)) (h23 : SpChoice (Φ 23)) : SpReqQ (fnX 1 3 k Φ sl_require_query) := fun v b st hv hb => by
  refine (w_fnX rfl).mpr ?_
  unfold sl_require_query
  simp only [evXB, evX]
  refine w_xseq.mpr (w_xif.mpr (W_mono (Q := fun p => p = (.bool (!formB v), st)) ?_ ?_))
  · walk_at "evb"
    refine W_mono (h25 v st) ?_
    rintro _ rfl
    exact ⟨_, rfl, rfl⟩
  · rintro _ rfl
    cases hF : formB v with
    | false =>
      rw [qf_no hF]
      refine ⟨true, rfl, fun _ => ?_, fun h => nomatch h⟩
      refine w_xseq.mpr (w_xraise.mpr ?_)
      walk_at "evb"
    | true =>
      obtain ⟨hd, xs, rfl, l1, l5, eq⟩ := qf_form hF
      rw [eq]
      obtain ⟨hl, hsz⟩ := sz_tup hv
      obtain ⟨hlx, hszx⟩ := sz_tup (hsz (.tuple xs) (by simp))
      refine ⟨false, rfl, (fun h => nomatch h), fun _ => ?_⟩
      refine w_xof.mpr (w_next.mpr ?_)
      dsimp only
      refine w_xseq.mpr (w_xfor.mpr ?_)
      walk_at "ev"
      refine xloopI (I := fun ds Γ st1 => ∃ n rest l2 l3, ds = zipD n rest ∧ (∀ x ∈ rest, x ∈ xs) ∧ badAt xs 0 = badAt rest n ∧ st1 = st ∧ Γ = [some (.d (.tuple [.tuple hd, .tuple xs])), l2, l3]) ?_ ?_ _ _ _ ⟨0, xs, none, none, rfl, fun _ h => h, rfl, rfl, rfl⟩
      · rintro d ds Γ st1 ⟨n, rest, l2, l3, e1, hr, hbx, rfl, rfl⟩
        cases rest with
        | nil => cases e1
        | cons x rest =>
          obtain ⟨rfl, rfl⟩ := List.cons.inj e1
          walk_at "ev"
          refine w_xseq.mpr (w_xif.mpr ?_)
          walk_at "ev"
          refine W_mono (h26 x st1 (by have := sz_len (hszx x (hr x (List.mem_cons_self ..))); omega)) ?_
          rintro _ rfl
          cases hR : atomB x with
          | true =>
            refine ⟨_, rfl, (fun h => nomatch h), fun _ => ?_⟩
            refine w_xof.mpr (w_next.mpr ?_)
            dsimp only
            refine w_xof.mpr (w_next.mpr ?_)
            refine ⟨n + 1, rest, rfl, fun y hy => hr y (List.mem_cons_of_mem _ hy), ?_, rfl, _, _, rfl⟩
            rw [hbx]
            simp only [badAt, hR, if_true]
          | false =>
            refine ⟨_, rfl, fun _ => ?_, fun h => nomatch h⟩
            refine w_xseq.mpr (w_xraise.mpr ?_)
            walk_at "ev"
            simp only [qf2, tupL, hbx, badAt, hR, Bool.false_eq_true, if_false]
      · rintro Γ st1 ⟨n, rest, l2, l3, e1, hr, hbx, rfl, rfl⟩
        have : rest = [] := by
          cases rest with
          | nil => rfl
          | cons a r => cases e1
        subst this
        dsimp only
        have hnil : badAt xs 0 = [] := hbx
        obtain ⟨as, rfl, ha, hi⟩ := badAt_nil hnil
        have hlen : as.length ≤ 5 := by simpa [dAts] using l5
        obtain ⟨h64, hsm⟩ := flat20 ha hlen
        have hqf : qf2 (.tuple hd) (.tuple (dAts as)) = if ascB (.tuple hd) (srtU as.flatten) = true then none else some (.int (-1)) := by
          simp only [qf2, tupL, hnil, hi]
        rw [hqf]
        refine w_xseq.mpr (w_xif.mpr ?_)
        walk_at "ev"
        refine W_mono (h27 (.tuple hd) as st1 h64) ?_
        rintro _ rfl
        refine W_mono (h23 (.tuple hd) (.tuple (dInts (srtU as.flatten))) (srtU as.flatten) st1 items_t (by have := sz_len (hsz (.tuple hd) (by simp)); omega)) ?_
        rintro _ rfl
        cases hA : ascB (.tuple hd) (srtU as.flatten) with
        | true =>
          refine ⟨_, rfl, (fun h => nomatch h), fun _ => ?_⟩
          refine w_xof.mpr (w_next.mpr ?_)
          dsimp only
          refine w_xseq.mpr (w_xof.mpr ?_)
          walk_at "ev"
        | false =>
          refine ⟨_, rfl, fun _ => ?_, fun h => nomatch h⟩
          refine w_xseq.mpr (w_xraise.mpr ?_)
          walk_at "evb"
/-! the law's own reading -/
def qfL (v : PyData) : List PyData := match qf v with
  | none => []
  | some d => [d]
def tt2 (v : PyData) : Bool := match v with
  | .tuple [a, b] => isTup a && isTup b
  | _ => false
theorem tt2_no {v : PyData} (h : tupB v 2 = false) : tt2 v = false := by
  cases v with
  | tuple xs =>
    match xs, h with
    | [], _ => rfl
    | [_], _ => rfl
    | [_, _], h => exact absurd h (by simp [tupB])
    | _ :: _ :: _ :: _, _ => rfl
  | _ => rfl
theorem tt2_ex {v : PyData} (h : tt2 v = true) : ∃ hd xs, v = .tuple [.tuple hd, .tuple xs] := by
  cases hT : tupB v 2 with
  | false => rw [tt2_no hT] at h; cases h
  | true =>
    obtain ⟨a, b, rfl⟩ := tup2_ex hT
    have h : (isTup a && isTup b) = true := h
    rw [Bool.and_eq_true] at h
    obtain ⟨hd, rfl⟩ := isTup_ex h.1
    obtain ⟨xs, rfl⟩ := isTup_ex h.2
    exact ⟨hd, xs, rfl⟩
theorem form_tt {v : PyData} (h : tt2 v = false) : formB v = false := by
  cases hT : tupB v 2 with
  | false => exact (form_no hT).1
  | true =>
    obtain ⟨a, b, rfl⟩ := tup2_ex hT
    have h : (isTup a && isTup b) = false := h
    show (isTup a && (isTup b && lenIn b 5)) = false
    rw [← Bool.and_assoc, h, Bool.false_and]
def badT (d : PyData) : Bool := match d with
  | .tuple [_, x] => !atomB x
  | _ => false
theorem badT_t {i x : PyData} : badT (.tuple [i, x]) = !atomB x := rfl
theorem badAt_filter : ∀ (xs : List PyData) (n : Nat), ((zipD n xs).filter badT).map fst2 = dInts (badAt xs n)
  | [], n => rfl
  | x :: xs, n => by
    have ih := badAt_filter xs (n + 1)
    rw [show zipD n (x :: xs) = PyData.tuple [PyData.int n, x] :: zipD (n + 1) xs from rfl, List.filter_cons, badAt]
    by_cases hR : atomB x = true
    · have e : badT (.tuple [.int n, x]) = false := by rw [badT_t, hR]; rfl
      rw [e, if_neg Bool.false_ne_true, if_pos hR]
      exact ih
    · have e : badT (.tuple [.int n, x]) = true := by rw [badT_t]; simpa using hR
      rw [e, if_pos rfl, if_neg hR, List.map_cons, ih]
      rfl
theorem zipD_len : ∀ (xs : List PyData) n, (zipD n xs).length = xs.length
  | [], n => rfl
  | x :: xs, n => by simp only [zipD, List.length_cons, zipD_len xs]
theorem zipD_mem {d : PyData} : ∀ (ys : List PyData) n, d ∈ zipD n ys → ∃ i x, d = .tuple [i, x] ∧ x ∈ ys
  | [], n, h => nomatch h
  | y :: r, n, h => by
    rcases List.mem_cons.mp h with rfl | h
    · exact ⟨_, _, rfl, List.mem_cons_self ..⟩
    · obtain ⟨i, x, e, hx⟩ := zipD_mem r (n + 1) h
      exact ⟨i, x, e, List.mem_cons_of_mem _ hx⟩
def SpFault (f : Fn) : Prop := ∀ (v : PyData) (b : Nat) st, Sz b v → b < 64 → W (f [.d v] st) fun r => r = (.list (qfL v), st)
theorem fault_ok {Φ : Nat → Fn} {k : Nat} (h30 : SpIsTup (Φ 30)) (h31 : SpLIsAtom (Φ 31)) (h10 : SpVars (Φ 10)) (h32 : SpAreVars (Φ 32)) : SpFault (fnOf 1 4 k Φ sl_law_query_fault) := fun v b st hv hb => by
  refine (w_fnOf rfl).mpr ?_
  unfold sl_law_query_fault
  simp only [evB, evS]
  refine w_seq.mpr (w_ifS.mpr (W_mono (Q := fun p => p = (.bool (!tt2 v), st)) ?_ ?_))
  · walk_at "evb"
    refine W_mono (h30 v 2 st) ?_
    rintro _ rfl
    cases hT : tupB v 2 with
    | false =>
      rw [tt2_no hT]
      exact ⟨_, rfl, (fun _ => rfl), fun h => nomatch h⟩
    | true =>
      obtain ⟨a, b, rfl⟩ := tup2_ex hT
      refine ⟨_, rfl, (fun h => nomatch h), fun _ => ?_⟩
      walk_at "evb"
      cases hA : isTup a <;> cases hB : isTup b <;> simp [tt2, hA, hB]
  · rintro _ rfl
    cases hT : tt2 v with
    | false =>
      have e : qfL v = [.none] := by simp only [qfL, qf_no (form_tt hT)]
      rw [e]
      refine ⟨true, rfl, fun _ => ?_, fun h => nomatch h⟩
      walk_at "ev"
      decide
    | true =>
      obtain ⟨hd, xs, rfl⟩ := tt2_ex hT
      obtain ⟨hl, hsz⟩ := sz_tup hv
      obtain ⟨hlx, hszx⟩ := sz_tup (hsz (.tuple xs) (by simp))
      refine ⟨false, rfl, (fun h => nomatch h), fun _ => ?_⟩
      refine w_next.mpr ?_
      dsimp only
      refine w_seq.mpr (w_ifS.mpr (W_mono (Q := fun p => p = (.bool (!lenIn (.tuple xs) 5), st)) ?_ ?_))
      · walk_at "evb"
        exact ch_len (m := 5) (Q := fun b => (PyData.bool !b, st) = (PyData.bool (!lenIn (PyData.tuple xs) 5), st)) rfl
      · rintro _ rfl
        cases hL : lenIn (.tuple xs) 5 with
        | false =>
          have hF : formB (.tuple [.tuple hd, .tuple xs]) = false := by
            show (isTup (.tuple hd) && (isTup (.tuple xs) && lenIn (.tuple xs) 5)) = false
            rw [hL, Bool.and_false, Bool.and_false]
          have e : qfL (.tuple [.tuple hd, .tuple xs]) = [.none] := by simp only [qfL, qf_no hF]
          rw [e]
          refine ⟨true, rfl, fun _ => ?_, fun h => nomatch h⟩
          walk_at "ev"
          decide
        | true =>
          have hF : formB (.tuple [.tuple hd, .tuple xs]) = true := by
            show (isTup (.tuple hd) && (isTup (.tuple xs) && lenIn (.tuple xs) 5)) = true
            rw [hL]; rfl
          obtain ⟨_, _, ex, l1, l5, eq⟩ := qf_form hF
          cases ex
          refine ⟨false, rfl, (fun h => nomatch h), fun _ => ?_⟩
          refine w_next.mpr ?_
          dsimp only
          walk_at "ev"
          refine ⟨by rw [zipD_len, show LIM = 1000000 from rfl]; omega, ?_⟩
          rw [lcMap (f := fst2) (p := badT)]
          · rw [W_some, badAt_filter]
            have hqf : qfL (.tuple [.tuple hd, .tuple xs]) = (match badAt xs 0 with
              | i :: _ => [.int i]
              | [] => if ascB (.tuple hd) (srtU (intsA xs)) = true then [] else [.int (-1)]) := by
              simp only [qfL, eq, qf2, tupL]
              cases badAt xs 0 with
              | nil => by_cases hA : ascB (.tuple hd) (srtU (intsA xs)) = true <;> simp [hA]
              | cons i r => rfl
            walk_at "ev"
            refine ⟨by decide, ?_⟩
            rw [g_neL0]
            cases hB : badAt xs 0 with
            | cons i r =>
              rw [hB] at hqf
              rw [hqf]
              refine ⟨_, rfl, fun _ => ?_, fun h => by simp at h⟩
              walk_at "ev"
              show W (some (PyData.list (cutL (PyData.int i :: List.map PyData.int r) none (some ((1 : Nat) : Int))))) _
              rw [W_some, cut_take]
              rfl
            | nil =>
              rw [hB] at hqf
              refine ⟨_, rfl, fun h => by simp at h, fun _ => ?_⟩
              obtain ⟨as, rfl, ha, hi⟩ := badAt_nil hB
              have hlen : as.length ≤ 5 := by simpa [dAts] using l5
              obtain ⟨h64, hsm⟩ := flat20 ha hlen
              rw [hqf, hi]
              walk_at "ev"
              refine W_mono (Q := fun p => p = (.list (if ascB (.tuple hd) (srtU as.flatten) = true then [] else [.int (-1)]), st)) ?_ ?_
              · walk_at "evb"
                refine W_mono (h10 (.tuple hd) as st h64) ?_
                rintro _ rfl
                refine W_mono (h32 (.tuple hd) (.list (dInts (srtU as.flatten))) (srtU as.flatten) st items_l hsm (by have := sz_len (hsz (.tuple hd) (by simp)); omega)) ?_
                rintro _ rfl
                cases hA : ascB (.tuple hd) (srtU as.flatten) with
                | true =>
                  refine ⟨_, rfl, fun _ => ?_, fun h => nomatch h⟩
                  exact ⟨by decide, rfl⟩
                | false =>
                  refine ⟨_, rfl, (fun h => nomatch h), fun _ => ?_⟩
                  exact ⟨by decide, rfl⟩
              · rintro _ rfl
                rfl
          · intro d hd'
            obtain ⟨i, x, rfl, hx⟩ := zipD_mem xs 0 hd'
            rw [as_tup]
            walk_at "evb"
            rw [w_lcT]
            walk_at "evb"
            refine W_mono (h31 x st (by have := sz_len (hszx x hx); omega)) ?_
            rintro _ rfl
            exact ⟨_, rfl, rfl, fun _ => rfl⟩
/-! what the law makes of it -/
def dueQ (v : PyData) : PyData := match qf v with
  | none => .list [.str (Str.ofString "told"), v]
  | some d => .list [.str (Str.ofString "index"), d]
def SpReqd1 (f : Fn) : Prop := ∀ (v : PyData) (b : Nat) st, Sz b v → b < 64 → W (f [.d v] st) fun r => r = (dueQ v, st)
theorem reqd1_ok {Φ : Nat → Fn} {g : FnX} {N : Nat} (h : SpReqQ g) : SpReqd1 (reqFn (Str.ofString "told") (Str.ofString "index") 1 (N + 1) (evG Φ (ILG.d (IL.v 0) ILG.nil)) g1of g) := fun v b st hv hb => by
  refine (w_reqFn (np := 1) rfl).mpr ?_
  simp only [evG, evE]
  refine w_gd.mpr (w_v.mpr ⟨_, rfl, w_gn.mpr ?_⟩)
  refine W_mono (h v b st hv hb) ?_
  rintro r rfl
  unfold dueQ
  cases qf v <;> rfl
theorem g_eqN1 {d : PyData} (hd : d = .none ∨ ∃ i, d = .int i) {Q : PyData → Prop} : W (gEq (.list [d]) (.list [])) Q ↔ Q (.bool false) := by
  rcases hd with rfl | ⟨i, rfl⟩
  · have e : gEq (.list [.none]) (.list []) = some (.bool false) := rfl
    rw [e, W_some]
  · exact g_eqL0 (xs := [i])
theorem badAt_mem : ∀ (xs : List PyData) (n : Nat) (i : Int), i ∈ badAt xs n → 0 ≤ i ∧ i < n + xs.length
  | [], n, i, h => nomatch h
  | x :: xs, n, i, h => by
    rw [badAt] at h
    have ih := badAt_mem xs (n + 1) i
    rw [List.length_cons]
    split at h
    · have := ih h; omega
    · rcases List.mem_cons.mp h with rfl | h
      · omega
      · have := ih h; omega
theorem qf_kind {v d : PyData} (h : qf v = some d) : d = .none ∨ ∃ i, d = .int i ∧ -1 ≤ i ∧ i < 5 := by
  cases hF : formB v with
  | false => rw [qf_no hF] at h; cases h; exact .inl rfl
  | true =>
    obtain ⟨hd, xs, rfl, l1, l5, eq⟩ := qf_form hF
    have e2 : qf2 (.tuple hd) (.tuple xs) = (match badAt xs 0 with
      | i :: _ => some (.int i)
      | [] => if ascB (.tuple hd) (srtU (intsA xs)) = true then none else some (.int (-1))) := rfl
    rw [eq, e2] at h
    cases hB : badAt xs 0 with
    | cons i r =>
      rw [hB] at h
      cases h
      have := badAt_mem xs 0 i (by rw [hB]; exact List.mem_cons_self ..)
      exact .inr ⟨i, rfl, by omega, by omega⟩
    | nil =>
      rw [hB] at h
      by_cases hA : ascB (.tuple hd) (srtU (intsA xs)) = true
      · simp only [if_pos hA] at h; cases h
      · simp only [if_neg hA] at h; cases h
        exact .inr ⟨-1, rfl, by decide, by decide⟩
theorem bd_dueQ {b k B : Nat} {v : PyData} (h : Bd b k B v) (hb : 8 ≤ b) : Bd b (k + 1) (B + 20) (dueQ v) := by
  have go : ∀ (s : Str) (d : PyData), (s.cps.size ≤ 10 ∧ (s.cps.toList.all fun c => decide (c < 16 ^ 8)) = true) → Bd b k B d → Bd b (k + 1) (B + 20) (.list [.str s, d]) := fun s d hs hd =>
    (((BdA.one (bd_str (b := b) (k := k) hs)).append (BdA.one hd)).up (Nat.le_refl _) (Nat.le_refl _) (by omega)).lst (by simp only [List.length_append, List.length_cons, List.length_nil]; omega)
  unfold dueQ
  cases hq : qf v with
  | none => exact go _ _ (by decide) h
  | some d =>
    refine go _ _ (by decide) ?_
    rcases qf_kind hq with rfl | ⟨i, rfl, h1, h2⟩
    · exact bd_none
    · exact bd_int (by omega)
theorem dueQ_ite {v : PyData} {st : Pn} : (match qf v with
    | none => PyData.list [.str (Str.ofString "told"), v]
    | some d => .list [.str (Str.ofString "index"), d]) = dueQ v := rfl
theorem bd_Q {m w : Int} {hd : List Int} {as : List (List Int)} (q : QOk m w hd as) (hm : m ≤ 5) (hw : w ≤ 4) : Bd 8 1 7 (.tuple (dInts hd)) ∧ (∀ y ∈ dAts as, Bd 8 1 4 y) ∧ hd.length ≤ 7 ∧ as.length ≤ 5 := by
  have hl := q.len
  have hs : Sm hd := fun x hx => by
    obtain ⟨a, ha, hx⟩ := List.mem_flatten.mp (q.sub x hx)
    exact (q.at_ a ha).sm x hx
  have h7 := sm_len q.asc hs
  refine ⟨((bdA_ints (b := 8) (k := 0) hs).tup (by rw [List.length_map]; omega)).up (Nat.le_refl _) (Nat.le_refl _) h7, fun y hy => ?_, h7, by omega⟩
  obtain ⟨a, ha, rfl⟩ := List.mem_map.mp hy
  have h4 := (q.at_ a ha).len
  exact ((bdA_ints (b := 8) (k := 0) (q.at_ a ha).sm).tup (by rw [List.length_map]; omega)).up (Nat.le_refl _) (Nat.le_refl _) (by omega)
theorem bd_pair {b k B C : Nat} {x y : PyData} (h1 : Bd b k B x) (h2 : Bd b k C y) (hb : 2 ≤ b) : Bd b (k + 1) (B + C + 2) (.tuple [x, y]) :=
  (((BdA.one h1).append ((BdA.one h2).up (Nat.le_refl _) (Nat.le_refl _) (Nat.le_refl _))).up (Nat.le_refl _) (Nat.le_refl _) (by omega)).tup (by simpa using hb)
theorem bd_list {b k B : Nat} {xs : List PyData} (n : Nat) (h : ∀ x ∈ xs, Bd b k B x) (hn : xs.length ≤ n) (hb : n ≤ b) : Bd b (k + 1) (n * (B + 1)) (.tuple xs) :=
  ((BdA.all h).up (Nat.le_refl _) (Nat.le_refl _) (Nat.mul_le_mul_right _ hn)).tup (by omega)
def revD : PyData → Option PyData
  | .list xs => some (.list xs.reverse)
  | .tuple xs => some (.tuple xs.reverse)
  | _ => none
theorem w_revD {a : EvE} {Γ : Ev} {st : Pn} {Q : PyData × Pn → Prop} : W (evRev a Γ st) Q ↔ W (a Γ st) fun p => W (revD p.1) fun z => Q (z, p.2) := by
  cases h : a Γ st with
  | none => simp only [evRev, h, W_none]
  | some p =>
    obtain ⟨d, st1⟩ := p
    cases d <;> simp [evRev, h, W_none, W_some, revD]
theorem rev_t {xs : List PyData} : revD (.tuple xs) = some (.tuple xs.reverse) := rfl
local macro_rules | `(tactic| walk_at "ev") => `(tactic| simp (maxSteps := 10000000) only [w_revD, rev_t, g_addT, g_addL, g_mulT, g_cutT, isa_T, isa_I, isa_B, ty_T, ty_I, g_eqN, g_eqI, w_zip, w_d0, evB, evS, evTL, evTFL, evCL, evE, evEs, evF, evI, evC, evO, evG, O2.g, B1.g, F1.g,
  w_k, w_v, w_2, w_tup, w_fr, w_lst, w_nil, w_cons, w_not, w_neg, w_call, w_callF, w_isa, w_tyis, w_o0, w_o1, w_sl, w_sset, w_lset, w_lrg, w_pix, w_lenS, w_fn, w_gn, w_gd, w_gp, w_it, w_enum, w_rng1, w_lc, w_sc, w_fz, w_pop, w_scF, w_fzF,
  w_next, w_seq, w_ret, w_drop, w_asg, w_ifS, w_own, w_lcD, w_cmO, w_cmD, w_par, w_app, w_ext, w_pset, w_for, w_forR, W_some, W_none, W_ite,
  List.getElem?_cons_zero, List.getElem?_cons_succ, List.getElem?_nil, frzBy, frz1, List.contains_nil, List.contains_cons, as_nm, as_tup, as_nil, w_asTs, penD, penPut, List.set_cons_zero, List.set_cons_succ, wipeE,
  items_l, items_t, g_add, g_sub, g_mod, g_fdiv, g_mul, g_pow, g_lt, g_le, g_gt, g_ge, g_lenL, g_lenT, g_int1, g_min, g_max, g_tupL, g_tupT, g_listL, g_listT, isa_ii, isa_ib, isa_tt, g_ix20, g_ix21, g_ix30, g_ix31, g_ix32, g_sortL, w_ssetL, w_ssetT, w_lsetT, Bool.not_true, Bool.not_false, List.length_map, Option.bind_some, scalD, Bool.and_true, Bool.true_and, List.all_cons, List.all_nil,
  Option.some.injEq, Sl.d.injEq, Sl.own.injEq, Sl.scr.injEq, PyData.int.injEq, PyData.bool.injEq, PyData.list.injEq, PyData.tuple.injEq, exists_eq_left', exists_eq_left, exists_eq', exists_eq, exists_and_left, true_and, and_true, if_true, if_false, ite_true, ite_false,
  allS, Nat.reduceAdd, Nat.reduceBEq, Bool.or_false, Bool.or_true, Bool.false_or, Bool.true_or, Bool.false_eq_true, reduceIte, reduceCtorEq, List.length_cons, List.length_nil, Int.reduceEq, decide_eq_true_eq, decide_eq_false_iff_not, one_ne_zero, not_false_eq_true,
  startE, List.map_cons, List.map_nil, slOf, List.replicate_zero, List.replicate_succ, List.cons_append, List.nil_append, Nat.reduceSub, forall_const, false_implies, implies_true])
local macro_rules | `(tactic| walk_at "evb") => `(tactic| simp (maxSteps := 10000000) only [w_revD, rev_t, g_addT, g_addL, g_mulT, g_cutT, isa_T, isa_I, isa_B, ty_T, ty_I, g_eqN, g_eqI, w_zip, w_d0, evB, evS, evTL, evTFL, evCL, evE, evEs, evF, evI, evC, evO, evG, O2.g, B1.g, F1.g,
  w_k, w_v, w_2, w_tup, w_fr, w_lst, w_nil, w_cons, w_and, w_or, w_not, w_neg, w_if, w_ch, w_call, w_callF, w_isa, w_tyis, w_o0, w_o1, w_sl, w_sset, w_lset, w_lrg, w_pix, w_lenS, w_fn, w_gn, w_gd, w_gp, w_it, w_enum, w_rng1, w_lc, w_sc, w_fz, w_pop, w_scF, w_fzF,
  w_next, w_seq, w_ret, w_drop, w_asg, w_ifS, w_own, w_lcD, w_cmO, w_cmD, w_par, w_app, w_ext, w_pset, w_for, w_forR, W_some, W_none, W_ite,
  List.getElem?_cons_zero, List.getElem?_cons_succ, List.getElem?_nil, frzBy, frz1, List.contains_nil, List.contains_cons, as_nm, as_tup, as_nil, w_asTs, penD, penPut, List.set_cons_zero, List.set_cons_succ, wipeE,
  items_l, items_t, g_add, g_sub, g_mod, g_fdiv, g_mul, g_pow, g_lt, g_le, g_gt, g_ge, g_lenL, g_lenT, g_int1, g_min, g_max, g_tupL, g_tupT, g_listL, g_listT, isa_ii, isa_ib, isa_tt, g_ix20, g_ix21, g_ix30, g_ix31, g_ix32, g_sortL, w_ssetL, w_ssetT, w_lsetT, Bool.not_true, Bool.not_false, List.length_map, Option.bind_some, scalD, Bool.and_true, Bool.true_and, List.all_cons, List.all_nil,
  Option.some.injEq, Sl.d.injEq, Sl.own.injEq, Sl.scr.injEq, PyData.int.injEq, PyData.bool.injEq, PyData.list.injEq, PyData.tuple.injEq, exists_eq_left', exists_eq_left, exists_eq', exists_eq, exists_and_left, true_and, and_true, if_true, if_false, ite_true, ite_false,
  allS, Nat.reduceAdd, Nat.reduceBEq, Bool.or_false, Bool.or_true, Bool.false_or, Bool.true_or, Bool.false_eq_true, reduceIte, reduceCtorEq, List.length_cons, List.length_nil, Int.reduceEq, decide_eq_true_eq, decide_eq_false_iff_not, one_ne_zero, not_false_eq_true,
  startE, List.map_cons, List.map_nil, slOf, List.replicate_zero, List.replicate_succ, List.cons_append, List.nil_append, Nat.reduceSub, forall_const, false_implies, implies_true])
theorem law1 {Φ : Nat → Fn} {W' : Nat} (h13 : SpQuery (Φ 13)) (h29 : SpBent 3 (Φ 29)) (h28 : SpOdd (Φ 28)) (h33 : SpFault (Φ 33)) (h34 : SpReqd1 (Φ 34)) (h27 : SpVarsOf (Φ 27)) (h10 : SpVars (Φ 10)) (ns : List Int) (hns : ns.length ≤ 63) :
    W (evB Φ W' sl_law_k01 (some (.scr ns) :: some .pen :: List.replicate 8 none) ⟨ns, 0, 0⟩) fun r => ∃ st, r = .rt (.bool true) st := by
  unfold sl_law_k01
  walk_at "ev"
  refine ⟨by split <;> split <;> omega, ?_⟩
  refine loopI (I := fun ds Γ st1 => ∃ l2 l3 l4 l5 l6 l7 l8 l9, Γ = [some (.scr ns), some .pen, l2, l3, l4, l5, l6, l7, l8, l9]) ?_ ?_ _ _ _ ⟨none, none, none, none, none, none, none, none, rfl⟩
  · rintro x ds Γ st1 ⟨l2, l3, l4, l5, l6, l7, l8, l9, rfl⟩
    walk_at "ev"
    refine W_mono (h13 5 7 4 st1 (by decide) (by decide) (by decide) (by decide) (by decide) (by decide)) ?_
    rintro ⟨d1, st2⟩ ⟨hd, as, e, q⟩
    have e : d1 = dQ hd as := e
    subst e
    obtain ⟨bh, ba, hh, hl⟩ := bd_Q q (by decide) (by decide)
    have bas : Bd 8 2 25 (.tuple (dAts as)) := (bd_list 5 ba (by rw [dAts, List.length_map]; exact hl) (by decide))
    have hb0 : Bd 8 5 100 (dQ hd as) := (bd_pair (bh.up (Nat.le_refl _) (show 1 ≤ 2 by decide) (Nat.le_refl _)) bas (by decide)).up (Nat.le_refl _) (by decide) (by decide)
    refine W_mono (h29 3 (dQ hd as) 8 5 100 st2 (by decide) hb0 (by decide) (by decide) (by decide)) ?_
    rintro ⟨d2, st3⟩ hb1
    refine W_mono (h29 3 d2 9 5 220 st3 (by decide) hb1 (by decide) (by decide) (by decide)) ?_
    rintro ⟨d3, st4⟩ hb2
    have hb2 : Bd 10 5 460 d3 := hb2
    dsimp only
    refine W_mono (h29 3 (dQ hd as) 8 5 100 st4 (by decide) hb0 (by decide) (by decide) (by decide)) ?_
    rintro ⟨d4, st5⟩ hb3
    have hb3 : Bd 9 5 220 d4 := hb3
    refine W_mono (h28 st5) ?_
    rintro ⟨d5, st6⟩ hb5
    have hb5 : Bd 8 2 20 d5 := hb5
    have hLIM : LIM = 1000000 := rfl
    have eQ : dQ hd as = .tuple [.tuple (dInts hd), .tuple (dAts as)] := rfl
    rw [eQ]
    walk_at "ev"
    have hlA : (dAts as).length ≤ 5 := by rw [dAts, List.length_map]; exact hl
    have hlH : (dInts hd).length ≤ 7 := by rw [dInts, List.length_map]; exact hh
    have hcs : (cutL (dAts as) none (some 4)).Sublist (dAts as) := cut_sub _ _ _
    have hcl : (cutL (dAts as) none (some 4)).length ≤ 5 := Nat.le_trans hcs.length_le hlA
    have hm : ∀ k : Int, 0 ≤ k → k ≤ 1000 → ∀ n : Nat, n ≤ 1000 → mulTB n k = true := fun k h1 h2 n h3 => decide_eq_true (p := (0 : Int) ≤ k ∧ k ≤ 1000 ∧ n ≤ 1000) ⟨h1, h2, h3⟩
    have b0 : Bd 40 0 0 (.int 0) := bd_int (by decide)
    have many : ∀ y ∈ (List.replicate (Int.toNat 6) (dAts as)).flatten, Bd 40 1 4 y := fun y hy => by
      obtain ⟨l, hl, hy⟩ := List.mem_flatten.mp hy
      rw [(List.mem_replicate.mp hl).2] at hy
      exact (ba y hy).up (by decide) (Nat.le_refl _) (Nat.le_refl _)
    have lmany : (List.replicate (Int.toNat 6) (dAts as)).flatten.length ≤ 30 := by
      rw [List.length_flatten, List.map_replicate, List.sum_replicate_nat]
      show 6 * (dAts as).length ≤ 30
      omega
    have twice : ∀ y ∈ (List.replicate (Int.toNat 2) (dInts hd)).flatten, Bd 40 0 0 y := fun y hy => by
      obtain ⟨l, hl, hy⟩ := List.mem_flatten.mp hy
      rw [(List.mem_replicate.mp hl).2] at hy
      have h1 := bh.tupE.2.2
      have hs := h1.sz y hy
      obtain ⟨i, _, rfl⟩ := List.mem_map.mp hy
      simp only [Sz] at hs
      exact bd_int (by omega)
    have ltwice : (List.replicate (Int.toNat 2) (dInts hd)).flatten.length ≤ 14 := by
      rw [List.length_flatten, List.map_replicate, List.sum_replicate_nat]
      show 2 * (dInts hd).length ≤ 14
      omega
    have small : ∀ (a : List Int), Sm a → a.length ≤ 5 → Bd 40 1 5 (.tuple (dInts a)) := fun a hs h5 => ((bdA_ints (b := 40) (k := 0) hs).tup (by rw [List.length_map]; omega)).up (Nat.le_refl _) (Nat.le_refl _) h5
    have s5 : Bd 40 1 5 (.tuple (dInts [0, 1, 2, 3, 4])) := small _ (by unfold Sm; decide) (by decide)
    have s4 : Bd 40 1 5 (.tuple (dInts [6, 5, 4, 3])) := small _ (by unfold Sm; decide) (by decide)
    have bh40 : Bd 40 4 14 (.tuple (dInts hd)) := bh.up (by decide) (by decide) (by decide)
    have ba40 : Bd 40 4 240 (.tuple (dAts as)) := bas.up (by decide) (by decide) (by decide)
    have bn40 : ∀ k B, Bd 40 (k + 1) B (.tuple []) := fun k B => (BdA.nil (b := 40) (k := k) (B := B)).tup (by decide)
    have cut5 : Bd 40 4 240 (.tuple (cutL (dAts as) none (some 4) ++ [.tuple (dInts [0, 1, 2, 3, 4])])) := by
      refine (bd_list (b := 40) (k := 1) (B := 5) 6 (fun y hy => ?_) (by rw [List.length_append, List.length_singleton]; omega) (by decide)).up (by decide) (by decide) (by decide)
      rcases List.mem_append.mp hy with hy | hy
      · exact (ba y (hcs.subset hy)).up (by decide) (Nat.le_refl _) (by decide)
      · rw [List.mem_singleton.mp hy]; exact s5
    have hP : ∀ x y, Bd 40 4 14 x → Bd 40 4 240 y → Bd 40 5 460 (.tuple [x, y]) := fun x y h1 h2 => (bd_pair h1 h2 (by decide)).up (Nat.le_refl _) (by decide) (by decide)
    repeat (refine ⟨by first | decide | omega | exact hm _ (by decide) (by decide) _ (by omega), ?_⟩)
    refine loopI (I := fun ds Γ st1 => (∀ d ∈ ds, Bd 40 5 460 d) ∧ ∃ m4 m5 m6 m7 m8 m9, Γ = [some (.scr ns), some .pen, some (.d x), some (.d (.tuple [.tuple (dInts hd), .tuple (dAts as)])), m4, m5, m6, m7, m8, m9]) ?_ ?_ _ _ _ ⟨?_, _, _, _, _, _, _, rfl⟩
    · rintro v ds2 Γ2 st9 ⟨hds, m4, m5, m6, m7, m8, m9, rfl⟩
      have hv := hds v (List.mem_cons_self ..)
      have gv := hv.gd (by decide)
      have gd := (bd_dueQ hv (by decide)).gd (by decide)
      walk_at "ev"
      rw [g_repr gv (by decide) (by decide), W_some]
      refine W_mono (h33 v 40 st9 hv.sz (by decide)) ?_
      rintro _ rfl
      refine W_mono (Q := fun p => p = (dueQ v, st9)) ?_ ?_
      · walk_at "evb"
        have hD : dueQ v = (match qf v with
          | none => PyData.list [.str (Str.ofString "told"), v]
          | some d => .list [.str (Str.ofString "index"), d]) := rfl
        cases hq : qf v with
        | none =>
          rw [hq] at hD
          simp only [qfL, hq]
          rw [g_eq00, hD]
          exact ⟨by decide, _, rfl, (fun _ => ⟨by decide, rfl⟩), fun h => nomatch h⟩
        | some d =>
          rw [hq] at hD
          have hk : d = .none ∨ ∃ i, d = .int i := (qf_kind hq).imp id fun ⟨i, e, _⟩ => ⟨i, e⟩
          simp only [qfL, hq]
          rw [g_eqN1 hk, hD]
          refine ⟨by decide, _, rfl, (fun h => nomatch h), fun _ => ?_⟩
          refine g_ixL (by decide) (by simp) fun y hy => ?_
          have : y = d := by simpa using hy.symm
          subst this
          exact ⟨by decide, rfl⟩
      · rintro _ rfl
        dsimp only
        refine W_mono (Q := fun p => p = (.bool false, st9)) ?_ ?_
        · walk_at "evb"
          refine W_mono (h34 v 40 st9 hv.sz (by decide)) ?_
          rintro _ rfl
          rw [g_repr gd (by decide) (by decide), W_some, W_some, g_neS, W_some]
          rw [decide_eq_true rfl]
          refine ⟨_, rfl, (fun h => nomatch h), fun _ => ?_⟩
          rw [g_repr gv (by decide) (by decide), W_some, g_neS, W_some]
          rw [decide_eq_true rfl]
          rfl
        · rintro _ rfl
          refine ⟨_, rfl, (fun h => nomatch h), fun _ => ?_⟩
          exact ⟨fun d hd' => hds d (List.mem_cons_of_mem _ hd'), _, _, _, _, _, _, rfl⟩
    · rintro Γ2 st9 ⟨_, m4, m5, m6, m7, m8, m9, rfl⟩
      have h64 : as.flatten.length < 64 := by
        have := flat_len (w := 4) (as := as) fun a ha => (q.at_ a ha).len
        omega
      have hsm : Sm (srtU as.flatten) := sm_srtU fun x hx => by
        obtain ⟨a, ha, hx⟩ := List.mem_flatten.mp hx
        exact (q.at_ a ha).sm x hx
      have h7 := sm_len (srtU_sorted as.flatten) hsm
      have gvr : Gd 1 7 (.tuple (dInts (srtU as.flatten))) := (((bdA_ints (b := 8) (k := 0) hsm).tup (by rw [List.length_map]; omega)).up (Nat.le_refl _) (Nat.le_refl _) h7).gd (by decide)
      walk_at "ev"
      refine W_mono (h27 (.tuple (dInts hd)) as st9 h64) ?_
      rintro _ rfl
      rw [g_repr gvr (by decide) (by decide), W_some]
      refine W_mono (h10 (.tuple (dInts hd)) as st9 h64) ?_
      rintro _ rfl
      walk_at "ev"
      rw [g_repr gvr (by decide) (by decide), W_some, g_neS, W_some]
      rw [decide_eq_true rfl]
      refine ⟨_, rfl, (fun h => nomatch h), fun _ => ?_⟩
      exact ⟨_, _, _, _, _, _, _, _, rfl⟩
    · intro d hd'
      simp only [List.mem_cons, List.not_mem_nil, or_false] at hd'
      rcases hd' with rfl | rfl | rfl | rfl | rfl | rfl | rfl | rfl | rfl | rfl | rfl | rfl | rfl
      · exact hP _ _ bh40 ba40
      · exact hb3.up (by decide) (Nat.le_refl _) (by decide)
      · exact hb2.up (by decide) (Nat.le_refl _) (by decide)
      · exact hb5.up (by decide) (by decide) (by decide)
      · have := (hP _ _ bh40 ba40).tupE.2.2
        exact (this.lst (by show 2 ≤ 40; decide)).up (Nat.le_refl _) (Nat.le_refl _) (Nat.le_refl _)
      · exact hP _ _ bh40 (bn40 _ _)
      · refine hP _ _ (bn40 _ _) ?_
        exact ((BdA.one s5).tup (by decide)).up (Nat.le_refl _) (by decide) (by decide)
      · refine hP _ _ (bn40 _ _) ?_
        exact ((BdA.one s4).tup (by decide)).up (Nat.le_refl _) (by decide) (by decide)
      · exact hP _ _ bh40 cut5
      · exact hP _ _ bh40 ((bd_list 30 many lmany (by decide)).up (Nat.le_refl _) (by decide) (by decide))
      · refine hP _ _ ?_ ba40
        obtain ⟨e1, e2, e3⟩ := bh40.tupE
        exact (e3.rev.tup (by rw [List.length_reverse]; exact e1)).up (Nat.le_refl _) (by decide) (Nat.le_refl _)
      · exact hP _ _ ((bd_list 14 twice ltwice (by decide)).up (Nat.le_refl _) (by decide) (by decide)) ba40
      · have h3 : BdA 40 4 460 [PyData.tuple (dInts hd), .tuple (dAts as), .tuple []] := ((BdA.one (bh40.up (Nat.le_refl _) (Nat.le_refl _) (Nat.le_refl _))).append ((BdA.one ba40).append (BdA.one (bn40 3 0)))).up (Nat.le_refl _) (Nat.le_refl _) (by decide)
        exact h3.tup (by show 3 ≤ 40; decide)
  · rintro Γ st1 ⟨l2, l3, l4, l5, l6, l7, l8, l9, rfl⟩
    walk_at "ev"
    exact ⟨_, rfl⟩
end Mn
namespace Mn
open PySem PySem.Spec PyProof.Rows L2
def sl_is_tuple_of : SLs :=
  (SLs.cons (SL.ret (TL.fz [] (IL.and (IL.tyis (IL.v 0) "tuple" false) (IL.op (O2.eq) (IL.cb (B1.len) (ILs.cons (IL.v 0) (ILs.nil))) (IL.v 1))))) (SLs.nil))
def sl_require_strike : XLs :=
  (XLs.cons (XL.iff (IL.tyis (IL.v 1) "tuple" true) (XLs.cons (XL.raise 1 (ILs.cons (IL.k PyData.none) (ILs.nil))) (XLs.nil)) (XLs.nil)) (XLs.cons (XL.for_ [] (ILI.en (IL.v 1)) (Tg.tup [Tg.nm 2, Tg.nm 3]) (XLs.cons (XL.iff (IL.or (IL.not (IL.call 81 (ILG.d (IL.v 0) (ILG.d (IL.v 3) (ILG.nil))))) (IL.and (IL.op (O2.gt) (IL.v 2) (IL.k (PyData.int (0)))) (IL.op (O2.le) (IL.v 3) (IL.ix (IL.v 1) (IL.op (O2.sub) (IL.v 2) (IL.k (PyData.int (1)))))))) (XLs.cons (XL.raise 1 (ILs.cons (IL.v 2) (ILs.nil))) (XLs.nil)) (XLs.nil)) (XLs.nil))) (XLs.cons (XL.st (SL.ret (TL.fz [] (IL.v 1)))) (XLs.nil))))
def sl_is_place : SLs :=
  (SLs.cons (SL.ret (TL.fz [] (IL.and (IL.call 56 (ILG.d (IL.v 1) (ILG.d (IL.k (PyData.int (2))) (ILG.nil)))) (IL.and (IL.call 21 (ILG.d (IL.ix (IL.v 1) (IL.k (PyData.int (0)))) (ILG.d (IL.cb (B1.len) (ILs.cons (IL.v 0) (ILs.nil))) (ILG.nil)))) (IL.call 21 (ILG.d (IL.ix (IL.v 1) (IL.k (PyData.int (1)))) (ILG.d (IL.cb (B1.len) (ILs.cons (IL.ix (IL.v 0) (IL.ix (IL.v 1) (IL.k (PyData.int (0))))) (ILs.nil))) (ILG.nil)))))))) (SLs.nil))
def sl_without_rows : SLs :=
  (SLs.cons (SL.ret (TL.fz [] (IL.cb (B1.tuple) (ILs.cons (IL.fr (ILF.lc (ILI.en (IL.v 0)) (Tg.tup [Tg.nm 2, Tg.nm 3]) (ILO.none) (IL.cb (B1.tuple) (ILs.cons (IL.fr (ILF.lc (ILI.en (IL.v 3)) (Tg.tup [Tg.nm 4, Tg.nm 5]) (ILO.some (IL.op (O2.notIn) (IL.tup (ILs.cons (IL.v 2) (ILs.cons (IL.v 4) (ILs.nil)))) (IL.v 1))) (IL.v 5) [4, 5])) (ILs.nil))) [2, 3])) (ILs.nil))))) (SLs.nil))
def sl_law_table : SLs :=
  (SLs.cons (SL.asg (Tg.nm 6) (TL.fz [] (IL.fr (ILF.lst (ILs.nil))))) (SLs.cons (SL.forR (ILI.r1 (IL.v 4)) (Tg.nm 7) (SLs.cons (SL.asg (Tg.nm 8) (TL.fz [] (IL.cb (B1.tuple) (ILs.cons (IL.fr (ILF.lc (ILI.seq (IL.ix (IL.ix (IL.v 1) (IL.k (PyData.int (1)))) (IL.v 3))) (Tg.nm 10) (ILO.none) (IL.call 8 (ILG.p 0 (ILG.d (IL.v 5) (ILG.nil)))) [10])) (ILs.nil))))) (SLs.cons (SL.asg (Tg.nm 9) (TL.fz [] (IL.fr (ILF.sset (IL.op (O2.add) (IL.v 6) (IL.fr (ILF.lst (ILs.cons (IL.v 8) (ILs.nil))))))))) (SLs.cons (SL.iff (IL.op (O2.eq) (IL.fr (ILF.lc (ILI.seq (IL.v 2)) (Tg.nm 11) (ILO.some (IL.and (IL.op (O2.eq) (IL.ix (IL.v 11) (IL.k (PyData.int (0)))) (IL.v 3)) (IL.op (O2.ne) (IL.call 65 (ILG.d (IL.v 1) (ILG.d (IL.v 11) (ILG.d (IL.v 9) (ILG.nil))))) (IL.fr (ILF.lst (ILs.nil)))))) (IL.v 11) [11])) (IL.fr (ILF.lst (ILs.nil)))) (SLs.cons (SL.asg (Tg.nm 6) (TL.fz [] (IL.v 9))) (SLs.nil)) (SLs.nil)) (SLs.nil))))) (SLs.cons (SL.ret (TL.fz [] (IL.cb (B1.tuple) (ILs.cons (IL.v 6) (ILs.nil))))) (SLs.nil))))
def sl_law_store : SLs :=
  (SLs.cons (SL.asg (Tg.nm 4) (TL.fz [] (IL.call 8 (ILG.p 0 (ILG.d (IL.fr (ILF.lst (ILs.cons (IL.fr (ILF.lst (ILs.cons (IL.k (PyData.int (0))) (ILs.cons (IL.k (PyData.int (1))) (ILs.nil))))) (ILs.cons (IL.fr (ILF.lst (ILs.cons (IL.k (PyData.int (0))) (ILs.cons (IL.k (PyData.int (1))) (ILs.nil))))) (ILs.cons (IL.fr (ILF.lst (ILs.cons (IL.k (PyData.int (0))) (ILs.cons (IL.k (PyData.int (1))) (ILs.nil))))) (ILs.cons (IL.fr (ILF.lst (ILs.cons (IL.k (PyData.int (0))) (ILs.cons (IL.k (PyData.int (1))) (ILs.cons (IL.k (PyData.int (2))) (ILs.nil)))))) (ILs.cons (IL.fr (ILF.lst (ILs.cons (IL.k (PyData.int (9))) (ILs.cons (IL.k (PyData.int (100))) (ILs.cons (IL.k (PyData.int (10))) (ILs.nil)))))) (ILs.cons (IL.fr (ILF.lst (ILs.cons (IL.k (PyData.int (999))) (ILs.cons (IL.k (PyData.int (0))) (ILs.cons (IL.k (PyData.int (998))) (ILs.nil)))))) (ILs.nil))))))))) (ILG.nil)))))) (SLs.cons (SL.ret (TL.fz [] (IL.cb (B1.tuple) (ILs.cons (IL.fr (ILF.lc (ILI.r1 (IL.cb (B1.len) (ILs.cons (IL.ix (IL.v 1) (IL.k (PyData.int (1)))) (ILs.nil)))) (Tg.nm 5) (ILO.none) (IL.call 67 (ILG.p 0 (ILG.d (IL.v 1) (ILG.d (IL.v 2) (ILG.d (IL.v 5) (ILG.d (IL.v 3) (ILG.d (IL.v 4) (ILG.nil)))))))) [5])) (ILs.nil))))) (SLs.nil)))
def sl_law_places : SLs :=
  (SLs.cons (SL.own 1 (TFL.fz [] (ILF.lst (ILs.nil)))) (SLs.cons (SL.for_ [] (ILI.en (IL.v 0)) (Tg.tup [Tg.nm 2, Tg.nm 3]) (SLs.cons (SL.ext 1 (TL.fz [] (IL.fr (ILF.lc (ILI.r1 (IL.cb (B1.len) (ILs.cons (IL.v 3) (ILs.nil)))) (Tg.nm 4) (ILO.none) (IL.tup (ILs.cons (IL.v 2) (ILs.cons (IL.v 4) (ILs.nil)))) [4])))) (SLs.nil))) (SLs.cons (SL.ret (TL.fz [1] (IL.v 1))) (SLs.nil))))
def sl_law_is_place : SLs :=
  (SLs.cons (SL.iff (IL.or (IL.not (IL.call 30 (ILG.d (IL.v 1) (ILG.d (IL.k (PyData.int (2))) (ILG.nil))))) (IL.not (IL.call 9 (ILG.d (IL.ix (IL.v 1) (IL.k (PyData.int (0)))) (ILG.d (IL.k (PyData.int (0))) (ILG.d (IL.op (O2.sub) (IL.cb (B1.len) (ILs.cons (IL.v 0) (ILs.nil))) (IL.k (PyData.int (1)))) (ILG.nil))))))) (SLs.cons (SL.ret (TL.fz [] (IL.k (PyData.bool false)))) (SLs.nil)) (SLs.nil)) (SLs.cons (SL.ret (TL.fz [] (IL.call 9 (ILG.d (IL.ix (IL.v 1) (IL.k (PyData.int (1)))) (ILG.d (IL.k (PyData.int (0))) (ILG.d (IL.op (O2.sub) (IL.cb (B1.len) (ILs.cons (IL.ix (IL.v 0) (IL.ix (IL.v 1) (IL.k (PyData.int (0))))) (ILs.nil))) (IL.k (PyData.int (1)))) (ILG.nil))))))) (SLs.nil)))
def sl_law_due7 : SLs :=
  (SLs.cons (SL.iff (IL.not (IL.isa (IL.v 1) "tuple")) (SLs.cons (SL.ret (TL.fz [] (IL.fr (ILF.lst (ILs.cons (IL.k (PyData.str (Str.ofString "index"))) (ILs.cons (IL.k PyData.none) (ILs.nil))))))) (SLs.nil)) (SLs.nil)) (SLs.cons (SL.for_ [] (ILI.en (IL.v 1)) (Tg.tup [Tg.nm 2, Tg.nm 3]) (SLs.cons (SL.iff (IL.or (IL.not (IL.call 84 (ILG.d (IL.v 0) (ILG.d (IL.v 3) (ILG.nil))))) (IL.and (IL.op (O2.gt) (IL.v 2) (IL.k (PyData.int (0)))) (IL.op (O2.ge) (IL.ix (IL.v 1) (IL.op (O2.sub) (IL.v 2) (IL.k (PyData.int (1))))) (IL.v 3)))) (SLs.cons (SL.ret (TL.fz [] (IL.fr (ILF.lst (ILs.cons (IL.k (PyData.str (Str.ofString "index"))) (ILs.cons (IL.v 2) (ILs.nil))))))) (SLs.nil)) (SLs.nil)) (SLs.nil))) (SLs.cons (SL.ret (TL.fz [] (IL.fr (ILF.lst (ILs.cons (IL.k (PyData.str (Str.ofString "told"))) (ILs.cons (IL.v 1) (ILs.nil))))))) (SLs.nil))))
def sl_law_k07 : SLs :=
  (SLs.cons (SL.forR (ILI.r1 (IL.cb (B1.max) (ILs.cons (IL.k (PyData.int (3))) (ILs.cons (IL.cb (B1.min) (ILs.cons (IL.k (PyData.int (8))) (ILs.cons (IL.lenS 0) (ILs.nil)))) (ILs.nil))))) (Tg.nm 2) (SLs.cons (SL.asg (Tg.nm 3) (TL.fz [] (IL.call 13 (ILG.p 1 (ILG.d (IL.k (PyData.int (5))) (ILG.d (IL.k (PyData.int (7))) (ILG.d (IL.k (PyData.int (4))) (ILG.nil)))))))) (SLs.cons (SL.asg (Tg.nm 4) (TL.fz [] (IL.call 68 (ILG.p 1 (ILG.d (IL.v 3) (ILG.d (IL.tup (ILs.nil)) (ILG.d (IL.k (PyData.int (5))) (ILG.nil)))))))) (SLs.cons (SL.asg (Tg.nm 5) (TL.fz [] (IL.call 83 (ILG.d (IL.v 4) (ILG.nil))))) (SLs.cons (SL.asg (Tg.nm 6) (TL.fz [] (IL.cb (B1.tuple) (ILs.cons (IL.fr (ILF.cf (F1.sorted) (ILs.cons (IL.call 11 (ILG.p 1 (ILG.d (IL.v 5) (ILG.d (IL.cb (B1.len) (ILs.cons (IL.v 5) (ILs.nil))) (ILG.nil))))) (ILs.nil)))) (ILs.nil))))) (SLs.cons (SL.asg (Tg.nm 7) (TL.fz [] (IL.call 29 (ILG.p 1 (ILG.d (IL.call 29 (ILG.p 1 (ILG.d (IL.v 6) (ILG.d (IL.k (PyData.int (2))) (ILG.nil))))) (ILG.d (IL.k (PyData.int (2))) (ILG.nil))))))) (SLs.cons (SL.asg (Tg.nm 8) (TL.fz [] (IL.fr (ILF.lst (ILs.cons (IL.v 6) (ILs.cons (IL.cb (B1.tuple) (ILs.cons (IL.v 5) (ILs.nil))) (ILs.cons (IL.tup (ILs.nil)) (ILs.cons (IL.rev (IL.v 6)) (ILs.cons (IL.op (O2.mul) (IL.v 6) (IL.k (PyData.int (2)))) (ILs.cons (IL.fr (ILF.cf (F1.list) (ILs.cons (IL.v 6) (ILs.nil)))) (ILs.cons (IL.call 28 (ILG.p 1 (ILG.nil))) (ILs.cons (IL.v 7) (ILs.nil))))))))))))) (SLs.cons (SL.for_ [] (ILI.seq (IL.op (O2.add) (IL.v 8) (IL.fr (ILF.lst (ILs.cons (IL.call 29 (ILG.p 1 (ILG.d (IL.v 6) (ILG.d (IL.k (PyData.int (2))) (ILG.nil))))) (ILs.cons (IL.op (O2.add) (IL.v 6) (IL.tup (ILs.cons (IL.tup (ILs.cons (IL.cb (B1.len) (ILs.cons (IL.v 4) (ILs.nil))) (ILs.cons (IL.k (PyData.int (0))) (ILs.nil)))) (ILs.nil)))) (ILs.cons (IL.op (O2.add) (IL.v 6) (IL.tup (ILs.cons (IL.tup (ILs.cons (IL.k (PyData.int (0))) (ILs.cons (IL.cb (B1.len) (ILs.cons (IL.ix (IL.v 4) (IL.k (PyData.int (0)))) (ILs.nil))) (ILs.nil)))) (ILs.nil)))) (ILs.nil)))))))) (Tg.nm 9) (SLs.cons (SL.asg (Tg.nm 10) (TL.fz [] (IL.cb (B1.repr) (ILs.cons (IL.v 9) (ILs.nil))))) (SLs.cons (SL.iff (IL.or (IL.op (O2.ne) (IL.cb (B1.repr) (ILs.cons (IL.call 34 (ILG.d (IL.v 4) (ILG.d (IL.v 9) (ILG.nil)))) (ILs.nil))) (IL.cb (B1.repr) (ILs.cons (IL.call 38 (ILG.d (IL.v 4) (ILG.d (IL.v 9) (ILG.nil)))) (ILs.nil)))) (IL.op (O2.ne) (IL.cb (B1.repr) (ILs.cons (IL.v 9) (ILs.nil))) (IL.v 10))) (SLs.cons (SL.ret (TL.fz [] (IL.k (PyData.bool false)))) (SLs.nil)) (SLs.nil)) (SLs.nil)))) (SLs.cons (SL.own 11 (TFL.fz [] (ILF.lst (ILs.nil)))) (SLs.cons (SL.for_ [] (ILI.en (IL.v 4)) (Tg.tup [Tg.nm 12, Tg.nm 13]) (SLs.cons (SL.app 11 (TL.fz [] (IL.cb (B1.tuple) (ILs.cons (IL.fr (ILF.lc (ILI.en (IL.v 13)) (Tg.tup [Tg.nm 14, Tg.nm 15]) (ILO.some (IL.op (O2.notIn) (IL.tup (ILs.cons (IL.v 12) (ILs.cons (IL.v 14) (ILs.nil)))) (IL.v 6))) (IL.v 15) [14, 15])) (ILs.nil))))) (SLs.nil))) (SLs.cons (SL.iff (IL.op (O2.ne) (IL.cb (B1.repr) (ILs.cons (IL.call 82 (ILG.d (IL.v 4) (ILG.d (IL.v 6) (ILG.nil)))) (ILs.nil))) (IL.cb (B1.repr) (ILs.cons (IL.cb (B1.tuple) (ILs.cons (IL.v 11) (ILs.nil))) (ILs.nil)))) (SLs.cons (SL.ret (TL.fz [] (IL.k (PyData.bool false)))) (SLs.nil)) (SLs.nil)) (SLs.nil)))))))))))) (SLs.cons (SL.ret (TL.fz [] (IL.k (PyData.bool true)))) (SLs.nil)))
local macro_rules | `(tactic| walk_at "ev") => `(tactic| simp only [isa_T, isa_I, isa_B, ty_T, ty_I, g_eqN, g_eqI, g_neI, w_sset2, w_lc2, w_zip, w_d0, evB, evS, evTL, evTFL, evCL, evE, evEs, evF, evI, evC, evO, evG, O2.g, B1.g, F1.g,
  w_k, w_v, w_2, w_tup, w_fr, w_lst, w_nil, w_cons, w_not, w_neg, w_call, w_callF, w_isa, w_tyis, w_o0, w_o1, w_sl, w_sset, w_lset, w_lrg, w_pix, w_lenS, w_fn, w_gn, w_gd, w_gp, w_it, w_enum, w_rng1, w_lc, w_sc, w_fz, w_pop, w_scF, w_fzF,
  w_next, w_seq, w_ret, w_drop, w_asg, w_ifS, w_own, w_lcD, w_cmO, w_cmD, w_par, w_app, w_ext, w_pset, w_for, w_forR, W_some, W_none, W_ite,
  List.getElem?_cons_zero, List.getElem?_cons_succ, List.getElem?_nil, frzBy, frz1, List.contains_nil, List.contains_cons, as_nm, as_tup, as_nil, w_asTs, penD, penPut, List.set_cons_zero, List.set_cons_succ, wipeE,
  items_l, items_t, g_add, g_sub, g_mod, g_fdiv, g_mul, g_pow, g_lt, g_le, g_gt, g_ge, g_lenL, g_lenT, g_int1, g_min, g_max, g_tupL, g_tupT, g_listL, g_listT, isa_ii, isa_ib, isa_tt, g_ix20, g_ix21, g_ix30, g_ix31, g_ix32, g_sortL, w_ssetL, w_ssetT, w_lsetT, Bool.not_true, Bool.not_false, List.length_map, Option.bind_some, scalD, Bool.and_true, Bool.true_and, List.all_cons, List.all_nil,
  Option.some.injEq, Sl.d.injEq, Sl.own.injEq, Sl.scr.injEq, PyData.int.injEq, PyData.bool.injEq, PyData.list.injEq, PyData.tuple.injEq, exists_eq_left', exists_eq_left, exists_eq', exists_eq, exists_and_left, true_and, and_true, if_true, if_false, ite_true, ite_false,
  allS, Nat.reduceAdd, Nat.reduceBEq, Bool.or_false, Bool.or_true, Bool.false_or, Bool.true_or, Bool.false_eq_true, reduceIte, reduceCtorEq, List.length_cons, List.length_nil, Int.reduceEq, decide_eq_true_eq, decide_eq_false_iff_not, one_ne_zero, not_false_eq_true,
  startE, List.map_cons, List.map_nil, slOf, List.replicate_zero, List.replicate_succ, List.cons_append, List.nil_append, Nat.reduceSub, forall_const, false_implies, implies_true])
local macro_rules | `(tactic| walk_at "evb") => `(tactic| simp only [isa_T, isa_I, isa_B, ty_T, ty_I, g_eqN, g_eqI, g_neI, w_sset2, w_lc2, w_zip, w_d0, evB, evS, evTL, evTFL, evCL, evE, evEs, evF, evI, evC, evO, evG, O2.g, B1.g, F1.g,
  w_k, w_v, w_2, w_tup, w_fr, w_lst, w_nil, w_cons, w_and, w_or, w_not, w_neg, w_if, w_ch, w_call, w_callF, w_isa, w_tyis, w_o0, w_o1, w_sl, w_sset, w_lset, w_lrg, w_pix, w_lenS, w_fn, w_gn, w_gd, w_gp, w_it, w_enum, w_rng1, w_lc, w_sc, w_fz, w_pop, w_scF, w_fzF,
  w_next, w_seq, w_ret, w_drop, w_asg, w_ifS, w_own, w_lcD, w_cmO, w_cmD, w_par, w_app, w_ext, w_pset, w_for, w_forR, W_some, W_none, W_ite,
  List.getElem?_cons_zero, List.getElem?_cons_succ, List.getElem?_nil, frzBy, frz1, List.contains_nil, List.contains_cons, as_nm, as_tup, as_nil, w_asTs, penD, penPut, List.set_cons_zero, List.set_cons_succ, wipeE,
  items_l, items_t, g_add, g_sub, g_mod, g_fdiv, g_mul, g_pow, g_lt, g_le, g_gt, g_ge, g_lenL, g_lenT, g_int1, g_min, g_max, g_tupL, g_tupT, g_listL, g_listT, isa_ii, isa_ib, isa_tt, g_ix20, g_ix21, g_ix30, g_ix31, g_ix32, g_sortL, w_ssetL, w_ssetT, w_lsetT, Bool.not_true, Bool.not_false, List.length_map, Option.bind_some, scalD, Bool.and_true, Bool.true_and, List.all_cons, List.all_nil,
  Option.some.injEq, Sl.d.injEq, Sl.own.injEq, Sl.scr.injEq, PyData.int.injEq, PyData.bool.injEq, PyData.list.injEq, PyData.tuple.injEq, exists_eq_left', exists_eq_left, exists_eq', exists_eq, exists_and_left, true_and, and_true, if_true, if_false, ite_true, ite_false,
  allS, Nat.reduceAdd, Nat.reduceBEq, Bool.or_false, Bool.or_true, Bool.false_or, Bool.true_or, Bool.false_eq_true, reduceIte, reduceCtorEq, List.length_cons, List.length_nil, Int.reduceEq, decide_eq_true_eq, decide_eq_false_iff_not, one_ne_zero, not_false_eq_true,
  startE, List.map_cons, List.map_nil, slOf, List.replicate_zero, List.replicate_succ, List.cons_append, List.nil_append, Nat.reduceSub, forall_const, false_implies, implies_true])
theorem erase_permA {α : Type} : ∀ (zs : List α) (j : Nat) (h : j < zs.length), (zs[j] :: zs.eraseIdx j).Perm zs
  | z :: zs, 0, _ => .refl _
  | z :: zs, j + 1, h => by
    have := erase_permA zs j (by simpa using h)
    simp only [List.getElem_cons_succ, List.eraseIdx_cons_succ]
    exact (List.Perm.swap _ _ _).trans (this.cons z)
theorem popLoopA {Φ : Nat → Fn} (h : SpDraw (Φ 7)) {d : PyData} {m : Int} {xs : List PyData} (hl : xs.length ≤ 1000) {n : Nat} : ∀ (ds : List PyData) (ys zs : List PyData) (l : Option Sl) (st : Pn), (ys ++ zs).Perm xs → ds.length ≤ zs.length → ys.length + ds.length = n →
    W (esLoop (.nm 5) (esSeq (esApp 4 (evPop 3 (evSc (evFn (Φ 7) (evGP 0 (evGD (evCall gLen (evCons (evV 3) evNil)) evGN)))))) esNext) ds [some .pen, some (.d d), some (.d (.int m)), some (.own zs), some (.own ys), l] st)
      fun r => ∃ ys zs l st1, r = .nx [some .pen, some (.d d), some (.d (.int m)), some (.own zs), some (.own ys), l] st1 ∧ (ys ++ zs).Perm xs ∧ ys.length = n := by
  intro ds ys zs l st hp hz hn
  refine loopI (I := fun ds Γ st1 => ∃ ys zs l, (ys ++ zs).Perm xs ∧ ds.length ≤ zs.length ∧ ys.length + ds.length = n ∧ Γ = [some .pen, some (.d d), some (.d (.int m)), some (.own zs), some (.own ys), l]) ?_ ?_ _ _ _ ⟨ys, zs, l, hp, hz, hn, rfl⟩
  · rintro x ds Γ st1 ⟨ys, zs, l, hp, hz, hn, rfl⟩
    rw [List.length_cons] at hz hn
    have hxl := hp.length_eq
    rw [List.length_append] at hxl
    walk_at "ev"
    refine W_mono (h zs.length st1 (by omega) (by omega)) fun r ⟨z, hz1, z0, z1⟩ => ?_
    rw [hz1]
    walk_at "ev"
    have hj : z.toNat < zs.length := by omega
    refine ⟨by rw [show LIM = 1000000 from rfl]; omega, ?_⟩
    rw [ixN_ok z0 z1, W_some, List.getElem?_eq_getElem hj, W_some]
    refine ⟨by rw [show LIM = 1000000 from rfl]; omega, ys ++ [zs[z.toNat]], zs.eraseIdx z.toNat, ?_, ?_, ?_, some (.d x), rfl⟩
    · rw [List.append_assoc]
      exact ((erase_permA zs _ hj).append_left ys).trans hp
    · rw [List.length_eraseIdx, if_pos hj]; omega
    · rw [List.length_append, List.length_singleton]; omega
  · rintro Γ st1 ⟨ys, zs, l, hp, hz, hn, rfl⟩
    exact ⟨ys, zs, l, st1, rfl, hp, hn⟩
def SpSomeA (f : Fn) : Prop := ∀ (d : PyData) (xs : List PyData) (m : Int) st, itemsD d = some xs → xs.length ≤ 1000 → 0 ≤ m → m ≤ 1000 → W (f [.pen, .d d, .d (.int m)] st) fun r => ∃ ys zs, r.1 = .list ys ∧ (ys ++ zs).Perm xs
theorem someA_ok {Φ : Nat → Fn} {k : Nat} (h : SpDraw (Φ 7)) : SpSomeA (fnOf 3 6 k Φ sl_law_some_of) := fun d xs m st hd hl h0 h1 => by
  refine (w_fnOf rfl).mpr ?_
  unfold sl_law_some_of
  walk_at "ev"
  have e : gListF [d] = some xs := hd
  rw [e]
  walk_at "ev"
  refine ⟨by decide, W_mono (h (m + 1) st (by omega) (by omega)) fun r ⟨z, hz1, z0, z1⟩ => ?_⟩
  rw [hz1]
  walk_at "ev"
  refine ⟨by split <;> omega, ?_⟩
  refine W_mono (popLoopA h hl (n := _) _ [] xs none r.2 (by rw [List.nil_append]) (by rw [rng_len]; split <;> omega) rfl) ?_
  rintro _ ⟨ys, zs, l, st1, rfl, hp, hn⟩
  walk_at "ev"
  exact ⟨zs, hp⟩
theorem SpSomeA.ints {f : Fn} (h : SpSomeA f) : SpSome f := fun d xs m st hd hl h0 h1 => by
  refine W_mono (h d (dInts xs) m st hd (by rw [List.length_map]; exact hl) h0 h1) ?_
  rintro r ⟨ys, zs, e, hp⟩
  have hm : ∀ y ∈ ys ++ zs, ∃ i, y = PyData.int i := fun y hy => by
    obtain ⟨i, _, rfl⟩ := List.mem_map.mp (hp.mem_iff.mp hy)
    exact ⟨i, rfl⟩
  have go : ∀ ws : List PyData, (∀ y ∈ ws, ∃ i, y = PyData.int i) → ∃ ns, ws = dInts ns := by
    intro ws
    induction ws with
    | nil => exact fun _ => ⟨[], rfl⟩
    | cons w ws ih =>
      intro h
      obtain ⟨i, rfl⟩ := h w (List.mem_cons_self ..)
      obtain ⟨ns, rfl⟩ := ih fun y hy => h y (List.mem_cons_of_mem _ hy)
      exact ⟨i :: ns, rfl⟩
  obtain ⟨a, rfl⟩ := go ys fun y hy => hm y (List.mem_append_left _ hy)
  obtain ⟨b, rfl⟩ := go zs fun y hy => hm y (List.mem_append_right _ hy)
  refine ⟨a, b, e, ?_⟩
  rw [dInts, dInts, ← List.map_append] at hp
  have := hp.map fun d => match d with
    | PyData.int i => i
    | _ => 0
  simpa [Function.comp_def] using this
/-! tuples of ints -/
abbrev dTs (ks : List (List Int)) : List PyData := ks.map dTup
theorem tupsD_map : ∀ ks : List (List Int), tupsD (dTs ks) = some ks
  | [] => rfl
  | k :: ks => by
    have ih := tupsD_map ks
    simp only [dTs, List.map_cons, tupsD, tupI, intsD_map] at ih ⊢
    rw [ih]
theorem lay_tups : ∀ ks : List (List Int), PyData.canLayAll0 (dTs ks) = true
  | [] => by simp [dTs, PyData.canLayAll0]
  | k :: ks => by
    have h1 := lay_tups ks
    have h2 := lay_ints k
    simp only [dTs, List.map_cons, PyData.canLayAll0, PyData.canLay0, Bool.and_eq_true] at h1 h2 ⊢
    exact ⟨h2, h1⟩
theorem deep_tups : ∀ ks : List (List Int), PyData.depthAll (dTs ks) ≤ 1
  | [] => by simp [dTs, PyData.depthAll]
  | k :: ks => by
    have h1 := deep_tups ks
    have h2 := deep_ints k
    simp only [dTs, List.map_cons, PyData.depthAll, PyData.depth] at h1 h2 ⊢
    simp only [dInts] at h2
    omega
theorem shaped_ts {ks : List (List Int)} : SeqAt.shaped (.tuple (dTs ks)) = true := by
  have := deep_tups ks
  unfold SeqAt.shaped
  rw [Bool.and_eq_true, decide_eq_true_eq, PyData.canLay0, PyData.depth]
  exact ⟨lay_tups ks, by omega⟩
theorem g_notInTs {k : List Int} {ks : List (List Int)} {Q : PyData → Prop} : W (gNotIn (dTup k) (.tuple (dTs ks))) Q ↔ Q (.bool (!memD (dTup k) (dTs ks))) := by
  have h1 : SeqAt.shaped (dTup k) = true := shaped_t (ns := k)
  unfold gNotIn
  rw [items_t]
  simp only [flatD, Bool.false_and, Bool.false_eq_true, if_false, h1, shaped_ts, Bool.and_self, if_true, W_some]
theorem intsD_tup : ∀ {k : List Int} {ks : List (List Int)}, intsD (dTs (k :: ks)) = none := rfl
theorem tupsOk_of {ks : List (List Int)} {d : Nat} (h0 : ks ≠ []) (hl : ks.length < 64) (hd : 1 ≤ d) (h : ∀ k ∈ ks, k.length = d ∧ bdB k = true) : tupsOk ks = true := by
  have e : len1 ks = d := by
    cases ks with
    | nil => exact absurd rfl h0
    | cons k ks => exact (h k (List.mem_cons_self ..)).1
  simp only [tupsOk, Bool.and_eq_true, decide_eq_true_eq, List.all_eq_true]
  exact ⟨hl, by rw [e]; exact hd, fun k hk => ⟨by rw [e]; exact (h k hk).1, (h k hk).2⟩⟩
theorem g_sortT {ks : List (List Int)} (h : ∀ k ∈ ks, k ≠ []) : gSortF [.list (dTs ks)] = some (dTs (srtL ks)) := by
  cases ks with
  | nil => rfl
  | cons k ks =>
    have e : ((k :: ks).all fun k => !k.isEmpty) = true := List.all_eq_true.mpr fun x hx => by
      cases x with
      | nil => exact absurd rfl (h [] hx)
      | cons _ _ => rfl
    simp only [gSortF, intsD_tup, tupsD_map, e, if_true]
theorem g_ssetT {ks : List (List Int)} {d : Nat} (h0 : ks ≠ []) (hl : ks.length < 64) (hd : 1 ≤ d) (h : ∀ k ∈ ks, k.length = d ∧ bdB k = true) : ssetD (.list (dTs ks)) = some (dTs (srtT (ddT ks))) := by
  cases ks with
  | nil => exact absurd rfl h0
  | cons k ks =>
    have := tupsD_map (k :: ks)
    simp only [ssetD, items_l, intsD_tup, ssetT, this, tupsOk_of (List.cons_ne_nil k ks) hl hd h, if_true]
/-! stores, places -/
abbrev dStore (Ts : List (List PyData)) : PyData := .tuple (Ts.map PyData.tuple)
def place2 (Ts : List (List PyData)) (i j : PyData) : Bool := match i with
  | .int n => if 0 ≤ n ∧ n < Ts.length then (match Ts[n.toNat]? with
    | some T => numB j T.length
    | none => false) else false
  | _ => false
def placeB (Ts : List (List PyData)) (v : PyData) : Bool := match v with
  | .tuple [i, j] => place2 Ts i j
  | _ => false
theorem placeB_no {Ts : List (List PyData)} {v : PyData} (h : tupB v 2 = false) : placeB Ts v = false := by
  cases v with
  | tuple xs =>
    match xs, h with
    | [], _ => rfl
    | [_], _ => rfl
    | [_, _], h => exact absurd h (by simp [tupB])
    | _ :: _ :: _ :: _, _ => rfl
  | _ => rfl
theorem place_num {Ts : List (List PyData)} {i j : PyData} (h : numB i Ts.length = false) : place2 Ts i j = false := by
  cases i with
  | int n =>
    have h := of_decide_eq_false h
    simp only [place2, if_neg h]
  | _ => rfl
theorem place_at {Ts : List (List PyData)} {i : PyData} (h : numB i Ts.length = true) : ∃ n T, i = .int n ∧ 0 ≤ n ∧ n < Ts.length ∧ Ts[n.toNat]? = some T ∧ ∀ j, place2 Ts i j = numB j T.length := by
  cases i with
  | int n =>
    have h : 0 ≤ n ∧ n < Ts.length := of_decide_eq_true h
    have hl : n.toNat < Ts.length := by omega
    refine ⟨n, Ts[n.toNat], rfl, h.1, h.2, List.getElem?_eq_getElem hl, fun j => ?_⟩
    simp only [place2, if_pos h, List.getElem?_eq_getElem hl]
  | _ => cases h
theorem g_ixS {Ts : List (List PyData)} {n : Int} {T : List PyData} (h0 : 0 ≤ n) (h1 : n < Ts.length) (hT : Ts[n.toNat]? = some T) {Q : PyData → Prop} (q : Q (.tuple T)) : W (gIx (dStore Ts) (.int n)) Q := by
  refine g_ixT h0 (by rw [List.length_map]; exact h1) fun x hx => ?_
  rw [List.getElem?_map, hT] at hx
  cases hx
  exact q
def SpTupOf (f : Fn) : Prop := ∀ (v : PyData) (m : Int) st, W (f [.d v, .d (.int m)] st) fun r => r = (.bool (tupB v m), st)
theorem tupOf_ok {Φ : Nat → Fn} {k : Nat} : SpTupOf (fnOf 2 2 k Φ sl_is_tuple_of) := fun v m st => by
  refine (w_fnOf rfl).mpr ?_
  unfold sl_is_tuple_of
  walk_at "evb"
  cases v with
  | tuple xs =>
    refine ⟨fun _ => ?_, fun h => nomatch h⟩
    walk_at "evb"
    rfl
  | _ => exact ⟨(fun h => nomatch h), fun _ => rfl⟩
def SpIsPlace (f : Fn) : Prop := ∀ (Ts : List (List PyData)) (v : PyData) st, W (f [.d (dStore Ts), .d v] st) fun r => r = (.bool (placeB Ts v), st)
theorem isPlace_ok {Φ : Nat → Fn} {k : Nat} (h56 : SpTupOf (Φ 56)) (h21 : SpNum (Φ 21)) : SpIsPlace (fnOf 2 2 k Φ sl_is_place) := fun Ts v st => by
  refine (w_fnOf rfl).mpr ?_
  unfold sl_is_place
  walk_at "evb"
  refine W_mono (h56 v 2 st) ?_
  rintro _ rfl
  cases hT : tupB v 2 with
  | false =>
    rw [placeB_no hT]
    exact ⟨_, rfl, (fun h => nomatch h), fun _ => rfl⟩
  | true =>
    obtain ⟨a, b, rfl⟩ := tup2_ex hT
    refine ⟨_, rfl, (fun _ => ?_), fun h => nomatch h⟩
    walk_at "evb"
    refine W_mono (h21 a Ts.length st) ?_
    rintro _ rfl
    cases hN : numB a Ts.length with
    | false =>
      have e : placeB Ts (.tuple [a, b]) = false := place_num hN
      rw [e]
      exact ⟨_, rfl, (fun h => nomatch h), fun _ => rfl⟩
    | true =>
      obtain ⟨n, T, rfl, n0, n1, hT, hp⟩ := place_at hN
      refine ⟨_, rfl, (fun _ => ?_), fun h => nomatch h⟩
      refine g_ixS n0 n1 hT ?_
      walk_at "evb"
      have e : placeB Ts (.tuple [.int n, b]) = numB b T.length := hp b
      rw [e]
      exact h21 b T.length st
theorem whole_num (v : PyData) (m : Nat) : wholeB v 0 ((m : Int) - 1) = numB v m := by
  cases v with
  | int i =>
    simp only [wholeB, numB]
    rw [Bool.eq_iff_iff]
    simp only [decide_eq_true_eq]
    omega
  | _ => rfl
theorem lIsPlace_ok {Φ : Nat → Fn} {k : Nat} (h30 : SpIsTup (Φ 30)) (h9 : SpWholeA (Φ 9)) : SpIsPlace (fnOf 2 2 k Φ sl_law_is_place) := fun Ts v st => by
  refine (w_fnOf rfl).mpr ?_
  unfold sl_law_is_place
  cases hT : tupB v 2 with
  | false =>
    rw [placeB_no hT]
    simp only [evB, evS]
    refine w_seq.mpr (w_ifS.mpr (W_mono (Q := fun p => p = (.bool true, st)) ?_ ?_))
    · walk_at "evb"
      refine W_mono (h30 v 2 st) ?_
      rintro _ rfl
      rw [hT]
      exact ⟨_, rfl, (fun _ => rfl), fun h => nomatch h⟩
    · rintro _ rfl
      exact ⟨true, rfl, (fun _ => w_seq.mpr (w_ret.mpr (w_fz.mpr (w_k.mpr rfl)))), fun h => nomatch h⟩
  | true =>
    obtain ⟨a, b, rfl⟩ := tup2_ex hT
    simp only [evB, evS]
    refine w_seq.mpr (w_ifS.mpr (W_mono (Q := fun p => p = (.bool (!numB a Ts.length), st)) ?_ ?_))
    · walk_at "evb"
      refine W_mono (h30 (.tuple [a, b]) 2 st) ?_
      rintro _ rfl
      rw [hT]
      refine ⟨_, rfl, (fun h => nomatch h), fun _ => ?_⟩
      walk_at "evb"
      refine W_mono (h9 a 0 ((Ts.length : Int) - 1) st) ?_
      rintro _ rfl
      rw [whole_num]
      exact ⟨_, rfl, rfl⟩
    · rintro _ rfl
      cases hN : numB a Ts.length with
      | false =>
        have e : placeB Ts (.tuple [a, b]) = false := place_num hN
        rw [e]
        exact ⟨true, rfl, (fun _ => w_seq.mpr (w_ret.mpr (w_fz.mpr (w_k.mpr rfl)))), fun h => nomatch h⟩
      | true =>
        obtain ⟨n, T, rfl, n0, n1, hT, hp⟩ := place_at hN
        refine ⟨false, rfl, (fun h => nomatch h), (fun _ => ?_)⟩
        walk_at "ev"
        refine g_ixS n0 n1 hT ?_
        walk_at "ev"
        have e : placeB Ts (.tuple [.int n, b]) = numB b T.length := hp b
        rw [e]
        refine W_mono (h9 b 0 ((T.length : Int) - 1) st) ?_
        rintro _ rfl
        rw [whole_num]
/-! strikes -/
def plI (v : PyData) : List Int := match v with
  | .tuple xs => (intsD xs).getD []
  | _ => []
/-- x stands no later than p -/
def leP (x p : PyData) : Bool := !HT.lexLt (plI p) (plI x)
def badP (Ts : List (List PyData)) (p : Option PyData) (x : PyData) : Bool := !placeB Ts x || (match p with
  | some q => leP x q
  | none => false)
def badS (Ts : List (List PyData)) : Option PyData → List PyData → Nat → Option Nat
  | _, [], _ => none
  | p, x :: xs, n => if badP Ts p x = true then some n else badS Ts (some x) xs (n + 1)
def dueS (Ts : List (List PyData)) (v : PyData) : Sum PyData (List PyData) := match v with
  | .tuple xs => match badS Ts none xs 0 with
    | none => .inl v
    | some n => .inr [.int (n : Int)]
  | _ => .inr [.none]
theorem place_ints {Ts : List (List PyData)} {v : PyData} (h : placeB Ts v = true) : ∃ i j : Int, v = .tuple [.int i, .int j] ∧ plI v = [i, j] := by
  cases hT : tupB v 2 with
  | false => rw [placeB_no hT] at h; cases h
  | true =>
    obtain ⟨a, b, rfl⟩ := tup2_ex hT
    have h : place2 Ts a b = true := h
    cases hN : numB a Ts.length with
    | false => rw [place_num hN] at h; cases h
    | true =>
      obtain ⟨n, T, rfl, n0, n1, hT, hp⟩ := place_at hN
      rw [hp b] at h
      cases b with
      | int j => exact ⟨n, j, rfl, rfl⟩
      | _ => cases h
theorem g_leP {Ts : List (List PyData)} {x p : PyData} (hx : placeB Ts x = true) (hp : placeB Ts p = true) {Q : PyData → Prop} : W (gLe x p) Q ↔ Q (.bool (leP x p)) := by
  obtain ⟨i, j, rfl, e1⟩ := place_ints hx
  obtain ⟨i2, j2, rfl, e2⟩ := place_ints hp
  have e : gLe (.tuple [.int i, .int j]) (.tuple [.int i2, .int j2]) = some (.bool (leP (.tuple [.int i, .int j]) (.tuple [.int i2, .int j2]))) := rfl
  rw [e, W_some]
theorem g_geP {Ts : List (List PyData)} {x p : PyData} (hx : placeB Ts x = true) (hp : placeB Ts p = true) {Q : PyData → Prop} : W (gGe p x) Q ↔ Q (.bool (leP x p)) := by
  obtain ⟨i, j, rfl, e1⟩ := place_ints hx
  obtain ⟨i2, j2, rfl, e2⟩ := place_ints hp
  have e : gGe (.tuple [.int i2, .int j2]) (.tuple [.int i, .int j]) = some (.bool (leP (.tuple [.int i, .int j]) (.tuple [.int i2, .int j2]))) := rfl
  rw [e, W_some]
theorem last_get {xs : List PyData} {done rest : List PyData} {q : PyData} (e : xs = done ++ rest) (h : done.getLast? = some q) : ∃ n : Nat, done.length = n + 1 ∧ xs[n]? = some q := by
  obtain ⟨ys, rfl⟩ : ∃ ys, done = ys ++ [q] := List.getLast?_eq_some_iff.mp h
  refine ⟨ys.length, by simp, ?_⟩
  rw [e, List.append_assoc]
  simp
/-- the test of one place, as the program and the law put it -/
theorem bad_test {Ts : List (List PyData)} {Γ : Ev} {st : Pn} {xs done rest : List PyData} {x : PyData} {place le : EvE} (e : xs = done ++ x :: rest) (hall : ∀ q, done.getLast? = some q → placeB Ts q = true)
    (hp : W (place Γ st) fun r => r = (.bool (placeB Ts x), st)) (hi : Γ[2]? = some (some (.d (.int done.length))))
    (hle : placeB Ts x = true → ∀ q n, done.getLast? = some q → placeB Ts q = true → done.length = n + 1 → xs[n]? = some q → W (le Γ st) fun r => r = (.bool (leP x q), st)) :
    W (evOr (evNot place) (evAnd (ev2 gGt (evV 2) (evK (.int 0))) le) Γ st) fun r => r = (.bool (badP Ts done.getLast? x), st) := by
  refine w_or.mpr (w_not.mpr (W_mono hp ?_))
  rintro _ rfl
  cases hP : placeB Ts x with
  | false =>
    refine ⟨_, rfl, _, rfl, (fun _ => ?_), fun h => nomatch h⟩
    simp only [badP, hP]
    rfl
  | true =>
    refine ⟨_, rfl, _, rfl, (fun h => nomatch h), fun _ => ?_⟩
    refine w_and.mpr (w_2.mpr (w_v.mpr ⟨_, hi, w_k.mpr ?_⟩))
    show W (some (PyData.bool (decide ((done.length : Int) > 0)))) _
    rw [W_some]
    cases hL : done.getLast? with
    | none =>
      have : done = [] := List.getLast?_eq_none_iff.mp hL
      subst this
      refine ⟨false, rfl, (fun h => nomatch h), fun _ => ?_⟩
      simp only [badP, hP]
      rfl
    | some q =>
      obtain ⟨n, hn, hx⟩ := last_get e hL
      have hpos : decide ((done.length : Int) > 0) = true := decide_eq_true (by omega)
      rw [hpos]
      refine ⟨true, rfl, (fun _ => ?_), fun h => nomatch h⟩
      refine W_mono (hle hP q n hL (hall q hL) hn hx) ?_
      rintro _ rfl
      simp only [badP, hP]
      rfl
def SpReqS (g : FnX) : Prop := ∀ (Ts : List (List PyData)) (v : PyData) (b : Nat) st, Sz b v → b < 1000 → W (g [.d (dStore Ts), .d v] st) fun r => r = match dueS Ts v with
  | .inl d => .inl (d, st)
  | .inr ds => .inr (ds, st)
theorem getLast_snoc {α : Type} (xs : List α) (x : α) : (xs ++ [x]).getLast? = some x := by simp
theorem reqS_ok {Φ : Nat → Fn} {k : Nat} (h81 : SpIsPlace (Φ 81)) : SpReqS (fnX 2 4 k Φ sl_require_strike) := fun Ts v b st hv hb => by
  refine (w_fnX rfl).mpr ?_
  unfold sl_require_strike
  simp only [evXB, evX]
  refine w_xseq.mpr (w_xif.mpr (W_mono (Q := fun p => p = (.bool (!isTup v), st)) ?_ ?_))
  · walk_at "evb"
  · rintro _ rfl
    cases hT : isTup v with
    | false =>
      have e : dueS Ts v = .inr [.none] := by cases v <;> first | rfl | cases hT
      rw [e]
      refine ⟨true, rfl, fun _ => ?_, fun h => nomatch h⟩
      refine w_xseq.mpr (w_xraise.mpr ?_)
      walk_at "evb"
    | true =>
      obtain ⟨xs, rfl⟩ := isTup_ex hT
      obtain ⟨hl, hsz⟩ := sz_tup hv
      refine ⟨false, rfl, (fun h => nomatch h), fun _ => ?_⟩
      refine w_xof.mpr (w_next.mpr ?_)
      dsimp only
      refine w_xseq.mpr (w_xfor.mpr ?_)
      walk_at "ev"
      refine xloopI (I := fun ds Γ st1 => ∃ done rest l2 l3, ds = zipD done.length rest ∧ xs = done ++ rest ∧ badS Ts none xs 0 = badS Ts done.getLast? rest done.length ∧ (∀ q, done.getLast? = some q → placeB Ts q = true) ∧ st1 = st ∧ Γ = [some (.d (dStore Ts)), some (.d (.tuple xs)), l2, l3]) ?_ ?_ _ _ _ ⟨[], xs, none, none, rfl, rfl, rfl, (fun q h => nomatch h), rfl, rfl⟩
      · rintro d ds Γ st1 ⟨done, rest, l2, l3, e1, ex, hbx, hall, rfl, rfl⟩
        cases rest with
        | nil => cases e1
        | cons x rest =>
          obtain ⟨rfl, rfl⟩ := List.cons.inj e1
          walk_at "ev"
          refine w_xseq.mpr (w_xif.mpr ?_)
          refine W_mono (bad_test (Ts := Ts) ex hall ?_ rfl ?_) ?_
          · walk_at "ev"
            exact h81 Ts x st1
          · intro hx q n hL hq hn hget
            walk_at "ev"
            have e2 : (done.length : Int) - 1 = (n : Int) := by omega
            rw [e2, g_ixN hget, W_some, g_leP hx hq]
          · rintro _ rfl
            cases hR : badP Ts done.getLast? x with
            | false =>
              refine ⟨_, rfl, (fun h => nomatch h), fun _ => ?_⟩
              refine w_xof.mpr (w_next.mpr ?_)
              dsimp only
              refine w_xof.mpr (w_next.mpr ?_)
              refine ⟨done ++ [x], rest, by rw [List.length_append]; rfl, by rw [List.append_assoc]; exact ex, ?_, fun q hq => ?_, rfl, _, _, rfl⟩
              · rw [hbx, getLast_snoc, badS, hR, if_neg Bool.false_ne_true, List.length_append]
                rfl
              · rw [getLast_snoc] at hq
                cases hq
                simp only [badP, Bool.or_eq_false_iff] at hR
                simpa using hR.1
            | true =>
              refine ⟨_, rfl, fun _ => ?_, fun h => nomatch h⟩
              refine w_xseq.mpr (w_xraise.mpr ?_)
              walk_at "ev"
              simp only [dueS, hbx, badS, hR, if_true]
      · rintro Γ st1 ⟨done, rest, l2, l3, e1, ex, hbx, hall, rfl, rfl⟩
        have : rest = [] := by
          cases rest with
          | nil => rfl
          | cons a r => cases e1
        subst this
        dsimp only
        refine w_xseq.mpr (w_xof.mpr ?_)
        walk_at "ev"
        simp only [dueS, hbx, badS]
def dueSL (Ts : List (List PyData)) (v : PyData) : PyData := match dueS Ts v with
  | .inl d => .list [.str (Str.ofString "told"), d]
  | .inr ds => .list [.str (Str.ofString "index"), g1of ds]
def SpDueS (f : Fn) : Prop := ∀ (Ts : List (List PyData)) (v : PyData) (b : Nat) st, Sz b v → b < 1000 → W (f [.d (dStore Ts), .d v] st) fun r => r = (dueSL Ts v, st)
theorem dueS_ok {Φ : Nat → Fn} {k : Nat} (h84 : SpIsPlace (Φ 84)) : SpDueS (fnOf 2 4 k Φ sl_law_due7) := fun Ts v b st hv hb => by
  refine (w_fnOf rfl).mpr ?_
  unfold sl_law_due7
  simp only [evB, evS]
  refine w_seq.mpr (w_ifS.mpr (W_mono (Q := fun p => p = (.bool (!isTup v), st)) ?_ ?_))
  · walk_at "evb"
  · rintro _ rfl
    cases hT : isTup v with
    | false =>
      have e : dueSL Ts v = .list [.str (Str.ofString "index"), .none] := by cases v <;> first | rfl | cases hT
      rw [e]
      refine ⟨true, rfl, fun _ => ?_, fun h => nomatch h⟩
      walk_at "ev"
      decide
    | true =>
      obtain ⟨xs, rfl⟩ := isTup_ex hT
      obtain ⟨hl, hsz⟩ := sz_tup hv
      refine ⟨false, rfl, (fun h => nomatch h), fun _ => ?_⟩
      refine w_next.mpr ?_
      dsimp only
      walk_at "ev"
      refine loopI (I := fun ds Γ st1 => ∃ done rest l2 l3, ds = zipD done.length rest ∧ xs = done ++ rest ∧ badS Ts none xs 0 = badS Ts done.getLast? rest done.length ∧ (∀ q, done.getLast? = some q → placeB Ts q = true) ∧ st1 = st ∧ Γ = [some (.d (dStore Ts)), some (.d (.tuple xs)), l2, l3]) ?_ ?_ _ _ _ ⟨[], xs, none, none, rfl, rfl, rfl, (fun q h => nomatch h), rfl, rfl⟩
      · rintro d ds Γ st1 ⟨done, rest, l2, l3, e1, ex, hbx, hall, rfl, rfl⟩
        cases rest with
        | nil => cases e1
        | cons x rest =>
          obtain ⟨rfl, rfl⟩ := List.cons.inj e1
          walk_at "ev"
          refine W_mono (bad_test (Ts := Ts) ex hall ?_ rfl ?_) ?_
          · walk_at "ev"
            exact h84 Ts x st1
          · intro hx q n hL hq hn hget
            walk_at "ev"
            have e2 : (done.length : Int) - 1 = (n : Int) := by omega
            rw [e2, g_ixN hget, W_some, g_geP hx hq]
          · rintro _ rfl
            cases hR : badP Ts done.getLast? x with
            | false =>
              refine ⟨_, rfl, (fun h => nomatch h), fun _ => ?_⟩
              refine ⟨done ++ [x], rest, by rw [List.length_append]; rfl, by rw [List.append_assoc]; exact ex, ?_, fun q hq => ?_, rfl, _, _, rfl⟩
              · rw [hbx, getLast_snoc, badS, hR, if_neg Bool.false_ne_true, List.length_append]
                rfl
              · rw [getLast_snoc] at hq
                cases hq
                simp only [badP, Bool.or_eq_false_iff] at hR
                simpa using hR.1
            | true =>
              refine ⟨_, rfl, fun _ => ?_, fun h => nomatch h⟩
              refine ⟨by decide, ?_⟩
              simp only [dueSL, dueS, hbx, badS, hR, if_true, g1of]
              rfl
      · rintro Γ st1 ⟨done, rest, l2, l3, e1, ex, hbx, hall, rfl, rfl⟩
        have : rest = [] := by
          cases rest with
          | nil => rfl
          | cons a r => cases e1
        subst this
        dsimp only
        walk_at "ev"
        simp only [dueSL, dueS, hbx, badS]
        decide
end Mn
namespace Mn
open PySem PySem.Spec PyProof.Rows L2
/-! parts of at most five atoms, two ways, by the matrix of what they share -/
def nearP (adj : Nat → Nat → Bool) (parts : List (List Int)) (t : Nat) : List (List Int) := parts.filter fun p => p.any fun i => adj i.toNat t
def stepP (adj : Nat → Nat → Bool) (parts : List (List Int)) (t : Nat) : List (List Int) :=
  (parts.filter fun p => !(nearP adj parts t).contains p) ++ [srtI ((nearP adj parts t).flatten ++ [(t : Int)])]
def joinP (adj : Nat → Nat → Bool) (n : Nat) : List (List Int) := (List.range n).foldl (stepP adj) []
def partsP (adj : Nat → Nat → Bool) (n : Nat) : List (List Int) := srtL (joinP adj n)
def mstep (adj : Nat → Nat → Bool) (one : Nat) (m : List Int) (two : Nat) : List Int :=
  if adj one two then m.set one (if m.getD two 0 < m.getD one 0 then m.getD two 0 else m.getD one 0) else m
def mrow (adj : Nat → Nat → Bool) (n : Nat) (m : List Int) (one : Nat) : List Int := (List.range n).foldl (mstep adj one) m
def mlap (adj : Nat → Nat → Bool) (n : Nat) (m : List Int) (_ : Nat) : List Int := (List.range n).foldl (mrow adj n) m
def marksL (adj : Nat → Nat → Bool) (n : Nat) : List Int := (List.range n).foldl (mlap adj n) ((List.range n).map fun i : Nat => (i : Int))
def partL (marks : List Int) (n : Nat) (k : Int) : List Int := ((List.range n).filter fun t => decide (marks.getD t 0 = k)).map fun i : Nat => (i : Int)
def partsL (adj : Nat → Nat → Bool) (n : Nat) : List (List Int) := (srtU (marksL adj n)).map (partL (marksL adj n) n)
/-- the matrix of rows, each as far as its own place -/
def lookS (M : List (List Bool)) (i j : Nat) : Bool := if j ≤ i then (M.getD i []).getD j false else (M.getD j []).getD i false
def diags (M : List (List Bool)) : List Bool := (List.range M.length).map fun i => lookS M i i
def same (n : Nat) (M : List (List Bool)) : Bool := decide (partsP (lookS M) n = partsL (lookS M) n)
/-- what two atoms share -/
structure Adj (adj : Nat → Nat → Bool) (n : Nat) : Prop where
  sym : ∀ i j, adj i j = adj j i
  dia : ∀ i j, adj i j = true → adj i i = true
  out : ∀ i j, n ≤ i → adj i j = false
def rowsA (adj : Nat → Nat → Bool) (m : Nat) : List (List Bool) := (List.range m).map fun i => (List.range i).map (adj i) ++ [adj i i]
theorem rowsA_succ (adj : Nat → Nat → Bool) (m : Nat) : rowsA adj (m + 1) = rowsA adj m ++ [(List.range m).map (adj m) ++ [adj m m]] := by
  unfold rowsA
  rw [List.range_succ, List.map_append]
  rfl
theorem rowsA_len (adj : Nat → Nat → Bool) (m : Nat) : (rowsA adj m).length = m := by simp [rowsA]
theorem getD_lt {α : Type} {xs : List α} {i : Nat} {d : α} (h : i < xs.length) : xs.getD i d = xs[i] := by
  rw [List.getD_eq_getElem?_getD, List.getElem?_eq_getElem h]; rfl
theorem getD_ge {α : Type} {xs : List α} {i : Nat} {d : α} (h : xs.length ≤ i) : xs.getD i d = d := by
  rw [List.getD_eq_getElem?_getD, List.getElem?_eq_none h]; rfl
theorem rowsA_get {adj : Nat → Nat → Bool} {m i j : Nat} (hi : i < m) (hj : j ≤ i) : ((rowsA adj m).getD i []).getD j false = adj i j := by
  have e0 : (rowsA adj m).getD i [] = (List.range i).map (adj i) ++ [adj i i] := by
    rw [getD_lt (xs := rowsA adj m) (by rw [rowsA_len]; exact hi)]
    simp only [rowsA, List.getElem_map, List.getElem_range]
  rw [e0, getD_lt (xs := (List.range i).map (adj i) ++ [adj i i]) (by simp; omega)]
  by_cases e : j = i
  · subst e
    simp [List.getElem_append]
  · have : j < i := by omega
    rw [List.getElem_append_left (by simpa using this)]
    simp
theorem look_rows {adj : Nat → Nat → Bool} {n : Nat} (A : Adj adj n) : lookS (rowsA adj n) = adj := by
  funext i j
  unfold lookS
  by_cases hji : j ≤ i
  · rw [if_pos hji]
    by_cases hi : i < n
    · exact rowsA_get hi hji
    · rw [getD_ge (xs := rowsA adj n) (by rw [rowsA_len]; omega), A.out i j (by omega)]
      rfl
  · rw [if_neg hji]
    by_cases hj : j < n
    · rw [rowsA_get hj (by omega), A.sym]
    · rw [getD_ge (xs := rowsA adj n) (by rw [rowsA_len]; omega), A.sym, A.out j i (by omega)]
      rfl
def rowsD : List Bool → List (List Bool)
  | [] => [[]]
  | d :: ds => (rowsD ds).map (fun r => false :: r) ++ (if d = true then (rowsD ds).map (fun r => true :: r) else [])
theorem rowsD_mem : ∀ {ds bs : List Bool}, bs.length = ds.length → (∀ i, bs.getD i false = true → ds.getD i false = true) → bs ∈ rowsD ds
  | [], [], _, _ => List.mem_singleton.mpr rfl
  | [], _ :: _, h, _ => by cases h
  | _ :: _, [], h, _ => by cases h
  | d :: ds, b :: bs, hl, hb => by
    have hl2 : bs.length = ds.length := Nat.succ.inj hl
    have hb' : ∀ i, bs.getD i false = true → ds.getD i false = true := fun i => by
      have := hb (i + 1)
      simpa using this
    have ih := rowsD_mem hl2 hb'
    unfold rowsD
    cases b with
    | false => exact List.mem_append_left _ (List.mem_map.mpr ⟨bs, ih, rfl⟩)
    | true =>
      have hd : d = true := by simpa using hb 0
      rw [if_pos hd]
      exact List.mem_append_right _ (List.mem_map.mpr ⟨bs, ih, rfl⟩)
def mats : Nat → List (List (List Bool))
  | 0 => [[]]
  | m + 1 => (mats m).flatMap fun M => (M ++ [List.replicate m false ++ [false]]) :: (rowsD (diags M)).map fun b => M ++ [b ++ [true]]
theorem mats_mem {adj : Nat → Nat → Bool} {n : Nat} (A : Adj adj n) : ∀ m, rowsA adj m ∈ mats m
  | 0 => List.mem_singleton.mpr rfl
  | m + 1 => by
    have ih := mats_mem A m
    unfold mats
    refine List.mem_flatMap.mpr ⟨rowsA adj m, ih, ?_⟩
    rw [rowsA_succ]
    cases hd : adj m m with
    | false =>
      have e2 : (List.range m).map (adj m) = List.replicate m false := by
        refine List.ext_getElem (by simp) fun i h1 h2 => ?_
        simp only [List.getElem_map, List.getElem_range, List.getElem_replicate]
        cases z : adj m i with
        | false => rfl
        | true => rw [A.dia m i z] at hd; cases hd
      rw [e2]
      exact List.mem_cons_self ..
    | true =>
      refine List.mem_cons_of_mem _ (List.mem_map.mpr ⟨(List.range m).map (adj m), rowsD_mem (by simp [diags, rowsA_len]) fun i hi => ?_, rfl⟩)
      by_cases hm : i < m
      · rw [getD_lt (by simpa using hm)] at hi
        simp only [List.getElem_map, List.getElem_range] at hi
        rw [getD_lt (by simpa [diags, rowsA_len] using hm)]
        simp only [diags, List.getElem_map, List.getElem_range]
        unfold lookS
        rw [if_pos (Nat.le_refl i), rowsA_get hm (Nat.le_refl i)]
        rw [A.sym] at hi
        exact A.dia i m hi
      · rw [getD_ge (by simpa using hm)] at hi
        cases hi
theorem chk1 : (mats 1).all (same 1) = true := by decide +kernel
theorem chk2 : (mats 2).all (same 2) = true := by decide +kernel
theorem chk3 : (mats 3).all (same 3) = true := by decide +kernel
theorem chk4 : (mats 4).all (same 4) = true := by decide +kernel
theorem mats5 : (mats 5).length = 1450 := by decide +kernel
def blk (k : Nat) : Bool := (((mats 5).drop (50 * k)).take 50).all (same 5)
theorem blk0 : blk 0 = true := by decide +kernel
theorem blk1 : blk 1 = true := by decide +kernel
theorem blk2 : blk 2 = true := by decide +kernel
theorem blk3 : blk 3 = true := by decide +kernel
theorem blk4 : blk 4 = true := by decide +kernel
theorem blk5 : blk 5 = true := by decide +kernel
theorem blk6 : blk 6 = true := by decide +kernel
theorem blk7 : blk 7 = true := by decide +kernel
theorem blk8 : blk 8 = true := by decide +kernel
theorem blk9 : blk 9 = true := by decide +kernel
theorem blk10 : blk 10 = true := by decide +kernel
theorem blk11 : blk 11 = true := by decide +kernel
theorem blk12 : blk 12 = true := by decide +kernel
theorem blk13 : blk 13 = true := by decide +kernel
theorem blk14 : blk 14 = true := by decide +kernel
theorem blk15 : blk 15 = true := by decide +kernel
theorem blk16 : blk 16 = true := by decide +kernel
theorem blk17 : blk 17 = true := by decide +kernel
theorem blk18 : blk 18 = true := by decide +kernel
theorem blk19 : blk 19 = true := by decide +kernel
theorem blk20 : blk 20 = true := by decide +kernel
theorem blk21 : blk 21 = true := by decide +kernel
theorem blk22 : blk 22 = true := by decide +kernel
theorem blk23 : blk 23 = true := by decide +kernel
theorem blk24 : blk 24 = true := by decide +kernel
theorem blk25 : blk 25 = true := by decide +kernel
theorem blk26 : blk 26 = true := by decide +kernel
theorem blk27 : blk 27 = true := by decide +kernel
theorem blk28 : blk 28 = true := by decide +kernel
theorem blks : ∀ k, k < 29 → blk k = true := by
  intro k hk
  rcases (by omega : k = 0 ∨ k = 1 ∨ k = 2 ∨ k = 3 ∨ k = 4 ∨ k = 5 ∨ k = 6 ∨ k = 7 ∨ k = 8 ∨ k = 9 ∨ k = 10 ∨ k = 11 ∨ k = 12 ∨ k = 13 ∨ k = 14 ∨ k = 15 ∨ k = 16 ∨ k = 17 ∨ k = 18 ∨ k = 19 ∨ k = 20 ∨ k = 21 ∨ k = 22 ∨ k = 23 ∨ k = 24 ∨ k = 25 ∨ k = 26 ∨ k = 27 ∨ k = 28) with rfl | rfl | rfl | rfl | rfl | rfl | rfl | rfl | rfl | rfl | rfl | rfl | rfl | rfl | rfl | rfl | rfl | rfl | rfl | rfl | rfl | rfl | rfl | rfl | rfl | rfl | rfl | rfl | rfl
  · exact blk0
  · exact blk1
  · exact blk2
  · exact blk3
  · exact blk4
  · exact blk5
  · exact blk6
  · exact blk7
  · exact blk8
  · exact blk9
  · exact blk10
  · exact blk11
  · exact blk12
  · exact blk13
  · exact blk14
  · exact blk15
  · exact blk16
  · exact blk17
  · exact blk18
  · exact blk19
  · exact blk20
  · exact blk21
  · exact blk22
  · exact blk23
  · exact blk24
  · exact blk25
  · exact blk26
  · exact blk27
  · exact blk28
theorem chk5 : (mats 5).all (same 5) = true := by
  refine List.all_eq_true.mpr fun M hM => ?_
  obtain ⟨i, hi, e⟩ := List.getElem_of_mem hM
  rw [mats5] at hi
  have h := blks (i / 50) (by omega)
  refine List.all_eq_true.mp h M ?_
  refine List.mem_of_getElem? (i := i % 50) ?_
  rw [List.getElem?_take, if_pos (by omega), List.getElem?_drop, show 50 * (i / 50) + i % 50 = i by omega, ← e]
  exact List.getElem?_eq_getElem _
theorem parts_same {adj : Nat → Nat → Bool} {n : Nat} (A : Adj adj n) (h1 : 1 ≤ n) (h5 : n ≤ 5) : partsP adj n = partsL adj n := by
  have go : (mats n).all (same n) = true := by
    rcases (by omega : n = 1 ∨ n = 2 ∨ n = 3 ∨ n = 4 ∨ n = 5) with rfl | rfl | rfl | rfl | rfl
    · exact chk1
    · exact chk2
    · exact chk3
    · exact chk4
    · exact chk5
  have := List.all_eq_true.mp go _ (mats_mem A n)
  have := of_decide_eq_true this
  rw [look_rows A] at this
  exact this
end Mn
namespace Mn
open PySem PySem.Spec PyProof.Rows L2
def sl_open_of : SLs :=
  (SLs.cons (SL.asg (Tg.nm 2) (TL.fz [] (IL.call 39 (ILG.d (IL.v 0) (ILG.d (IL.v 1) (ILG.nil)))))) (SLs.cons (SL.ret (TL.fz [] (IL.cb (B1.tuple) (ILs.cons (IL.fr (ILF.lc (ILI.seq (IL.call 27 (ILG.d (IL.v 0) (ILG.nil)))) (Tg.nm 3) (ILO.some (IL.op (O2.notIn) (IL.v 3) (IL.v 2))) (IL.v 3) [3])) (ILs.nil))))) (SLs.nil)))
def sl_parts_of : SLs :=
  (SLs.cons (SL.asg (Tg.nm 2) (TL.fz [] (IL.call 40 (ILG.d (IL.v 0) (ILG.d (IL.v 1) (ILG.nil)))))) (SLs.cons (SL.asg (Tg.nm 3) (TL.fz [] (IL.fr (ILF.lst (ILs.nil))))) (SLs.cons (SL.for_ [] (ILI.en (IL.ix (IL.v 0) (IL.k (PyData.int (1))))) (Tg.tup [Tg.nm 4, Tg.nm 5]) (SLs.cons (SL.asg (Tg.nm 6) (TL.fz [] (IL.fr (ILF.lc (ILI.seq (IL.v 5)) (Tg.nm 9) (ILO.some (IL.op (O2.in_) (IL.v 9) (IL.v 2))) (IL.v 9) [9])))) (SLs.cons (SL.asg (Tg.nm 7) (TL.fz [] (IL.fr (ILF.lc (ILI.seq (IL.v 3)) (Tg.nm 10) (ILO.some (IL.call 43 (ILG.d (IL.v 0) (ILG.d (IL.v 10) (ILG.d (IL.v 6) (ILG.nil)))))) (IL.v 10) [10])))) (SLs.cons (SL.lcD 8 [] (ILF.lc (ILI.seq (IL.v 3)) (Tg.nm 10) (ILO.some (IL.op (O2.notIn) (IL.v 10) (IL.v 7))) (IL.v 10) [10])) (SLs.cons (SL.asg (Tg.nm 3) (TL.fz [] (IL.op (O2.add) (IL.v 8) (IL.fr (ILF.lst (ILs.cons (IL.call 42 (ILG.d (IL.v 7) (ILG.d (IL.v 4) (ILG.nil)))) (ILs.nil))))))) (SLs.nil)))))) (SLs.cons (SL.ret (TL.fz [] (IL.cb (B1.tuple) (ILs.cons (IL.fr (ILF.cf (F1.sorted) (ILs.cons (IL.v 3) (ILs.nil)))) (ILs.nil))))) (SLs.nil)))))
def sl_joined_part : SLs :=
  (SLs.cons (SL.ret (TL.fz [] (IL.cb (B1.tuple) (ILs.cons (IL.fr (ILF.cf (F1.sorted) (ILs.cons (IL.op (O2.add) (IL.fr (ILF.lc2 (ILI.seq (IL.v 0)) (Tg.nm 2) (ILO.none) (ILI.seq (IL.v 2)) (Tg.nm 3) (ILO.none) (IL.v 3) [2, 3] [3])) (IL.fr (ILF.lst (ILs.cons (IL.v 1) (ILs.nil))))) (ILs.nil)))) (ILs.nil))))) (SLs.nil))
def sl_touches : SLs :=
  (SLs.cons (SL.ret (TL.fz [] (IL.cb (B1.any) (ILs.cons (IL.fr (ILF.lc2 (ILI.seq (IL.v 1)) (Tg.nm 3) (ILO.none) (ILI.seq (IL.v 2)) (Tg.nm 4) (ILO.none) (IL.op (O2.in_) (IL.v 4) (IL.ix (IL.ix (IL.v 0) (IL.k (PyData.int (1)))) (IL.v 3))) [3, 4] [4])) (ILs.nil))))) (SLs.nil))
def sl_settled_in : SLs :=
  (SLs.cons (SL.ret (TL.fz [] (IL.cb (B1.tuple) (ILs.cons (IL.fr (ILF.lc (ILI.seq (IL.call 39 (ILG.d (IL.v 0) (ILG.d (IL.v 1) (ILG.nil))))) (Tg.nm 3) (ILO.some (IL.call 43 (ILG.d (IL.v 0) (ILG.d (IL.v 2) (ILG.d (IL.tup (ILs.cons (IL.v 3) (ILs.nil))) (ILG.nil)))))) (IL.v 3) [3])) (ILs.nil))))) (SLs.nil))
def sl_settled_of : SLs :=
  (SLs.cons (SL.ret (TL.fz [] (IL.call 3 (ILG.d (IL.v 0) (ILG.d (IL.v 1) (ILG.d (IL.ix (IL.v 0) (IL.k (PyData.int (0)))) (ILG.nil))))))) (SLs.nil))
def sl_does_cover : SLs :=
  (SLs.cons (SL.ret (TL.fz [] (IL.call 0 (ILG.d (IL.call 3 (ILG.d (IL.v 0) (ILG.d (IL.v 1) (ILG.d (IL.ix (IL.ix (IL.v 0) (IL.k (PyData.int (1)))) (IL.v 2)) (ILG.nil))))) (ILG.d (IL.call 44 (ILG.d (IL.v 0) (ILG.d (IL.v 1) (ILG.d (IL.v 3) (ILG.nil))))) (ILG.nil)))))) (SLs.nil))
def sl_is_headed : SLs :=
  (SLs.cons (SL.ret (TL.fz [] (IL.cb (B1.all) (ILs.cons (IL.fr (ILF.lc (ILI.seq (IL.call 41 (ILG.d (IL.v 0) (ILG.d (IL.v 1) (ILG.nil))))) (Tg.nm 2) (ILO.none) (IL.call 47 (ILG.d (IL.v 0) (ILG.d (IL.v 1) (ILG.d (IL.v 2) (ILG.nil))))) [2])) (ILs.nil))))) (SLs.nil))
def sl_is_covered : SLs :=
  (SLs.cons (SL.ret (TL.fz [] (IL.cb (B1.any) (ILs.cons (IL.fr (ILF.lc (ILI.r1 (IL.cb (B1.len) (ILs.cons (IL.ix (IL.v 0) (IL.k (PyData.int (1)))) (ILs.nil)))) (Tg.nm 3) (ILO.none) (IL.call 45 (ILG.d (IL.v 0) (ILG.d (IL.v 1) (ILG.d (IL.v 3) (ILG.d (IL.v 2) (ILG.nil)))))) [3])) (ILs.nil))))) (SLs.nil))
def sl_law_known_query : SLs :=
  (SLs.cons (SL.asg (Tg.nm 1) (TL.fz [] (IL.fr (ILF.lst (ILs.cons (IL.tup (ILs.cons (IL.tup (ILs.cons (IL.k (PyData.int (0))) (ILs.cons (IL.k (PyData.int (1))) (ILs.nil)))) (ILs.cons (IL.tup (ILs.cons (IL.tup (ILs.cons (IL.k (PyData.int (0))) (ILs.cons (IL.k (PyData.int (2))) (ILs.nil)))) (ILs.cons (IL.tup (ILs.cons (IL.k (PyData.int (2))) (ILs.cons (IL.k (PyData.int (1))) (ILs.nil)))) (ILs.nil)))) (ILs.nil)))) (ILs.cons (IL.tup (ILs.cons (IL.tup (ILs.cons (IL.k (PyData.int (0))) (ILs.nil))) (ILs.cons (IL.tup (ILs.cons (IL.tup (ILs.cons (IL.k (PyData.int (0))) (ILs.cons (IL.k (PyData.int (2))) (ILs.nil)))) (ILs.cons (IL.tup (ILs.cons (IL.k (PyData.int (2))) (ILs.cons (IL.k (PyData.int (1))) (ILs.nil)))) (ILs.nil)))) (ILs.nil)))) (ILs.cons (IL.tup (ILs.cons (IL.tup (ILs.cons (IL.k (PyData.int (0))) (ILs.cons (IL.k (PyData.int (1))) (ILs.nil)))) (ILs.cons (IL.tup (ILs.cons (IL.tup (ILs.cons (IL.k (PyData.int (0))) (ILs.cons (IL.k (PyData.int (2))) (ILs.nil)))) (ILs.cons (IL.tup (ILs.cons (IL.k (PyData.int (2))) (ILs.cons (IL.k (PyData.int (1))) (ILs.nil)))) (ILs.cons (IL.tup (ILs.cons (IL.k (PyData.int (0))) (ILs.cons (IL.k (PyData.int (1))) (ILs.nil)))) (ILs.nil))))) (ILs.nil)))) (ILs.nil)))))))) (SLs.cons (SL.asg (Tg.nm 1) (TL.fz [] (IL.op (O2.add) (IL.v 1) (IL.fr (ILF.lst (ILs.cons (IL.tup (ILs.cons (IL.tup (ILs.cons (IL.k (PyData.int (0))) (ILs.cons (IL.k (PyData.int (1))) (ILs.cons (IL.k (PyData.int (2))) (ILs.nil))))) (ILs.cons (IL.tup (ILs.cons (IL.tup (ILs.cons (IL.k (PyData.int (0))) (ILs.cons (IL.k (PyData.int (3))) (ILs.nil)))) (ILs.cons (IL.tup (ILs.cons (IL.k (PyData.int (1))) (ILs.cons (IL.k (PyData.int (3))) (ILs.nil)))) (ILs.cons (IL.tup (ILs.cons (IL.k (PyData.int (2))) (ILs.cons (IL.k (PyData.int (3))) (ILs.nil)))) (ILs.nil))))) (ILs.nil)))) (ILs.cons (IL.tup (ILs.cons (IL.tup (ILs.cons (IL.k (PyData.int (0))) (ILs.cons (IL.k (PyData.int (1))) (ILs.nil)))) (ILs.cons (IL.tup (ILs.cons (IL.tup (ILs.cons (IL.k (PyData.int (0))) (ILs.cons (IL.k (PyData.int (2))) (ILs.nil)))) (ILs.cons (IL.tup (ILs.cons (IL.k (PyData.int (2))) (ILs.cons (IL.k (PyData.int (3))) (ILs.nil)))) (ILs.cons (IL.tup (ILs.cons (IL.k (PyData.int (3))) (ILs.cons (IL.k (PyData.int (1))) (ILs.nil)))) (ILs.nil))))) (ILs.nil)))) (ILs.cons (IL.tup (ILs.cons (IL.tup (ILs.cons (IL.k (PyData.int (0))) (ILs.cons (IL.k (PyData.int (1))) (ILs.nil)))) (ILs.cons (IL.tup (ILs.cons (IL.tup (ILs.cons (IL.k (PyData.int (0))) (ILs.nil))) (ILs.cons (IL.tup (ILs.cons (IL.k (PyData.int (1))) (ILs.nil))) (ILs.nil)))) (ILs.nil)))) (ILs.nil))))))))) (SLs.cons (SL.asg (Tg.nm 1) (TL.fz [] (IL.op (O2.add) (IL.v 1) (IL.fr (ILF.lst (ILs.cons (IL.tup (ILs.cons (IL.tup (ILs.cons (IL.k (PyData.int (0))) (ILs.cons (IL.k (PyData.int (1))) (ILs.nil)))) (ILs.cons (IL.tup (ILs.cons (IL.tup (ILs.cons (IL.k (PyData.int (0))) (ILs.cons (IL.k (PyData.int (2))) (ILs.nil)))) (ILs.cons (IL.tup (ILs.cons (IL.k (PyData.int (2))) (ILs.cons (IL.k (PyData.int (1))) (ILs.nil)))) (ILs.cons (IL.tup (ILs.cons (IL.k (PyData.int (1))) (ILs.cons (IL.k (PyData.int (3))) (ILs.nil)))) (ILs.cons (IL.tup (ILs.cons (IL.k (PyData.int (3))) (ILs.cons (IL.k (PyData.int (0))) (ILs.nil)))) (ILs.nil)))))) (ILs.nil)))) (ILs.cons (IL.tup (ILs.cons (IL.tup (ILs.cons (IL.k (PyData.int (0))) (ILs.cons (IL.k (PyData.int (2))) (ILs.nil)))) (ILs.cons (IL.tup (ILs.cons (IL.tup (ILs.cons (IL.k (PyData.int (0))) (ILs.cons (IL.k (PyData.int (1))) (ILs.nil)))) (ILs.cons (IL.tup (ILs.cons (IL.k (PyData.int (1))) (ILs.cons (IL.k (PyData.int (2))) (ILs.nil)))) (ILs.cons (IL.tup (ILs.cons (IL.k (PyData.int (1))) (ILs.nil))) (ILs.nil))))) (ILs.nil)))) (ILs.cons (IL.tup (ILs.cons (IL.tup (ILs.nil)) (ILs.cons (IL.tup (ILs.cons (IL.tup (ILs.cons (IL.k (PyData.int (0))) (ILs.nil))) (ILs.cons (IL.tup (ILs.cons (IL.k (PyData.int (0))) (ILs.cons (IL.k (PyData.int (1))) (ILs.nil)))) (ILs.nil)))) (ILs.nil)))) (ILs.nil))))))))) (SLs.cons (SL.asg (Tg.tup [Tg.nm 2, Tg.nm 3]) (TL.fz [] (IL.call 8 (ILG.p 0 (ILG.d (IL.v 1) (ILG.nil)))))) (SLs.cons (SL.par 4 5 [] (CL.ow (ILF.cf (F1.list) (ILs.cons (IL.v 3) (ILs.nil)))) (CL.ow (ILF.lst (ILs.nil)))) (SLs.cons (SL.while_ (IL.op (O2.ne) (IL.v 4) (IL.fr (ILF.lst (ILs.nil)))) (SLs.cons (SL.app 5 (TL.pop 4 (TL.sc (IL.call 7 (ILG.p 0 (ILG.d (IL.cb (B1.len) (ILs.cons (IL.v 4) (ILs.nil))) (ILG.nil))))))) (SLs.nil))) (SLs.cons (SL.ret (TL.fz [5] (IL.tup (ILs.cons (IL.v 2) (ILs.cons (IL.cb (B1.tuple) (ILs.cons (IL.v 5) (ILs.nil))) (ILs.nil)))))) (SLs.nil))))))))
def sl_law_settled : SLs :=
  (SLs.cons (SL.ret (TL.fz [] (IL.call 16 (ILG.d (IL.v 1) (ILG.d (IL.ix (IL.v 0) (IL.k (PyData.int (0)))) (ILG.nil)))))) (SLs.nil))
def sl_law_parts : SLs :=
  (SLs.cons (SL.par 2 3 [] (CL.da (IL.call 49 (ILG.d (IL.v 0) (ILG.d (IL.v 1) (ILG.nil))))) (CL.ow (ILF.lrg (IL.cb (B1.len) (ILs.cons (IL.ix (IL.v 0) (IL.k (PyData.int (1)))) (ILs.nil)))))) (SLs.cons (SL.forR (ILI.r1 (IL.cb (B1.len) (ILs.cons (IL.ix (IL.v 0) (IL.k (PyData.int (1)))) (ILs.nil)))) (Tg.nm 4) (SLs.cons (SL.for_ [] (ILI.en (IL.ix (IL.v 0) (IL.k (PyData.int (1))))) (Tg.tup [Tg.nm 5, Tg.nm 6]) (SLs.cons (SL.for_ [] (ILI.en (IL.ix (IL.v 0) (IL.k (PyData.int (1))))) (Tg.tup [Tg.nm 7, Tg.nm 8]) (SLs.cons (SL.iff (IL.op (O2.ne) (IL.fr (ILF.lc (ILI.seq (IL.v 6)) (Tg.nm 11) (ILO.some (IL.and (IL.op (O2.in_) (IL.v 11) (IL.v 8)) (IL.op (O2.notIn) (IL.v 11) (IL.v 2)))) (IL.v 11) [11])) (IL.fr (ILF.lst (ILs.nil)))) (SLs.cons (SL.oset 3 (TL.fz [] (IL.v 5)) (TL.sc (IL.cb (B1.min) (ILs.cons (IL.ix (IL.v 3) (IL.v 5)) (ILs.cons (IL.ix (IL.v 3) (IL.v 7)) (ILs.nil)))))) (SLs.nil)) (SLs.nil)) (SLs.nil))) (SLs.nil))) (SLs.nil))) (SLs.cons (SL.own 9 (TFL.fz [] (ILF.lst (ILs.nil)))) (SLs.cons (SL.for_ [3] (ILI.seq (IL.fr (ILF.sset (IL.v 3)))) (Tg.nm 10) (SLs.cons (SL.app 9 (TL.fz [3] (IL.cb (B1.tuple) (ILs.cons (IL.fr (ILF.lc (ILI.r1 (IL.cb (B1.len) (ILs.cons (IL.v 3) (ILs.nil)))) (Tg.nm 12) (ILO.some (IL.op (O2.eq) (IL.ix (IL.v 3) (IL.v 12)) (IL.v 10))) (IL.v 12) [12])) (ILs.nil))))) (SLs.nil))) (SLs.cons (SL.ret (TL.fz [9] (IL.cb (B1.tuple) (ILs.cons (IL.v 9) (ILs.nil))))) (SLs.nil))))))
def sl_law_wanted : SLs :=
  (SLs.cons (SL.own 3 (TFL.fz [] (ILF.lst (ILs.nil)))) (SLs.cons (SL.for_ [] (ILI.seq (IL.v 2)) (Tg.nm 4) (SLs.cons (SL.ext 3 (TL.fz [] (IL.fr (ILF.cf (F1.list) (ILs.cons (IL.ix (IL.ix (IL.v 0) (IL.k (PyData.int (1)))) (IL.v 4)) (ILs.nil)))))) (SLs.nil))) (SLs.cons (SL.ret (TL.fz [3] (IL.fr (ILF.lc (ILI.seq (IL.call 49 (ILG.d (IL.v 0) (ILG.d (IL.v 1) (ILG.nil))))) (Tg.nm 5) (ILO.some (IL.op (O2.in_) (IL.v 5) (IL.v 3))) (IL.v 5) [5])))) (SLs.nil))))
def sl_law_covers : SLs :=
  (SLs.cons (SL.asg (Tg.nm 4) (TL.fz [] (IL.call 16 (ILG.d (IL.v 1) (ILG.d (IL.ix (IL.ix (IL.v 0) (IL.k (PyData.int (1)))) (IL.v 2)) (ILG.nil)))))) (SLs.cons (SL.ret (TL.fz [] (IL.op (O2.eq) (IL.fr (ILF.lc (ILI.seq (IL.call 51 (ILG.d (IL.v 0) (ILG.d (IL.v 1) (ILG.d (IL.v 3) (ILG.nil)))))) (Tg.nm 5) (ILO.some (IL.op (O2.notIn) (IL.v 5) (IL.v 4))) (IL.v 5) [5])) (IL.fr (ILF.lst (ILs.nil)))))) (SLs.nil)))
def sl_law_coverers : SLs :=
  (SLs.cons (SL.ret (TL.fz [] (IL.fr (ILF.lc (ILI.r1 (IL.cb (B1.len) (ILs.cons (IL.ix (IL.v 0) (IL.k (PyData.int (1)))) (ILs.nil)))) (Tg.nm 3) (ILO.some (IL.call 52 (ILG.d (IL.v 0) (ILG.d (IL.v 1) (ILG.d (IL.v 3) (ILG.d (IL.v 2) (ILG.nil))))))) (IL.v 3) [3])))) (SLs.nil))
def sl_law_is_headed : SLs :=
  (SLs.cons (SL.ret (TL.fz [] (IL.op (O2.eq) (IL.fr (ILF.lc (ILI.seq (IL.call 50 (ILG.d (IL.v 0) (ILG.d (IL.v 1) (ILG.nil))))) (Tg.nm 2) (ILO.some (IL.op (O2.eq) (IL.call 53 (ILG.d (IL.v 0) (ILG.d (IL.v 1) (ILG.d (IL.v 2) (ILG.nil))))) (IL.fr (ILF.lst (ILs.nil))))) (IL.v 2) [2])) (IL.fr (ILF.lst (ILs.nil)))))) (SLs.nil))
def sl_law_k04 : SLs :=
  (SLs.cons (SL.forR (ILI.r1 (IL.cb (B1.max) (ILs.cons (IL.k (PyData.int (3))) (ILs.cons (IL.cb (B1.min) (ILs.cons (IL.k (PyData.int (8))) (ILs.cons (IL.lenS 0) (ILs.nil)))) (ILs.nil))))) (Tg.nm 2) (SLs.cons (SL.asg (Tg.nm 3) (TL.fz [] (IL.ite (IL.op (O2.gt) (IL.call 7 (ILG.p 1 (ILG.d (IL.k (PyData.int (3))) (ILG.nil)))) (IL.k (PyData.int (0)))) (IL.call 13 (ILG.p 1 (ILG.d (IL.k (PyData.int (5))) (ILG.d (IL.k (PyData.int (7))) (ILG.d (IL.k (PyData.int (4))) (ILG.nil)))))) (IL.call 48 (ILG.p 1 (ILG.nil)))))) (SLs.cons (SL.asg (Tg.nm 4) (TL.fz [] (IL.call 15 (ILG.p 1 (ILG.d (IL.v 3) (ILG.nil)))))) (SLs.cons (SL.asg (Tg.tup [Tg.nm 5, Tg.nm 6]) (TL.fz [] (IL.tup (ILs.cons (IL.cb (B1.repr) (ILs.cons (IL.tup (ILs.cons (IL.v 3) (ILs.cons (IL.v 4) (ILs.nil)))) (ILs.nil))) (ILs.cons (IL.call 49 (ILG.d (IL.v 3) (ILG.d (IL.v 4) (ILG.nil)))) (ILs.nil)))))) (SLs.cons (SL.lcD 7 [] (ILF.lc (ILI.seq (IL.call 10 (ILG.d (IL.v 3) (ILG.nil)))) (Tg.nm 11) (ILO.some (IL.op (O2.notIn) (IL.v 11) (IL.v 6))) (IL.v 11) [11])) (SLs.cons (SL.iff (IL.op (O2.ne) (IL.cb (B1.repr) (ILs.cons (IL.tup (ILs.cons (IL.call 39 (ILG.d (IL.v 3) (ILG.d (IL.v 4) (ILG.nil)))) (ILs.cons (IL.call 40 (ILG.d (IL.v 3) (ILG.d (IL.v 4) (ILG.nil)))) (ILs.nil)))) (ILs.nil))) (IL.cb (B1.repr) (ILs.cons (IL.tup (ILs.cons (IL.cb (B1.tuple) (ILs.cons (IL.v 6) (ILs.nil))) (ILs.cons (IL.cb (B1.tuple) (ILs.cons (IL.v 7) (ILs.nil))) (ILs.nil)))) (ILs.nil)))) (SLs.cons (SL.ret (TL.fz [] (IL.k (PyData.bool false)))) (SLs.nil)) (SLs.nil)) (SLs.cons (SL.asg (Tg.nm 8) (TL.fz [] (IL.call 50 (ILG.d (IL.v 3) (ILG.d (IL.v 4) (ILG.nil)))))) (SLs.cons (SL.iff (IL.op (O2.ne) (IL.cb (B1.repr) (ILs.cons (IL.call 41 (ILG.d (IL.v 3) (ILG.d (IL.v 4) (ILG.nil)))) (ILs.nil))) (IL.cb (B1.repr) (ILs.cons (IL.v 8) (ILs.nil)))) (SLs.cons (SL.ret (TL.fz [] (IL.k (PyData.bool false)))) (SLs.nil)) (SLs.nil)) (SLs.cons (SL.iff (IL.op (O2.ne) (IL.cb (B1.repr) (ILs.cons (IL.call 46 (ILG.d (IL.v 3) (ILG.d (IL.v 4) (ILG.nil)))) (ILs.nil))) (IL.cb (B1.repr) (ILs.cons (IL.call 54 (ILG.d (IL.v 3) (ILG.d (IL.v 4) (ILG.nil)))) (ILs.nil)))) (SLs.cons (SL.ret (TL.fz [] (IL.k (PyData.bool false)))) (SLs.nil)) (SLs.nil)) (SLs.cons (SL.for_ [] (ILI.seq (IL.v 8)) (Tg.nm 9) (SLs.cons (SL.forR (ILI.r1 (IL.cb (B1.len) (ILs.cons (IL.ix (IL.v 3) (IL.k (PyData.int (1)))) (ILs.nil)))) (Tg.nm 10) (SLs.cons (SL.iff (IL.op (O2.ne) (IL.cb (B1.repr) (ILs.cons (IL.call 45 (ILG.d (IL.v 3) (ILG.d (IL.v 4) (ILG.d (IL.v 10) (ILG.d (IL.v 9) (ILG.nil)))))) (ILs.nil))) (IL.cb (B1.repr) (ILs.cons (IL.call 52 (ILG.d (IL.v 3) (ILG.d (IL.v 4) (ILG.d (IL.v 10) (ILG.d (IL.v 9) (ILG.nil)))))) (ILs.nil)))) (SLs.cons (SL.ret (TL.fz [] (IL.k (PyData.bool false)))) (SLs.nil)) (SLs.nil)) (SLs.nil))) (SLs.nil))) (SLs.cons (SL.iff (IL.op (O2.ne) (IL.cb (B1.repr) (ILs.cons (IL.tup (ILs.cons (IL.v 3) (ILs.cons (IL.v 4) (ILs.nil)))) (ILs.nil))) (IL.v 5)) (SLs.cons (SL.ret (TL.fz [] (IL.k (PyData.bool false)))) (SLs.nil)) (SLs.nil)) (SLs.nil)))))))))))) (SLs.cons (SL.ret (TL.fz [] (IL.k (PyData.bool true)))) (SLs.nil)))
local macro_rules | `(tactic| walk_at "ev") => `(tactic| simp only [isa_T, isa_I, isa_B, ty_T, ty_I, g_eqN, g_eqI, g_neI, w_sset2, w_lc2, w_zip, w_d0, evB, evS, evTL, evTFL, evCL, evE, evEs, evF, evI, evC, evO, evG, O2.g, B1.g, F1.g,
  w_k, w_v, w_2, w_tup, w_fr, w_lst, w_nil, w_cons, w_not, w_neg, w_call, w_callF, w_isa, w_tyis, w_o0, w_o1, w_sl, w_sset, w_lset, w_lrg, w_pix, w_lenS, w_fn, w_gn, w_gd, w_gp, w_it, w_enum, w_rng1, w_lc, w_sc, w_fz, w_pop, w_scF, w_fzF,
  w_next, w_seq, w_ret, w_drop, w_asg, w_ifS, w_own, w_lcD, w_cmO, w_cmD, w_par, w_app, w_ext, w_pset, w_for, w_forR, W_some, W_none, W_ite,
  List.getElem?_cons_zero, List.getElem?_cons_succ, List.getElem?_nil, frzBy, frz1, List.contains_nil, List.contains_cons, as_nm, as_tup, as_nil, w_asTs, penD, penPut, List.set_cons_zero, List.set_cons_succ, wipeE,
  items_l, items_t, g_add, g_sub, g_mod, g_fdiv, g_mul, g_pow, g_lt, g_le, g_gt, g_ge, g_lenL, g_lenT, g_int1, g_min, g_max, g_tupL, g_tupT, g_listL, g_listT, isa_ii, isa_ib, isa_tt, g_ix20, g_ix21, g_ix30, g_ix31, g_ix32, g_sortL, w_ssetL, w_ssetT, w_lsetT, Bool.not_true, Bool.not_false, List.length_map, Option.bind_some, scalD, Bool.and_true, Bool.true_and, List.all_cons, List.all_nil,
  Option.some.injEq, Sl.d.injEq, Sl.own.injEq, Sl.scr.injEq, PyData.int.injEq, PyData.bool.injEq, PyData.list.injEq, PyData.tuple.injEq, exists_eq_left', exists_eq_left, exists_eq', exists_eq, exists_and_left, true_and, and_true, if_true, if_false, ite_true, ite_false,
  allS, Nat.reduceAdd, Nat.reduceBEq, Bool.or_false, Bool.or_true, Bool.false_or, Bool.true_or, Bool.false_eq_true, reduceIte, reduceCtorEq, List.length_cons, List.length_nil, Int.reduceEq, decide_eq_true_eq, decide_eq_false_iff_not, one_ne_zero, not_false_eq_true,
  startE, List.map_cons, List.map_nil, slOf, List.replicate_zero, List.replicate_succ, List.cons_append, List.nil_append, Nat.reduceSub, forall_const, false_implies, implies_true])
local macro_rules | `(tactic| walk_at "evb") => `(tactic| simp only [isa_T, isa_I, isa_B, ty_T, ty_I, g_eqN, g_eqI, g_neI, w_sset2, w_lc2, w_zip, w_d0, evB, evS, evTL, evTFL, evCL, evE, evEs, evF, evI, evC, evO, evG, O2.g, B1.g, F1.g,
  w_k, w_v, w_2, w_tup, w_fr, w_lst, w_nil, w_cons, w_and, w_or, w_not, w_neg, w_if, w_ch, w_call, w_callF, w_isa, w_tyis, w_o0, w_o1, w_sl, w_sset, w_lset, w_lrg, w_pix, w_lenS, w_fn, w_gn, w_gd, w_gp, w_it, w_enum, w_rng1, w_lc, w_sc, w_fz, w_pop, w_scF, w_fzF,
  w_next, w_seq, w_ret, w_drop, w_asg, w_ifS, w_own, w_lcD, w_cmO, w_cmD, w_par, w_app, w_ext, w_pset, w_for, w_forR, W_some, W_none, W_ite,
  List.getElem?_cons_zero, List.getElem?_cons_succ, List.getElem?_nil, frzBy, frz1, List.contains_nil, List.contains_cons, as_nm, as_tup, as_nil, w_asTs, penD, penPut, List.set_cons_zero, List.set_cons_succ, wipeE,
  items_l, items_t, g_add, g_sub, g_mod, g_fdiv, g_mul, g_pow, g_lt, g_le, g_gt, g_ge, g_lenL, g_lenT, g_int1, g_min, g_max, g_tupL, g_tupT, g_listL, g_listT, isa_ii, isa_ib, isa_tt, g_ix20, g_ix21, g_ix30, g_ix31, g_ix32, g_sortL, w_ssetL, w_ssetT, w_lsetT, Bool.not_true, Bool.not_false, List.length_map, Option.bind_some, scalD, Bool.and_true, Bool.true_and, List.all_cons, List.all_nil,
  Option.some.injEq, Sl.d.injEq, Sl.own.injEq, Sl.scr.injEq, PyData.int.injEq, PyData.bool.injEq, PyData.list.injEq, PyData.tuple.injEq, exists_eq_left', exists_eq_left, exists_eq', exists_eq, exists_and_left, true_and, and_true, if_true, if_false, ite_true, ite_false,
  allS, Nat.reduceAdd, Nat.reduceBEq, Bool.or_false, Bool.or_true, Bool.false_or, Bool.true_or, Bool.false_eq_true, reduceIte, reduceCtorEq, List.length_cons, List.length_nil, Int.reduceEq, decide_eq_true_eq, decide_eq_false_iff_not, one_ne_zero, not_false_eq_true,
  startE, List.map_cons, List.map_nil, slOf, List.replicate_zero, List.replicate_succ, List.cons_append, List.nil_append, Nat.reduceSub, forall_const, false_implies, implies_true])
/-! a query with its rules -/
structure Q4 (hd : List Int) (as : List (List Int)) (rs : List Rl) : Prop where
  q : QOk 5 4 hd as
  nr : rs.length ≤ 6
  ok : ∀ r ∈ rs, ROk as r
theorem Q4.sm {hd : List Int} {as : List (List Int)} {rs : List Rl} (h : Q4 hd as rs) : Sm as.flatten := fun x hx => by
  obtain ⟨a, ha, hx⟩ := List.mem_flatten.mp hx
  exact (h.q.at_ a ha).sm x hx
theorem Q4.hd7 {hd : List Int} {as : List (List Int)} {rs : List Rl} (h : Q4 hd as rs) : hd.length ≤ 7 := sm_len h.q.asc fun x hx => h.sm x (h.q.sub x hx)
theorem Q4.rin {hd : List Int} {as : List (List Int)} {rs : List Rl} (h : Q4 hd as rs) {xs : List Int} {d : PyData} (it : itemsD d = some (dInts xs)) (nx : xs.length ≤ 20) : RIn rs xs d :=
  ⟨it, h.nr, nx, fun r hr => by have := (h.ok r hr).len h.q; omega⟩
abbrev sett (hd : List Int) (rs : List Rl) : List Int := srtU (clo rs hd)
def opn (hd : List Int) (as : List (List Int)) (rs : List Rl) : List Int := (srtU as.flatten).filter fun v => decide (v ∉ sett hd rs)
theorem filtI {tgi : Nat} {a c : EvE} {Γ : Ev} {st : Pn} {p : Int → Bool} : ∀ (ys : List Int), (∀ y ∈ ys, W (asT (.nm tgi) (.int y) Γ) fun Γ1 => W (c Γ1 st) (fun z => z = (.bool (p y), st)) ∧ W (a Γ1 st) fun u => u = (.int y, st)) →
    lcLoop (.nm tgi) (some c) a Γ (dInts ys) st = some (dInts (ys.filter p), st)
  | [], _ => rfl
  | y :: ys, h => by
    obtain ⟨Γ1, e1, ⟨z, e2, rfl⟩, ⟨u, e3, rfl⟩⟩ := h y (List.mem_cons_self ..)
    have ih := filtI ys fun y hy => h y (List.mem_cons_of_mem _ hy)
    rw [show dInts (y :: ys) = PyData.int y :: dInts ys from rfl, lcLoop, e1]
    simp only [lcTest, e2]
    rw [List.filter_cons]
    cases p y with
    | false => simp only [ih]; rfl
    | true => simp only [e3, ih]; rfl
def SpSettled (f : Fn) : Prop := ∀ hd as rs st, Q4 hd as rs → W (f [.d (dQ hd as), .d (dRs rs)] st) fun r => r = (.tuple (dInts (sett hd rs)), st)
theorem settled_ok {Φ : Nat → Fn} {k : Nat} (h3 : SpCloOf (Φ 3)) : SpSettled (fnOf 2 2 k Φ sl_settled_of) := fun hd as rs st h => by
  refine (w_fnOf rfl).mpr ?_
  unfold sl_settled_of dQ
  walk_at "ev"
  exact h3 _ rs hd _ st (h.rin items_t (by have := h.hd7; omega))
def SpLSettled (f : Fn) : Prop := ∀ hd as rs st, Q4 hd as rs → W (f [.d (dQ hd as), .d (dRs rs)] st) fun r => r = (.list (dInts (sett hd rs)), st)
theorem lSettled_ok {Φ : Nat → Fn} {k : Nat} (h16 : SpLClo (Φ 16)) : SpLSettled (fnOf 2 2 k Φ sl_law_settled) := fun hd as rs st h => by
  refine (w_fnOf rfl).mpr ?_
  unfold sl_law_settled dQ
  walk_at "ev"
  exact h16 rs hd _ st (h.rin items_t (by have := h.hd7; omega))
theorem Q4.f20 {hd : List Int} {as : List (List Int)} {rs : List Rl} (h : Q4 hd as rs) : as.flatten.length ≤ 20 := by
  have := flat_len (w := 4) (as := as) fun a ha => (h.q.at_ a ha).len
  have := h.q.len
  omega
def SpOpen (f : Fn) : Prop := ∀ hd as rs st, Q4 hd as rs → W (f [.d (dQ hd as), .d (dRs rs)] st) fun r => r = (.tuple (dInts (opn hd as rs)), st)
theorem open_ok {Φ : Nat → Fn} {k : Nat} (h39 : SpSettled (Φ 39)) (h27 : SpVarsOf (Φ 27)) : SpOpen (fnOf 2 4 k Φ sl_open_of) := fun hd as rs st h => by
  refine (w_fnOf rfl).mpr ?_
  have h20 := h.f20
  unfold sl_open_of
  walk_at "ev"
  refine W_mono (h39 hd as rs st h) ?_
  rintro _ rfl
  walk_at "ev"
  refine W_mono (h27 (.tuple (dInts hd)) as st (by omega)) ?_
  rintro _ rfl
  walk_at "ev"
  refine ⟨by have := srtU_le as.flatten; rw [show LIM = 1000000 from rfl]; omega, ?_⟩
  rw [filtI (p := fun v => decide (v ∉ sett hd rs))]
  · rw [W_some]
    rfl
  · intro y hy
    walk_at "ev"
    rw [g_notInI items_t]
    simp
/-- one thing of a part, of one list and another -/
def touchB (as : List (List Int)) (part vs : List Int) : Bool := part.any fun i => vs.any fun v => decide (v ∈ as.getD i.toNat [])
def SpTouches (f : Fn) : Prop := ∀ hd as (part vs : List Int) (d : PyData) st, itemsD d = some (dInts vs) → vs.length ≤ 100 → part.length ≤ 5 → (∀ i ∈ part, 0 ≤ i ∧ i < as.length) → W (f [.d (dQ hd as), .d (.tuple (dInts part)), .d d] st) fun r => r = (.bool (touchB as part vs), st)
theorem lc2B {i j : Nat} {Γ : Ev} {st : Pn} {c : EvE} {vs1 : List Nat} {it : EvI} {vs : List Int} {b : Int → Int → Bool} : ∀ (part : List Int), (∀ x ∈ part, W (asT (.nm i) (.int x) Γ) fun Γ1 => W (it Γ1 st) fun p => p = (dInts vs, st) ∧ ∀ y ∈ vs, W (asT (.nm j) (.int y) (wipeE Γ1 vs1)) fun Γ2 => W (c Γ2 st) fun p => p = (.bool (b x y), st)) →
    lcLoop2 (.nm i) none it (.nm j) none c vs1 Γ (dInts part) st = some ((part.flatMap fun x => vs.map fun y => b x y).map PyData.bool, st)
  | [], _ => rfl
  | x :: part, h => by
    have ih := lc2B part fun y hy => h y (List.mem_cons_of_mem _ hy)
    obtain ⟨Γ1, e1, p, e2, rfl, q⟩ := h x (List.mem_cons_self ..)
    have e3 : lcLoop (.nm j) none c (wipeE Γ1 vs1) (dInts vs) st = some ((vs.map fun y => b x y).map PyData.bool, st) := by
      have := lcAll (Γ := wipeE Γ1 vs1) (st := st) (tg := .nm j) (a := c) (p := fun d => match d with
        | .int y => b x y
        | _ => false) (dInts vs) fun d hd => by
        obtain ⟨y, hy, rfl⟩ := List.mem_map.mp hd
        exact q y hy
      rw [this]
      simp only [dInts, List.map_map]
      rfl
    rw [show dInts (x :: part) = PyData.int x :: dInts part from rfl, lcLoop2, e1]
    simp only [lcTest, e2, e3, ih]
    rw [List.flatMap_cons, List.map_append]
theorem touches_ok {Φ : Nat → Fn} {k : Nat} : SpTouches (fnOf 3 5 k Φ sl_touches) := fun hd as part vs d st hd' hv hp hi => by
  refine (w_fnOf rfl).mpr ?_
  unfold sl_touches dQ
  walk_at "evb"
  rw [lc2B (vs := vs) (b := fun i v => decide (v ∈ as.getD i.toNat []))]
  · rw [W_some]
    have hlen : (part.flatMap fun x => vs.map fun y => decide (y ∈ as.getD x.toNat [])).length ≤ 500 := by
      have : ∀ (ps : List Int), (ps.flatMap fun x => vs.map fun y => decide (y ∈ as.getD x.toNat [])).length = ps.length * vs.length := by
        intro ps
        induction ps with
        | nil => simp
        | cons p ps ih => rw [List.flatMap_cons, List.length_append, ih, List.length_map, List.length_cons, Nat.add_mul, Nat.one_mul, Nat.add_comm]
      rw [this]
      exact Nat.le_trans (Nat.mul_le_mul hp hv) (by decide)
    refine ⟨by simp only [List.length_map, show LIM = 1000000 from rfl]; omega, ?_⟩
    rw [g_anyB]
    simp only [touchB, List.any_flatMap, List.any_map, Function.comp_def, id_eq]
  · intro x hx
    obtain ⟨i0, i1⟩ := hi x hx
    obtain ⟨a, ha, _⟩ := at_get (as := as) ⟨i0, i1⟩
    have e : as.getD x.toNat [] = a := by rw [List.getD_eq_getElem?_getD, ha]; rfl
    rw [as_nm, W_some]
    refine W_mono (Q := fun p => p = (dInts vs, st)) ?_ ?_
    · simp only [noOwn1]
      walk_at "evb"
      rw [hd', W_some]
    · rintro _ rfl
      refine ⟨rfl, fun y hy => ?_⟩
      simp only [noOwn1]
      walk_at "evb"
      refine g_ixA i0 i1 ha ?_
      rw [g_inI items_t, e]
def SpJoined (f : Fn) : Prop := ∀ (parts : List (List Int)) (t : Int) st, parts.length ≤ 5 → (∀ p ∈ parts, p.length ≤ 5) → W (f [.d (.list (dTs parts)), .d (.int t)] st) fun r => r = (.tuple (dInts (srtI (parts.flatten ++ [t]))), st)
theorem flatI {i j : Nat} {Γ : Ev} {st : Pn} {c : EvE} (vs : List Nat) (it : EvI) (hi : ∀ a, W (asT (.nm i) (.tuple (dInts a)) Γ) fun Γ1 => W (it Γ1 st) fun p => p = (dInts a, st) ∧ ∀ y, W (asT (.nm j) (.int y) (wipeE Γ1 vs)) fun Γ2 => W (c Γ2 st) fun p => p = (.int y, st)) :
    ∀ as : List (List Int), lcLoop2 (.nm i) none it (.nm j) none c vs Γ (dTs as) st = some (dInts as.flatten, st)
  | [] => rfl
  | a :: as => by
    have ih := flatI vs it hi as
    obtain ⟨Γ1, e1, p, e2, rfl, q⟩ := hi a
    have e3 : lcLoop (.nm j) none c (wipeE Γ1 vs) (dInts a) st = some (dInts a, st) := by
      have := lcMap (Γ := wipeE Γ1 vs) (st := st) (tg := .nm j) (a := c) (cc := none) (f := id) (p := fun _ => true) (dInts a) fun d hd => by
        obtain ⟨y, hy, rfl⟩ := List.mem_map.mp hd
        refine W_mono (q y) fun Γ2 q2 => ?_
        simp only [lcTest, W_some]
        exact ⟨trivial, fun _ => q2⟩
      rw [this]
      simp
    rw [show dTs (a :: as) = .tuple (dInts a) :: dTs as from rfl, lcLoop2, e1]
    simp only [lcTest, e2, e3, ih]
    rw [List.flatten_cons, dInts, dInts, dInts, List.map_append]
theorem flatten_len {as : List (List Int)} {k : Nat} (h : ∀ a ∈ as, a.length ≤ k) : as.flatten.length ≤ k * as.length := by
  have := flat_len (w := k) (as := as) fun a ha => by have := h a ha; omega
  rw [← Int.natCast_mul] at this
  omega
theorem joined_ok {Φ : Nat → Fn} {k : Nat} : SpJoined (fnOf 2 4 k Φ sl_joined_part) := fun parts t st h1 h2 => by
  refine (w_fnOf rfl).mpr ?_
  unfold sl_joined_part
  have hf : parts.flatten.length ≤ 25 := by
    have := flatten_len h2
    have : 5 * parts.length ≤ 25 := by omega
    omega
  walk_at "evb"
  rw [flatI]
  · rw [W_some]
    refine ⟨by simp only [List.length_map, show LIM = 1000000 from rfl]; omega, by decide, ?_⟩
    rw [g_addL]
    refine ⟨by simp only [List.length_map, List.length_singleton, show LIM = 1000000 from rfl]; omega, ?_⟩
    have e : dInts parts.flatten ++ [PyData.int t] = dInts (parts.flatten ++ [t]) := by rw [dInts, dInts, List.map_append]; rfl
    show W (gSortF [PyData.list (dInts parts.flatten ++ [PyData.int t])]) _
    rw [e, g_sortL, W_some]
  · intro a
    rw [as_nm, W_some]
    refine W_mono (Q := fun p => p = (dInts a, st)) ?_ ?_
    · simp only [noOwn1]
      walk_at "evb"
    · rintro _ rfl
      refine ⟨rfl, fun y => ?_⟩
      simp only [noOwn1]
      walk_at "evb"
/-! parts, as the program joins them -/
def adjA (op : List Int) (as : List (List Int)) (i j : Nat) : Bool := (as.getD j []).any fun v => decide (v ∈ op) && decide (v ∈ as.getD i [])
theorem filtT {tgi : Nat} {a c : EvE} {Γ : Ev} {st : Pn} {p : List Int → Bool} : ∀ (ys : List (List Int)), (∀ y ∈ ys, W (asT (.nm tgi) (dTup y) Γ) fun Γ1 => W (c Γ1 st) (fun z => z = (.bool (p y), st)) ∧ W (a Γ1 st) fun u => u = (dTup y, st)) →
    lcLoop (.nm tgi) (some c) a Γ (dTs ys) st = some (dTs (ys.filter p), st)
  | [], _ => rfl
  | y :: ys, h => by
    obtain ⟨Γ1, e1, ⟨z, e2, rfl⟩, ⟨u, e3, rfl⟩⟩ := h y (List.mem_cons_self ..)
    have ih := filtT ys fun y hy => h y (List.mem_cons_of_mem _ hy)
    rw [show dTs (y :: ys) = dTup y :: dTs ys from rfl, lcLoop, e1]
    simp only [lcTest, e2]
    rw [List.filter_cons]
    cases p y with
    | false => simp only [ih]; rfl
    | true => simp only [e3, ih]; rfl
theorem memD_tups (k : List Int) : ∀ ks : List (List Int), memD (dTup k) (dTs ks) = ks.contains k
  | [] => rfl
  | x :: ks => by
    have ih := memD_tups k ks
    unfold memD at ih ⊢
    rw [dTs, List.map_cons, List.any_cons, List.contains_cons, ← ih]
    have e : PyData.eqv (dTup x) (dTup k) = (k == x) := by
      have h := eqv_ints x k
      simp only [PyData.eqv]
      rw [show List.map PyData.int x = dInts x from rfl, show List.map PyData.int k = dInts k from rfl, h, Bool.eq_iff_iff, decide_eq_true_eq, beq_iff_eq]
      exact eq_comm
    rw [e]
theorem shaped_ls {ks : List (List Int)} : SeqAt.shaped (.list (dTs ks)) = true := by
  have := deep_tups ks
  unfold SeqAt.shaped
  rw [Bool.and_eq_true, decide_eq_true_eq, PyData.canLay0, PyData.depth]
  exact ⟨lay_tups ks, by omega⟩
theorem g_notInLs {k : List Int} {ks : List (List Int)} {Q : PyData → Prop} : W (gNotIn (dTup k) (.list (dTs ks))) Q ↔ Q (.bool (!ks.contains k)) := by
  have h1 : SeqAt.shaped (dTup k) = true := shaped_t (ns := k)
  unfold gNotIn
  rw [items_l]
  simp only [flatD, Bool.false_and, Bool.false_eq_true, if_false, h1, shaped_ls, Bool.and_self, if_true, W_some, memD_tups]
structure PsOk (parts : List (List Int)) (t : Nat) : Prop where
  len : parts.flatten.length = t
  at_ : ∀ p ∈ parts, p ≠ [] ∧ ∀ i ∈ p, 0 ≤ i ∧ i < (t : Int)
theorem ps_len : ∀ {parts : List (List Int)}, (∀ p ∈ parts, p ≠ []) → parts.length ≤ parts.flatten.length
  | [], _ => Nat.le_refl _
  | p :: ps, h => by
    have h1 := List.length_pos_iff.mpr (h p (List.mem_cons_self ..))
    have h2 := ps_len (parts := ps) fun q hq => h q (List.mem_cons_of_mem _ hq)
    rw [List.flatten_cons, List.length_append, List.length_cons]
    omega
theorem p_len {p : List Int} : ∀ {parts : List (List Int)}, p ∈ parts → p.length ≤ parts.flatten.length
  | x :: ps, h => by
    rw [List.flatten_cons, List.length_append]
    rcases List.mem_cons.mp h with rfl | h
    · omega
    · have := p_len h; omega
theorem PsOk.n {parts : List (List Int)} {t : Nat} (h : PsOk parts t) : parts.length ≤ t := by
  have := ps_len fun p hp => (h.at_ p hp).1
  rw [h.len] at this
  exact this
theorem PsOk.l {parts : List (List Int)} {t : Nat} (h : PsOk parts t) {p : List Int} (hp : p ∈ parts) : p.length ≤ t := by
  have := p_len hp
  rw [h.len] at this
  exact this
theorem split_len (f : List Int → Bool) : ∀ parts : List (List Int), (parts.filter f).flatten.length + (parts.filter fun p => !f p).flatten.length = parts.flatten.length
  | [] => rfl
  | p :: ps => by
    have ih := split_len f ps
    rw [List.filter_cons, List.filter_cons]
    cases f p <;> simp only [Bool.not_false, Bool.not_true, if_true, if_false, Bool.false_eq_true, List.flatten_cons, List.length_append] <;> omega
theorem far_eq (adj : Nat → Nat → Bool) (parts : List (List Int)) (t : Nat) : (parts.filter fun p => !(nearP adj parts t).contains p) = parts.filter fun p => !(p.any fun i => adj i.toNat t) := by
  refine List.filter_congr fun p hp => ?_
  have : (nearP adj parts t).contains p = p.any fun i => adj i.toNat t := by
    rw [Bool.eq_iff_iff, List.contains_iff_mem]
    unfold nearP
    rw [List.mem_filter]
    exact ⟨fun h => h.2, fun h => ⟨hp, h⟩⟩
  rw [this]
theorem PsOk.step {adj : Nat → Nat → Bool} {parts : List (List Int)} {t : Nat} (h : PsOk parts t) : PsOk (stepP adj parts t) (t + 1) := by
  have hs := split_len (fun p => p.any fun i => adj i.toNat t) parts
  unfold stepP
  rw [far_eq]
  refine ⟨?_, fun p hp => ?_⟩
  · rw [List.flatten_append, List.length_append, List.flatten_singleton, (srtI_perm _).length_eq, List.length_append, List.length_singleton]
    unfold nearP
    have := h.len
    omega
  · rcases List.mem_append.mp hp with hp | hp
    · obtain ⟨h1, h2⟩ := h.at_ p (List.mem_filter.mp hp).1
      exact ⟨h1, fun i hi => by have := h2 i hi; omega⟩
    · rw [List.mem_singleton.mp hp]
      refine ⟨fun e => ?_, fun i hi => ?_⟩
      · have := congrArg List.length e
        rw [(srtI_perm _).length_eq, List.length_append] at this
        simp at this
      · have hi := (srtI_perm _).mem_iff.mp hi
        rcases List.mem_append.mp hi with hi | hi
        · obtain ⟨p, hp, hi⟩ := List.mem_flatten.mp hi
          have := (h.at_ p (List.mem_filter.mp hp).1).2 i hi
          omega
        · rw [List.mem_singleton.mp hi]; omega
theorem touch_adj {op : List Int} {as : List (List Int)} {t : Nat} {a : List Int} (ha : as.getD t [] = a) (part : List Int) : touchB as part (a.filter fun v => decide (v ∈ op)) = part.any fun i => adjA op as i.toNat t := by
  unfold touchB adjA
  rw [ha]
  refine congrArg (fun f => part.any f) (funext fun i => ?_)
  rw [List.any_filter]
theorem joinP_succ (adj : Nat → Nat → Bool) (t : Nat) : joinP adj (t + 1) = stepP adj (joinP adj t) t := by
  unfold joinP
  rw [List.range_succ, List.foldl_append]
  rfl
theorem join_ok (adj : Nat → Nat → Bool) : ∀ t, PsOk (joinP adj t) t
  | 0 => ⟨rfl, fun p h => nomatch h⟩
  | t + 1 => by rw [joinP_succ]; exact (join_ok adj t).step
def SpParts (f : Fn) : Prop := ∀ hd as rs st, Q4 hd as rs → W (f [.d (dQ hd as), .d (dRs rs)] st) fun r => r = (.tuple (dTs (partsP (adjA (opn hd as rs) as) as.length)), st)
theorem parts_ok {Φ : Nat → Fn} {k : Nat} (h40 : SpOpen (Φ 40)) (h43 : SpTouches (Φ 43)) (h42 : SpJoined (Φ 42)) : SpParts (fnOf 2 11 k Φ sl_parts_of) := fun hd as rs st h => by
  refine (w_fnOf rfl).mpr ?_
  have hl := h.q.len
  have hA : (dAts as).length = as.length := List.length_map ..
  unfold sl_parts_of
  walk_at "ev"
  refine W_mono (h40 hd as rs st h) ?_
  rintro _ rfl
  have eQ : dQ hd as = .tuple [.tuple (dInts hd), .tuple (dAts as)] := rfl
  generalize hop : opn hd as rs = op
  have hops : op.length ≤ 20 := by
    rw [← hop]
    have h1 := List.length_filter_le (fun v => decide (v ∉ sett hd rs)) (srtU as.flatten)
    have h2 := srtU_le as.flatten
    have h3 := h.f20
    unfold opn
    omega
  walk_at "ev"
  refine ⟨by decide, ?_⟩
  rw [eQ]
  walk_at "ev"
  refine loopI (I := fun ds Γ st1 => ∃ t rest l4 l5 l6 l7 l8 l9 l10, ds = zipD t (dAts rest) ∧ as.drop t = rest ∧ t + rest.length = as.length ∧ st1 = st ∧ Γ = [some (.d (dQ hd as)), some (.d (dRs rs)), some (.d (.tuple (dInts op))), some (.d (.list (dTs (joinP (adjA op as) t)))), l4, l5, l6, l7, l8, l9, l10]) ?_ ?_ _ _ _ ⟨0, as, _, _, _, _, _, _, _, rfl, rfl, by omega, rfl, rfl⟩
  · rintro d ds Γ st1 ⟨t, rest, l4, l5, l6, l7, l8, l9, l10, e1, er, et, rfl, rfl⟩
    cases rest with
    | nil => cases e1
    | cons a rest =>
      obtain ⟨rfl, rfl⟩ := List.cons.inj e1
      rw [List.length_cons] at et
      have hat : as[t]? = some a := by
        have := congrArg (fun l : List (List Int) => l[0]?) er
        simpa using this
      have hag : as.getD t [] = a := by rw [List.getD_eq_getElem?_getD, hat]; rfl
      have ham : a ∈ as := List.mem_of_getElem? hat
      have ha4 := (h.q.at_ a ham).len
      have hps := join_ok (adjA op as) t
      have hn := hps.n
      walk_at "ev"
      refine ⟨by rw [show LIM = 1000000 from rfl]; omega, ?_⟩
      rw [filtI (p := fun v => decide (v ∈ op))]
      · rw [W_some]
        walk_at "ev"
        refine ⟨by rw [show LIM = 1000000 from rfl]; omega, ?_⟩
        rw [filtT (p := fun p => p.any fun i => adjA op as i.toNat t)]
        · rw [W_some]
          walk_at "ev"
          refine ⟨by rw [show LIM = 1000000 from rfl]; omega, ?_⟩
          rw [filtT (p := fun p => !(nearP (adjA op as) (joinP (adjA op as) t) t).contains p)]
          · rw [W_some]
            walk_at "ev"
            refine W_mono (h42 (nearP (adjA op as) (joinP (adjA op as) t) t) t st1 (Nat.le_trans (List.length_filter_le _ _) (by omega)) fun p hp => by have := hps.l (List.mem_filter.mp hp).1; omega) ?_
            rintro _ rfl
            refine ⟨by decide, ?_⟩
            have e : dTs ((joinP (adjA op as) t).filter fun p => !(nearP (adjA op as) (joinP (adjA op as) t) t).contains p) ++ [PyData.tuple (dInts (srtI ((nearP (adjA op as) (joinP (adjA op as) t) t).flatten ++ [(t : Int)])))] = dTs (joinP (adjA op as) (t + 1)) := by
              rw [joinP_succ, stepP, dTs, dTs, List.map_append]
              rfl
            have hfl := List.length_filter_le (fun p => !(nearP (adjA op as) (joinP (adjA op as) t) t).contains p) (joinP (adjA op as) t)
            rw [g_addL, e]
            refine ⟨by simp only [List.length_map, List.length_singleton, show LIM = 1000000 from rfl]; omega, t + 1, rest, rfl, ?_, by omega, rfl, _, _, _, _, _, _, _, rfl⟩
            rw [← List.drop_drop, er]
            rfl
          · intro p hp
            walk_at "ev"
            exact g_notInLs.mpr rfl
        · intro p hp
          walk_at "ev"
          have hfl := List.length_filter_le (fun v => decide (v ∈ op)) a
          refine W_mono (h43 hd as p (a.filter fun v => decide (v ∈ op)) (.list (dInts (a.filter fun v => decide (v ∈ op)))) st1 items_l (by omega) (by have := hps.l hp; omega) fun i hi => by have := (hps.at_ p hp).2 i hi; omega) ?_
          rintro _ rfl
          rw [touch_adj hag]
      · intro y hy
        walk_at "ev"
        rw [g_inI items_t]
  · rintro Γ st1 ⟨t, rest, l4, l5, l6, l7, l8, l9, l10, e1, er, et, rfl, rfl⟩
    have : rest = [] := by
      cases rest with
      | nil => rfl
      | cons a r => cases e1
    subst this
    have : t = as.length := by simpa using et
    subst this
    walk_at "ev"
    rw [g_sortT fun p hp => ((join_ok (adjA op as) as.length).at_ p hp).1, W_some]
    rfl
end Mn
namespace Mn
open PySem PySem.Spec PyProof.Rows L2
local macro_rules | `(tactic| walk_at "ev") => `(tactic| simp only [isa_T, isa_I, isa_B, ty_T, ty_I, g_eqN, g_eqI, g_neI, w_sset2, w_lc2, w_zip, w_d0, w_oset, evB, evS, evTL, evTFL, evCL, evE, evEs, evF, evI, evC, evO, evG, O2.g, B1.g, F1.g,
  w_k, w_v, w_2, w_tup, w_fr, w_lst, w_nil, w_cons, w_not, w_neg, w_call, w_callF, w_isa, w_tyis, w_o0, w_o1, w_sl, w_sset, w_lset, w_lrg, w_pix, w_lenS, w_fn, w_gn, w_gd, w_gp, w_it, w_enum, w_rng1, w_lc, w_sc, w_fz, w_pop, w_scF, w_fzF,
  w_next, w_seq, w_ret, w_drop, w_asg, w_ifS, w_own, w_lcD, w_cmO, w_cmD, w_par, w_app, w_ext, w_pset, w_for, w_forR, W_some, W_none, W_ite,
  List.getElem?_cons_zero, List.getElem?_cons_succ, List.getElem?_nil, frzBy, frz1, List.contains_nil, List.contains_cons, as_nm, as_tup, as_nil, w_asTs, penD, penPut, List.set_cons_zero, List.set_cons_succ, wipeE,
  items_l, items_t, g_add, g_sub, g_mod, g_fdiv, g_mul, g_pow, g_lt, g_le, g_gt, g_ge, g_lenL, g_lenT, g_int1, g_min, g_max, g_tupL, g_tupT, g_listL, g_listT, isa_ii, isa_ib, isa_tt, g_ix20, g_ix21, g_ix30, g_ix31, g_ix32, g_sortL, w_ssetL, w_ssetT, w_lsetT, Bool.not_true, Bool.not_false, List.length_map, Option.bind_some, scalD, Bool.and_true, Bool.true_and, List.all_cons, List.all_nil,
  Option.some.injEq, Sl.d.injEq, Sl.own.injEq, Sl.scr.injEq, PyData.int.injEq, PyData.bool.injEq, PyData.list.injEq, PyData.tuple.injEq, exists_eq_left', exists_eq_left, exists_eq', exists_eq, exists_and_left, true_and, and_true, if_true, if_false, ite_true, ite_false,
  allS, Nat.reduceAdd, Nat.reduceBEq, Bool.or_false, Bool.or_true, Bool.false_or, Bool.true_or, Bool.false_eq_true, reduceIte, reduceCtorEq, List.length_cons, List.length_nil, Int.reduceEq, decide_eq_true_eq, decide_eq_false_iff_not, one_ne_zero, not_false_eq_true,
  startE, List.map_cons, List.map_nil, slOf, List.replicate_zero, List.replicate_succ, List.cons_append, List.nil_append, Nat.reduceSub, forall_const, false_implies, implies_true])
local macro_rules | `(tactic| walk_at "evb") => `(tactic| simp only [isa_T, isa_I, isa_B, ty_T, ty_I, g_eqN, g_eqI, g_neI, w_sset2, w_lc2, w_zip, w_d0, w_oset, evB, evS, evTL, evTFL, evCL, evE, evEs, evF, evI, evC, evO, evG, O2.g, B1.g, F1.g,
  w_k, w_v, w_2, w_tup, w_fr, w_lst, w_nil, w_cons, w_and, w_or, w_not, w_neg, w_if, w_ch, w_call, w_callF, w_isa, w_tyis, w_o0, w_o1, w_sl, w_sset, w_lset, w_lrg, w_pix, w_lenS, w_fn, w_gn, w_gd, w_gp, w_it, w_enum, w_rng1, w_lc, w_sc, w_fz, w_pop, w_scF, w_fzF,
  w_next, w_seq, w_ret, w_drop, w_asg, w_ifS, w_own, w_lcD, w_cmO, w_cmD, w_par, w_app, w_ext, w_pset, w_for, w_forR, W_some, W_none, W_ite,
  List.getElem?_cons_zero, List.getElem?_cons_succ, List.getElem?_nil, frzBy, frz1, List.contains_nil, List.contains_cons, as_nm, as_tup, as_nil, w_asTs, penD, penPut, List.set_cons_zero, List.set_cons_succ, wipeE,
  items_l, items_t, g_add, g_sub, g_mod, g_fdiv, g_mul, g_pow, g_lt, g_le, g_gt, g_ge, g_lenL, g_lenT, g_int1, g_min, g_max, g_tupL, g_tupT, g_listL, g_listT, isa_ii, isa_ib, isa_tt, g_ix20, g_ix21, g_ix30, g_ix31, g_ix32, g_sortL, w_ssetL, w_ssetT, w_lsetT, Bool.not_true, Bool.not_false, List.length_map, Option.bind_some, scalD, Bool.and_true, Bool.true_and, List.all_cons, List.all_nil,
  Option.some.injEq, Sl.d.injEq, Sl.own.injEq, Sl.scr.injEq, PyData.int.injEq, PyData.bool.injEq, PyData.list.injEq, PyData.tuple.injEq, exists_eq_left', exists_eq_left, exists_eq', exists_eq, exists_and_left, true_and, and_true, if_true, if_false, ite_true, ite_false,
  allS, Nat.reduceAdd, Nat.reduceBEq, Bool.or_false, Bool.or_true, Bool.false_or, Bool.true_or, Bool.false_eq_true, reduceIte, reduceCtorEq, List.length_cons, List.length_nil, Int.reduceEq, decide_eq_true_eq, decide_eq_false_iff_not, one_ne_zero, not_false_eq_true,
  startE, List.map_cons, List.map_nil, slOf, List.replicate_zero, List.replicate_succ, List.cons_append, List.nil_append, Nat.reduceSub, forall_const, false_implies, implies_true])
/-! parts, as the law marks them -/
theorem mstep_len (adj : Nat → Nat → Bool) (one two : Nat) (m : List Int) : (mstep adj one m two).length = m.length := by
  unfold mstep
  split
  · rw [List.length_set]
  · rfl
theorem foldl_len {f : List Int → Nat → List Int} (h : ∀ m i, (f m i).length = m.length) : ∀ (is : List Nat) (m : List Int), (is.foldl f m).length = m.length
  | [], _ => rfl
  | i :: is, m => by rw [List.foldl_cons, foldl_len h is, h]
theorem mrow_len (adj : Nat → Nat → Bool) (n one : Nat) (m : List Int) : (mrow adj n m one).length = m.length := foldl_len (fun m i => mstep_len adj one i m) _ _
theorem mlap_len (adj : Nat → Nat → Bool) (n lap : Nat) (m : List Int) : (mlap adj n m lap).length = m.length := foldl_len (fun m i => mrow_len adj n i m) _ _
theorem fold_succ {α : Type} (f : α → Nat → α) (m : α) (k : Nat) : (List.range (k + 1)).foldl f m = f ((List.range k).foldl f m) k := by
  rw [List.range_succ, List.foldl_append]
  rfl
theorem adj_mem {op : List Int} {as : List (List Int)} {i j : Nat} : adjA op as i j = true ↔ ∃ v, v ∈ as.getD j [] ∧ v ∈ op ∧ v ∈ as.getD i [] := by
  unfold adjA
  rw [List.any_eq_true]
  constructor
  · rintro ⟨v, h1, h2⟩
    rw [Bool.and_eq_true, decide_eq_true_eq, decide_eq_true_eq] at h2
    exact ⟨v, h1, h2.1, h2.2⟩
  · rintro ⟨v, h1, h2, h3⟩
    exact ⟨v, h1, by rw [Bool.and_eq_true, decide_eq_true_eq, decide_eq_true_eq]; exact ⟨h2, h3⟩⟩
theorem adjA_ok (op : List Int) (as : List (List Int)) : Adj (adjA op as) as.length where
  sym := fun i j => by
    rw [Bool.eq_iff_iff, adj_mem, adj_mem]
    exact ⟨fun ⟨v, h1, h2, h3⟩ => ⟨v, h3, h2, h1⟩, fun ⟨v, h1, h2, h3⟩ => ⟨v, h3, h2, h1⟩⟩
  dia := fun i j h => by
    rw [adj_mem] at h ⊢
    obtain ⟨v, h1, h2, h3⟩ := h
    exact ⟨v, h3, h2, h3⟩
  out := fun i j h => by
    cases z : adjA op as i j with
    | false => rfl
    | true =>
      obtain ⟨v, h1, h2, h3⟩ := adj_mem.mp z
      rw [getD_ge h] at h3
      cases h3
theorem adj_test {hd : List Int} {as : List (List Int)} {rs : List Rl} {i j : Nat} {a b : List Int} (hi : as[i]? = some a) (hj : as[j]? = some b) :
    (!decide ((a.filter fun x => decide (x ∈ b) && decide (x ∉ sett hd rs)) = [])) = adjA (opn hd as rs) as i j := by
  have ei : as.getD i [] = a := by rw [List.getD_eq_getElem?_getD, hi]; rfl
  have ej : as.getD j [] = b := by rw [List.getD_eq_getElem?_getD, hj]; rfl
  rw [Bool.eq_iff_iff, adj_mem, ei, ej, Bool.not_eq_true', decide_eq_false_iff_not]
  constructor
  · intro h
    obtain ⟨x, hx⟩ := List.exists_mem_of_ne_nil _ h
    obtain ⟨h1, h2⟩ := List.mem_filter.mp hx
    rw [Bool.and_eq_true, decide_eq_true_eq, decide_eq_true_eq] at h2
    refine ⟨x, h2.1, ?_, h1⟩
    unfold opn
    rw [List.mem_filter, srtU_mem]
    exact ⟨List.mem_flatten.mpr ⟨a, List.mem_of_getElem? hi, h1⟩, decide_eq_true h2.2⟩
  · rintro ⟨x, h1, h2, h3⟩ e
    have hx : x ∈ a.filter fun x => decide (x ∈ b) && decide (x ∉ sett hd rs) := by
      refine List.mem_filter.mpr ⟨h3, ?_⟩
      rw [Bool.and_eq_true, decide_eq_true_eq]
      unfold opn at h2
      exact ⟨h1, (List.mem_filter.mp h2).2⟩
    rw [e] at hx
    cases hx
theorem drop_get {α : Type} {as : List α} {t : Nat} {a : α} {rest : List α} (h : as.drop t = a :: rest) : as[t]? = some a ∧ as.drop (t + 1) = rest := by
  constructor
  · have := congrArg (fun l : List α => l[0]?) h
    simpa using this
  · rw [← List.drop_drop, h]; rfl
theorem dget {m : List Int} {i : Nat} {u : PyData} (h : (dInts m)[Int.toNat (i : Int)]? = some u) : u = .int (m.getD i 0) := by
  rw [Int.toNat_natCast, List.getElem?_map] at h
  rw [List.getD_eq_getElem?_getD]
  cases hm : m[i]? with
  | none => rw [hm] at h; cases h
  | some x => rw [hm] at h; cases h; rfl
def SpLParts (f : Fn) : Prop := ∀ hd as rs st, Q4 hd as rs → W (f [.d (dQ hd as), .d (dRs rs)] st) fun r => r = (.tuple (dTs (partsL (adjA (opn hd as rs) as) as.length)), st)
theorem lParts_ok {Φ : Nat → Fn} {k : Nat} (h49 : SpLSettled (Φ 49)) : SpLParts (fnOf 2 13 k Φ sl_law_parts) := fun hd as rs st h => by
  refine (w_fnOf rfl).mpr ?_
  have hl := h.q.len
  have hA : (dAts as).length = as.length := List.length_map ..
  have eQ : dQ hd as = .tuple [.tuple (dInts hd), .tuple (dAts as)] := rfl
  unfold sl_law_parts
  walk_at "ev"
  refine W_mono (h49 hd as rs st h) ?_
  rintro _ rfl
  rw [eQ]
  walk_at "ev"
  have hR : rngD 0 (Int.toNat ((dAts as).length : Nat)) = dInts ((List.range as.length).map fun i : Nat => (i : Int)) := by
    rw [rngD_ints, hA]
    rfl
  have hadj : ∀ i j a b, as[i]? = some a → as[j]? = some b → (!decide ((a.filter fun x => decide (x ∈ b) && decide (x ∉ sett hd rs)) = [])) = adjA (opn hd as rs) as i j := fun i j a b h1 h2 => adj_test h1 h2
  generalize adjA (opn hd as rs) as = adj at hadj
  have hLIM : LIM = 1000000 := rfl
  refine ⟨⟨by omega, by omega⟩, ⟨by omega, by omega⟩, ?_⟩
  rw [hR]
  have len0 : ((List.range as.length).map fun i : Nat => (i : Int)).length = as.length := by rw [List.length_map, List.length_range]
  have lenL : ∀ k, ((List.range k).foldl (mlap adj as.length) ((List.range as.length).map fun i : Nat => (i : Int))).length = as.length := fun k => by
    rw [foldl_len (fun m i => mlap_len adj as.length i m), len0]
  refine loopI (I := fun ds Γ st1 => ∃ k l4 l5 l6 l7 l8 l9 l10 l11 l12, ds.length + k = as.length ∧ st1 = st ∧ Γ = [some (.d (.tuple [.tuple (dInts hd), .tuple (dAts as)])), some (.d (dRs rs)), some (.d (.list (dInts (sett hd rs)))), some (.own (dInts ((List.range k).foldl (mlap adj as.length) ((List.range as.length).map fun i : Nat => (i : Int))))), l4, l5, l6, l7, l8, l9, l10, l11, l12]) ?_ ?_ _ _ _ ⟨0, _, _, _, _, _, _, _, _, _, by rw [List.length_map, List.length_map, List.length_range]; rfl, rfl, rfl⟩
  · rintro x ds Γ st1 ⟨k, l4, l5, l6, l7, l8, l9, l10, l11, l12, ek, rfl, rfl⟩
    rw [List.length_cons] at ek
    have hm0 := lenL k
    generalize hM0 : (List.range k).foldl (mlap adj as.length) ((List.range as.length).map fun i : Nat => (i : Int)) = m0 at hm0
    walk_at "ev"
    refine loopI (I := fun ds1 Γ st2 => ∃ i rest l5 l6 l7 l8 l9 l10 l11 l12, ds1 = zipD i (dAts rest) ∧ as.drop i = rest ∧ i + rest.length = as.length ∧ st2 = st1 ∧ Γ = [some (.d (.tuple [.tuple (dInts hd), .tuple (dAts as)])), some (.d (dRs rs)), some (.d (.list (dInts (sett hd rs)))), some (.own (dInts ((List.range i).foldl (mrow adj as.length) m0))), some (.d x), l5, l6, l7, l8, l9, l10, l11, l12]) ?_ ?_ _ _ _ ⟨0, as, _, _, _, _, _, _, _, _, rfl, rfl, by omega, rfl, rfl⟩
    · rintro d ds1 Γ st2 ⟨i, rest, l5, l6, l7, l8, l9, l10, l11, l12, e1, er, et, rfl, rfl⟩
      cases rest with
      | nil => cases e1
      | cons a rest =>
        obtain ⟨rfl, rfl⟩ := List.cons.inj e1
        rw [List.length_cons] at et
        obtain ⟨hia, hid⟩ := drop_get er
        have hm1 : ((List.range i).foldl (mrow adj as.length) m0).length = as.length := by rw [foldl_len (fun m i => mrow_len adj as.length i m), hm0]
        generalize hM1 : (List.range i).foldl (mrow adj as.length) m0 = m1 at hm1
        walk_at "ev"
        refine loopI (I := fun ds2 Γ st3 => ∃ j rest2 l7 l8 l9 l10 l11 l12, ds2 = zipD j (dAts rest2) ∧ as.drop j = rest2 ∧ j + rest2.length = as.length ∧ st3 = st2 ∧ Γ = [some (.d (.tuple [.tuple (dInts hd), .tuple (dAts as)])), some (.d (dRs rs)), some (.d (.list (dInts (sett hd rs)))), some (.own (dInts ((List.range j).foldl (mstep adj i) m1))), some (.d x), some (.d (.int i)), some (.d (.tuple (dInts a))), l7, l8, l9, l10, l11, l12]) ?_ ?_ _ _ _ ⟨0, as, _, _, _, _, _, _, rfl, rfl, by omega, rfl, rfl⟩
        · rintro d2 ds2 Γ st3 ⟨j, rest2, l7, l8, l9, l10, l11, l12, e2, er2, et2, rfl, rfl⟩
          cases rest2 with
          | nil => cases e2
          | cons b rest2 =>
            obtain ⟨rfl, rfl⟩ := List.cons.inj e2
            rw [List.length_cons] at et2
            obtain ⟨hjb, hjd⟩ := drop_get er2
            have hm2 : ((List.range j).foldl (mstep adj i) m1).length = as.length := by rw [foldl_len (fun m j => mstep_len adj i j m), hm1]
            generalize hM2 : (List.range j).foldl (mstep adj i) m1 = m2 at hm2
            have ha4 := (h.q.at_ a (List.mem_of_getElem? hia)).len
            walk_at "ev"
            refine ⟨by omega, ?_⟩
            rw [filtI (p := fun x => decide (x ∈ b) && decide (x ∉ sett hd rs))]
            · rw [W_some]
              walk_at "ev"
              refine ⟨by decide, ?_⟩
              rw [g_neL0, hadj i j a b hia hjb]
              refine ⟨_, rfl, fun hT => ?_, fun hF => ?_⟩
              · refine g_ixL (by omega) (by rw [List.length_map, hm2]; omega) fun u hu => ?_
                have hu := dget hu
                subst hu
                refine g_ixL (by omega) (by rw [List.length_map, hm2]; omega) fun u hu => ?_
                have hu := dget hu
                subst hu
                rw [g_min, W_some]
                refine ⟨rfl, ?_⟩
                rw [ixN_ok (by omega) (by omega), W_some]
                have e : (dInts m2).set (Int.toNat (i : Int)) (.int (if m2.getD j 0 < m2.getD i 0 then m2.getD j 0 else m2.getD i 0)) = dInts ((List.range (j + 1)).foldl (mstep adj i) m1) := by
                  rw [fold_succ, hM2, mstep, if_pos hT, dInts, dInts, List.map_set]
                  rfl
                rw [e]
                exact ⟨j + 1, rest2, rfl, hjd, by omega, _, _, _, _, _, _, rfl⟩
              · have e : dInts m2 = dInts ((List.range (j + 1)).foldl (mstep adj i) m1) := by
                  rw [fold_succ, hM2, mstep, if_neg (by rw [hF]; exact Bool.false_ne_true)]
                rw [e]
                exact ⟨j + 1, rest2, rfl, hjd, by omega, _, _, _, _, _, _, rfl⟩
            · intro y hy
              refine W_mono (Q := fun Γ1 => Γ1 = _) (W_some.mpr rfl) ?_
              rintro _ rfl
              walk_at "evb"
              rw [g_inI items_t]
              refine ⟨_, rfl, fun h1 => ?_, fun h1 => ?_⟩
              · rw [g_notInI items_l, h1]
                simp
              · rw [h1]; rfl
        · rintro Γ st3 ⟨j, rest2, l7, l8, l9, l10, l11, l12, e2, er2, et2, rfl, rfl⟩
          have : rest2 = [] := by
            cases rest2 with
            | nil => rfl
            | cons a r => cases e2
          subst this
          have : j = as.length := by simpa using et2
          subst this
          have e : (List.range as.length).foldl (mstep adj i) m1 = (List.range (i + 1)).foldl (mrow adj as.length) m0 := by rw [fold_succ, hM1]; rfl
          rw [e]
          exact ⟨i + 1, rest, rfl, hid, by omega, rfl, _, _, _, _, _, _, _, _, rfl⟩
    · rintro Γ st2 ⟨i, rest, l5, l6, l7, l8, l9, l10, l11, l12, e1, er, et, rfl, rfl⟩
      have : rest = [] := by
        cases rest with
        | nil => rfl
        | cons a r => cases e1
      subst this
      have : i = as.length := by simpa using et
      subst this
      have e : (List.range as.length).foldl (mrow adj as.length) m0 = (List.range (k + 1)).foldl (mlap adj as.length) ((List.range as.length).map fun i : Nat => (i : Int)) := by rw [fold_succ, hM0]; rfl
      rw [e]
      exact ⟨k + 1, by omega, rfl, _, _, _, _, _, _, _, _, _, rfl⟩
  · rintro Γ st1 ⟨k, l4, l5, l6, l7, l8, l9, l10, l11, l12, ek, rfl, rfl⟩
    have : k = as.length := by simpa using ek
    subst this
    have hm := lenL as.length
    rw [show (List.range as.length).foldl (mlap adj as.length) ((List.range as.length).map fun i : Nat => (i : Int)) = marksL adj as.length from rfl] at hm ⊢
    walk_at "ev"
    refine ⟨by decide, by omega, ?_⟩
    generalize hM : marksL adj as.length = M at hm
    refine loopI (I := fun ds Γ st2 => ∃ done rest l4 l5 l6 l7 l8 l10 l11 l12, ds = dInts rest ∧ srtU M = done ++ rest ∧ st2 = st1 ∧ Γ = [some (.d (.tuple [.tuple (dInts hd), .tuple (dAts as)])), some (.d (dRs rs)), some (.d (.list (dInts (sett hd rs)))), some (.d (.list (dInts M))), l4, l5, l6, l7, l8, some (.own (dTs (done.map (partL M as.length)))), l10, l11, l12]) ?_ ?_ _ _ _ ⟨[], srtU M, _, _, _, _, _, _, _, _, rfl, rfl, rfl, rfl⟩
    · rintro d ds Γ st2 ⟨done, rest, l4, l5, l6, l7, l8, l10, l11, l12, e1, e2, rfl, rfl⟩
      cases rest with
      | nil => cases e1
      | cons y rest =>
        obtain ⟨rfl, rfl⟩ := List.cons.inj e1
        have hle := srtU_le M
        rw [e2, List.length_append, List.length_cons] at hle
        walk_at "ev"
        refine ⟨by omega, by rw [rng_len]; omega, ?_⟩
        rw [rngD_ints, filtI (p := fun t => decide (M.getD t.toNat 0 = y))]
        · rw [W_some]
          have e3 : ((List.range (Int.toNat (M.length : Int))).map fun i : Nat => (i : Int)).filter (fun t => decide (M.getD t.toNat 0 = y)) = partL M as.length y := by
            unfold partL
            rw [List.filter_map, show Int.toNat (M.length : Int) = as.length by omega]
            rfl
          rw [e3]
          walk_at "ev"
          have e4 : dTs (done.map (partL M as.length)) ++ [PyData.tuple (dInts (partL M as.length y))] = dTs ((done ++ [y]).map (partL M as.length)) := by
            rw [List.map_append, dTs, dTs, List.map_append]
            rfl
          rw [e4]
          refine ⟨by omega, done ++ [y], rest, rfl, by rw [e2, List.append_assoc]; rfl, _, _, _, _, _, _, _, _, rfl⟩
        · intro t ht
          obtain ⟨u, hu, rfl⟩ := List.mem_map.mp ht
          have hu := List.mem_range.mp hu
          walk_at "ev"
          refine g_ixL (by omega) (by rw [List.length_map]; omega) fun z hz => ?_
          have hz := dget hz
          subst hz
          rw [g_eqI]
          rfl
    · rintro Γ st2 ⟨done, rest, l4, l5, l6, l7, l8, l10, l11, l12, e1, e2, rfl, rfl⟩
      have : rest = [] := by
        cases rest with
        | nil => rfl
        | cons a r => cases e1
      subst this
      rw [List.append_nil] at e2
      subst e2
      walk_at "ev"
      rw [partsL, hM]
end Mn
namespace Mn
open PySem PySem.Spec PyProof.Rows L2
local macro_rules | `(tactic| walk_at "ev") => `(tactic| simp only [isa_T, isa_I, isa_B, ty_T, ty_I, g_eqN, g_eqI, g_neI, w_sset2, w_lc2, w_zip, w_d0, evB, evS, evTL, evTFL, evCL, evE, evEs, evF, evI, evC, evO, evG, O2.g, B1.g, F1.g,
  w_k, w_v, w_2, w_tup, w_fr, w_lst, w_nil, w_cons, w_not, w_neg, w_call, w_callF, w_isa, w_tyis, w_o0, w_o1, w_sl, w_sset, w_lset, w_lrg, w_pix, w_lenS, w_fn, w_gn, w_gd, w_gp, w_it, w_enum, w_rng1, w_lc, w_sc, w_fz, w_pop, w_scF, w_fzF,
  w_next, w_seq, w_ret, w_drop, w_asg, w_ifS, w_own, w_lcD, w_cmO, w_cmD, w_par, w_app, w_ext, w_pset, w_for, w_forR, W_some, W_none, W_ite,
  List.getElem?_cons_zero, List.getElem?_cons_succ, List.getElem?_nil, frzBy, frz1, List.contains_nil, List.contains_cons, as_nm, as_tup, as_nil, w_asTs, penD, penPut, List.set_cons_zero, List.set_cons_succ, wipeE,
  items_l, items_t, g_add, g_sub, g_mod, g_fdiv, g_mul, g_pow, g_lt, g_le, g_gt, g_ge, g_lenL, g_lenT, g_int1, g_min, g_max, g_tupL, g_tupT, g_listL, g_listT, isa_ii, isa_ib, isa_tt, g_ix20, g_ix21, g_ix30, g_ix31, g_ix32, g_sortL, w_ssetL, w_ssetT, w_lsetT, Bool.not_true, Bool.not_false, List.length_map, Option.bind_some, scalD, Bool.and_true, Bool.true_and, List.all_cons, List.all_nil,
  Option.some.injEq, Sl.d.injEq, Sl.own.injEq, Sl.scr.injEq, PyData.int.injEq, PyData.bool.injEq, PyData.list.injEq, PyData.tuple.injEq, exists_eq_left', exists_eq_left, exists_eq', exists_eq, exists_and_left, true_and, and_true, if_true, if_false, ite_true, ite_false,
  allS, Nat.reduceAdd, Nat.reduceBEq, Bool.or_false, Bool.or_true, Bool.false_or, Bool.true_or, Bool.false_eq_true, reduceIte, reduceCtorEq, List.length_cons, List.length_nil, Int.reduceEq, decide_eq_true_eq, decide_eq_false_iff_not, one_ne_zero, not_false_eq_true,
  startE, List.map_cons, List.map_nil, slOf, List.replicate_zero, List.replicate_succ, List.cons_append, List.nil_append, Nat.reduceSub, forall_const, false_implies, implies_true])
local macro_rules | `(tactic| walk_at "evb") => `(tactic| simp only [isa_T, isa_I, isa_B, ty_T, ty_I, g_eqN, g_eqI, g_neI, w_sset2, w_lc2, w_zip, w_d0, evB, evS, evTL, evTFL, evCL, evE, evEs, evF, evI, evC, evO, evG, O2.g, B1.g, F1.g,
  w_k, w_v, w_2, w_tup, w_fr, w_lst, w_nil, w_cons, w_and, w_or, w_not, w_neg, w_if, w_ch, w_call, w_callF, w_isa, w_tyis, w_o0, w_o1, w_sl, w_sset, w_lset, w_lrg, w_pix, w_lenS, w_fn, w_gn, w_gd, w_gp, w_it, w_enum, w_rng1, w_lc, w_sc, w_fz, w_pop, w_scF, w_fzF,
  w_next, w_seq, w_ret, w_drop, w_asg, w_ifS, w_own, w_lcD, w_cmO, w_cmD, w_par, w_app, w_ext, w_pset, w_for, w_forR, W_some, W_none, W_ite,
  List.getElem?_cons_zero, List.getElem?_cons_succ, List.getElem?_nil, frzBy, frz1, List.contains_nil, List.contains_cons, as_nm, as_tup, as_nil, w_asTs, penD, penPut, List.set_cons_zero, List.set_cons_succ, wipeE,
  items_l, items_t, g_add, g_sub, g_mod, g_fdiv, g_mul, g_pow, g_lt, g_le, g_gt, g_ge, g_lenL, g_lenT, g_int1, g_min, g_max, g_tupL, g_tupT, g_listL, g_listT, isa_ii, isa_ib, isa_tt, g_ix20, g_ix21, g_ix30, g_ix31, g_ix32, g_sortL, w_ssetL, w_ssetT, w_lsetT, Bool.not_true, Bool.not_false, List.length_map, Option.bind_some, scalD, Bool.and_true, Bool.true_and, List.all_cons, List.all_nil,
  Option.some.injEq, Sl.d.injEq, Sl.own.injEq, Sl.scr.injEq, PyData.int.injEq, PyData.bool.injEq, PyData.list.injEq, PyData.tuple.injEq, exists_eq_left', exists_eq_left, exists_eq', exists_eq, exists_and_left, true_and, and_true, if_true, if_false, ite_true, ite_false,
  allS, Nat.reduceAdd, Nat.reduceBEq, Bool.or_false, Bool.or_true, Bool.false_or, Bool.true_or, Bool.false_eq_true, reduceIte, reduceCtorEq, List.length_cons, List.length_nil, Int.reduceEq, decide_eq_true_eq, decide_eq_false_iff_not, one_ne_zero, not_false_eq_true,
  startE, List.map_cons, List.map_nil, slOf, List.replicate_zero, List.replicate_succ, List.cons_append, List.nil_append, Nat.reduceSub, forall_const, false_implies, implies_true])
def inA (as : List (List Int)) (part : List Int) (x : Int) : Bool := part.any fun i => decide (x ∈ as.getD i.toNat [])
def want (hd : List Int) (as : List (List Int)) (rs : List Rl) (part : List Int) : List Int := (sett hd rs).filter (inA as part)
def cov (hd : List Int) (as : List (List Int)) (rs : List Rl) (t : Nat) (part : List Int) : Bool := (want hd as rs part).all fun x => decide (x ∈ srtU (clo rs (as.getD t [])))
structure PIn (as : List (List Int)) (part : List Int) : Prop where
  len : part.length ≤ 5
  at_ : ∀ i ∈ part, 0 ≤ i ∧ i < as.length
theorem Q4.sett_len {hd : List Int} {as : List (List Int)} {rs : List Rl} (h : Q4 hd as rs) : (sett hd rs).length ≤ 100 := by
  have h1 := srtU_le (clo rs hd)
  have h2 := clo_len (xs := hd) h.nr
  have h3 := h.hd7
  show (srtU (clo rs hd)).length ≤ 100
  omega
def SpSettledIn (f : Fn) : Prop := ∀ hd as rs part st, Q4 hd as rs → PIn as part → W (f [.d (dQ hd as), .d (dRs rs), .d (.tuple (dInts part))] st) fun r => r = (.tuple (dInts (want hd as rs part)), st)
theorem settledIn_ok {Φ : Nat → Fn} {k : Nat} (h39 : SpSettled (Φ 39)) (h43 : SpTouches (Φ 43)) : SpSettledIn (fnOf 3 4 k Φ sl_settled_in) := fun hd as rs part st h hp => by
  refine (w_fnOf rfl).mpr ?_
  have hsl := h.sett_len
  unfold sl_settled_in
  walk_at "ev"
  refine W_mono (h39 hd as rs st h) ?_
  rintro _ rfl
  walk_at "ev"
  refine ⟨by rw [show LIM = 1000000 from rfl]; omega, ?_⟩
  rw [filtI (p := inA as part)]
  · rw [W_some]
    rfl
  · intro y hy
    walk_at "ev"
    refine ⟨by decide, ?_⟩
    refine W_mono (h43 hd as part [y] (.tuple [.int y]) st rfl (by show 1 ≤ 100; decide) hp.len hp.at_) ?_
    rintro _ rfl
    have e : touchB as part [y] = inA as part y := by
      unfold touchB inA
      simp
    rw [e]
theorem at_nat {as : List (List Int)} {t : Nat} (h : t < as.length) : as[Int.toNat (t : Int)]? = some (as.getD t []) := by
  rw [Int.toNat_natCast, List.getElem?_eq_getElem h, getD_lt h]
def SpCover (f : Fn) : Prop := ∀ hd as rs (t : Nat) part st, Q4 hd as rs → t < as.length → PIn as part → W (f [.d (dQ hd as), .d (dRs rs), .d (.int t), .d (.tuple (dInts part))] st) fun r => r = (.bool (cov hd as rs t part), st)
theorem cover_ok {Φ : Nat → Fn} {k : Nat} (h0 : SpHas (Φ 0)) (h3 : SpCloOf (Φ 3)) (h44 : SpSettledIn (Φ 44)) : SpCover (fnOf 4 4 k Φ sl_does_cover) := fun hd as rs t part st h ht hp => by
  refine (w_fnOf rfl).mpr ?_
  have hsl := h.sett_len
  have ha := at_nat ht
  have eQ : dQ hd as = .tuple [.tuple (dInts hd), .tuple (dAts as)] := rfl
  unfold sl_does_cover
  rw [eQ]
  walk_at "ev"
  refine g_ixA (by omega) (by omega) ha ?_
  have ha4 := (h.q.at_ (as.getD t []) (List.mem_of_getElem? ha)).len
  refine W_mono (h3 _ rs (as.getD t []) _ st (h.rin items_t (by omega))) ?_
  rintro _ rfl
  refine W_mono (h44 hd as rs part st h hp) ?_
  rintro _ rfl
  have hw : (want hd as rs part).length ≤ 100 := Nat.le_trans (List.length_filter_le _ _) hsl
  exact h0 _ _ (srtU (clo rs (as.getD t []))) (want hd as rs part) st items_t items_t (by omega)
theorem fm_len {f : Int → List Int} {k : Nat} (h : ∀ i, (f i).length ≤ k) : ∀ l : List Int, (l.flatMap f).length ≤ k * l.length
  | [] => Nat.zero_le _
  | i :: l => by
    have h1 := h i
    have h2 := fm_len h l
    rw [List.flatMap_cons, List.length_append, List.length_cons, Nat.mul_add]
    omega
theorem at4 {hd : List Int} {as : List (List Int)} (q : QOk 5 4 hd as) (t : Nat) : (as.getD t []).length ≤ 4 := by
  by_cases ht : t < as.length
  · have := (q.at_ (as.getD t []) (List.mem_of_getElem? (at_nat ht))).len
    omega
  · rw [getD_ge (by omega)]; exact Nat.zero_le _
def SpLWanted (f : Fn) : Prop := ∀ hd as rs part st, Q4 hd as rs → PIn as part → W (f [.d (dQ hd as), .d (dRs rs), .d (.tuple (dInts part))] st) fun r => r = (.list (dInts (want hd as rs part)), st)
theorem lWanted_ok {Φ : Nat → Fn} {k : Nat} (h49 : SpLSettled (Φ 49)) : SpLWanted (fnOf 3 6 k Φ sl_law_wanted) := fun hd as rs part st h hp => by
  refine (w_fnOf rfl).mpr ?_
  have hsl := h.sett_len
  have eQ : dQ hd as = .tuple [.tuple (dInts hd), .tuple (dAts as)] := rfl
  unfold sl_law_wanted
  walk_at "ev"
  refine ⟨by decide, ?_⟩
  refine loopI (I := fun ds Γ st1 => ∃ done rest l4 l5, part = done ++ rest ∧ ds = dInts rest ∧ st1 = st ∧ Γ = [some (.d (dQ hd as)), some (.d (dRs rs)), some (.d (.tuple (dInts part))), some (.own (dInts (done.flatMap fun i => as.getD i.toNat []))), l4, l5]) ?_ ?_ _ _ _ ⟨[], part, _, _, rfl, rfl, rfl, rfl⟩
  · rintro d ds Γ st1 ⟨done, rest, l4, l5, e1, e2, rfl, rfl⟩
    cases rest with
    | nil => cases e2
    | cons i rest =>
      obtain ⟨rfl, rfl⟩ := List.cons.inj e2
      have hi := hp.at_ i (by rw [e1]; simp)
      have ha := at_nat (as := as) (t := i.toNat) (by omega)
      rw [show ((i.toNat : Nat) : Int) = i by omega] at ha
      rw [eQ]
      walk_at "ev"
      refine g_ixA hi.1 hi.2 ha ?_
      walk_at "ev"
      have hda := fm_len (f := fun i : Int => as.getD i.toNat []) (k := 4) (fun i => at4 h.q i.toNat) done
      have hi4 := at4 h.q i.toNat
      have hdl : done.length ≤ 5 := by
        have := congrArg List.length e1
        rw [List.length_append] at this
        have := hp.len
        omega
      have e : dInts (done.flatMap fun i => as.getD i.toNat []) ++ dInts (as.getD i.toNat []) = dInts ((done ++ [i]).flatMap fun i => as.getD i.toNat []) := by
        rw [List.flatMap_append, dInts, dInts, dInts, List.map_append]
        simp
      rw [e]
      refine ⟨by rw [show LIM = 1000000 from rfl]; omega, done ++ [i], rest, by rw [e1, List.append_assoc]; rfl, rfl, _, _, rfl⟩
  · rintro Γ st1 ⟨done, rest, l4, l5, e1, e2, rfl, rfl⟩
    have : rest = [] := by
      cases rest with
      | nil => rfl
      | cons a r => cases e2
    subst this
    rw [List.append_nil] at e1
    subst e1
    walk_at "ev"
    refine W_mono (h49 hd as rs st1 h) ?_
    rintro _ rfl
    walk_at "ev"
    refine ⟨by rw [show LIM = 1000000 from rfl]; omega, ?_⟩
    rw [filtI (p := inA as part)]
    · rw [W_some]
      rfl
    · intro y hy
      walk_at "ev"
      rw [g_inI items_l]
      have e : decide (y ∈ part.flatMap fun i => as.getD i.toNat []) = inA as part y := by
        unfold inA
        rw [Bool.eq_iff_iff, decide_eq_true_eq, List.mem_flatMap, List.any_eq_true]
        simp
      rw [e]
def SpLCovers (f : Fn) : Prop := ∀ hd as rs (t : Nat) part st, Q4 hd as rs → t < as.length → PIn as part → W (f [.d (dQ hd as), .d (dRs rs), .d (.int t), .d (.tuple (dInts part))] st) fun r => r = (.bool (cov hd as rs t part), st)
theorem lCovers_ok {Φ : Nat → Fn} {k : Nat} (h16 : SpLClo (Φ 16)) (h51 : SpLWanted (Φ 51)) : SpLCovers (fnOf 4 6 k Φ sl_law_covers) := fun hd as rs t part st h ht hp => by
  refine (w_fnOf rfl).mpr ?_
  have hsl := h.sett_len
  have ha := at_nat ht
  have eQ : dQ hd as = .tuple [.tuple (dInts hd), .tuple (dAts as)] := rfl
  unfold sl_law_covers
  rw [eQ]
  walk_at "ev"
  refine g_ixA (by omega) (by omega) ha ?_
  have ha4 := (h.q.at_ (as.getD t []) (List.mem_of_getElem? ha)).len
  refine W_mono (h16 rs (as.getD t []) _ st (h.rin items_t (by omega))) ?_
  rintro _ rfl
  walk_at "ev"
  refine W_mono (h51 hd as rs part st h hp) ?_
  rintro _ rfl
  have hw : (want hd as rs part).length ≤ 100 := Nat.le_trans (List.length_filter_le _ _) hsl
  walk_at "ev"
  refine ⟨by rw [show LIM = 1000000 from rfl]; omega, ?_⟩
  rw [filtI (p := fun x => decide (x ∉ srtU (clo rs (as.getD t []))))]
  · rw [W_some]
    refine ⟨by decide, ?_⟩
    rw [g_eqL0]
    have e : decide ((want hd as rs part).filter (fun x => decide (x ∉ srtU (clo rs (as.getD t [])))) = []) = cov hd as rs t part := by
      unfold cov
      rw [Bool.eq_iff_iff, decide_eq_true_eq, List.filter_eq_nil_iff, List.all_eq_true]
      simp
    rw [e]
  · intro y hy
    walk_at "ev"
    rw [g_notInI items_l]
    simp
/-! headed queries -/
def covs (hd : List Int) (as : List (List Int)) (rs : List Rl) (part : List Int) : Bool := (List.range as.length).any fun t => cov hd as rs t part
def SpCovered (f : Fn) : Prop := ∀ hd as rs part st, Q4 hd as rs → PIn as part → W (f [.d (dQ hd as), .d (dRs rs), .d (.tuple (dInts part))] st) fun r => r = (.bool (covs hd as rs part), st)
theorem covered_ok {Φ : Nat → Fn} {k : Nat} (h45 : SpCover (Φ 45)) : SpCovered (fnOf 3 4 k Φ sl_is_covered) := fun hd as rs part st h hp => by
  refine (w_fnOf rfl).mpr ?_
  have hl := h.q.len
  have hA : (dAts as).length = as.length := List.length_map ..
  have eQ : dQ hd as = .tuple [.tuple (dInts hd), .tuple (dAts as)] := rfl
  unfold sl_is_covered
  rw [eQ]
  walk_at "evb"
  refine ⟨by omega, by rw [rng_len, show LIM = 1000000 from rfl]; omega, ?_⟩
  rw [lcAll (p := fun d => match d with
    | .int i => cov hd as rs i.toNat part
    | _ => false)]
  · rw [W_some, g_anyB, rngD_ints, show Int.toNat ((dAts as).length : Nat) = as.length by omega]
    simp only [dInts, List.map_map, List.any_map, Function.comp_def, Int.toNat_natCast, id_eq]
    rfl
  · intro d hd'
    rw [rngD_ints] at hd'
    obtain ⟨i, hi, rfl⟩ := List.mem_map.mp hd'
    obtain ⟨t, ht, rfl⟩ := List.mem_map.mp hi
    have ht := List.mem_range.mp ht
    walk_at "evb"
    refine W_mono (h45 hd as rs t part st h (by omega) hp) ?_
    rintro _ rfl
    simp only [Int.toNat_natCast]
abbrev PS (hd : List Int) (as : List (List Int)) (rs : List Rl) : List (List Int) := partsP (adjA (opn hd as rs) as) as.length
theorem ps_in {hd : List Int} {as : List (List Int)} {rs : List Rl} (h : Q4 hd as rs) : ∀ p ∈ PS hd as rs, PIn as p := fun p hp => by
  have hl := h.q.len
  have hj := join_ok (adjA (opn hd as rs) as) as.length
  have hp := (srtL_perm _).mem_iff.mp hp
  exact ⟨by have := hj.l hp; omega, (hj.at_ p hp).2⟩
theorem ps_n {hd : List Int} {as : List (List Int)} {rs : List Rl} (h : Q4 hd as rs) : (PS hd as rs).length ≤ 5 := by
  have hl := h.q.len
  have hj := (join_ok (adjA (opn hd as rs) as) as.length).n
  show (srtL _).length ≤ 5
  rw [(srtL_perm _).length_eq]
  show (joinP _ _).length ≤ 5
  omega
theorem ps_same {hd : List Int} {as : List (List Int)} {rs : List Rl} (h : Q4 hd as rs) : partsL (adjA (opn hd as rs) as) as.length = PS hd as rs := by
  have hl := h.q.len
  have hn := List.length_pos_iff.mpr h.q.ne
  exact (parts_same (adjA_ok _ _) (by omega) (by omega)).symm
def hed (hd : List Int) (as : List (List Int)) (rs : List Rl) : Bool := (PS hd as rs).all (covs hd as rs)
def SpHeaded (f : Fn) : Prop := ∀ hd as rs st, Q4 hd as rs → W (f [.d (dQ hd as), .d (dRs rs)] st) fun r => r = (.bool (hed hd as rs), st)
theorem headed_ok {Φ : Nat → Fn} {k : Nat} (h41 : SpParts (Φ 41)) (h47 : SpCovered (Φ 47)) : SpHeaded (fnOf 2 3 k Φ sl_is_headed) := fun hd as rs st h => by
  refine (w_fnOf rfl).mpr ?_
  have hn : (partsP (adjA (opn hd as rs) as) as.length).length ≤ 5 := ps_n h
  unfold sl_is_headed
  walk_at "evb"
  refine W_mono (h41 hd as rs st h) ?_
  rintro _ rfl
  walk_at "evb"
  refine ⟨by rw [show LIM = 1000000 from rfl]; omega, ?_⟩
  rw [lcAll (p := fun d => covs hd as rs (plI d))]
  · rw [W_some, g_allB]
    simp only [dTs, List.map_map, List.all_map, Function.comp_def, id_eq]
    have e : ∀ p : List Int, plI (dTup p) = p := fun p => by simp only [plI, intsD_map, Option.getD_some]
    simp only [e]
    rfl
  · intro d hd'
    obtain ⟨p, hp, rfl⟩ := List.mem_map.mp hd'
    have e : plI (dTup p) = p := by simp only [plI, intsD_map, Option.getD_some]
    walk_at "evb"
    refine W_mono (h47 hd as rs p st h (ps_in h p hp)) ?_
    rintro _ rfl
    rw [show plI (PyData.tuple (List.map PyData.int p)) = p from e]
def SpLCoverers (f : Fn) : Prop := ∀ hd as rs part st, Q4 hd as rs → PIn as part → W (f [.d (dQ hd as), .d (dRs rs), .d (.tuple (dInts part))] st) fun r => r = (.list (dInts (((List.range as.length).map fun i : Nat => (i : Int)).filter fun t => cov hd as rs t.toNat part)), st)
theorem lCoverers_ok {Φ : Nat → Fn} {k : Nat} (h52 : SpLCovers (Φ 52)) : SpLCoverers (fnOf 3 4 k Φ sl_law_coverers) := fun hd as rs part st h hp => by
  refine (w_fnOf rfl).mpr ?_
  have hl := h.q.len
  have hA : (dAts as).length = as.length := List.length_map ..
  have eQ : dQ hd as = .tuple [.tuple (dInts hd), .tuple (dAts as)] := rfl
  unfold sl_law_coverers
  rw [eQ]
  walk_at "ev"
  refine ⟨by omega, by rw [rng_len, show LIM = 1000000 from rfl]; omega, ?_⟩
  rw [rngD_ints, show Int.toNat ((dAts as).length : Nat) = as.length by omega, filtI (p := fun t => cov hd as rs t.toNat part)]
  · rw [W_some]
  · intro y hy
    obtain ⟨t, ht, rfl⟩ := List.mem_map.mp hy
    have ht := List.mem_range.mp ht
    walk_at "ev"
    exact h52 hd as rs t part st h ht hp
theorem g_eqT0 {ks : List (List Int)} {Q : PyData → Prop} : W (gEq (.list (dTs ks)) (.list [])) Q ↔ Q (.bool (decide (ks = []))) := by
  have e : gEq (.list (dTs ks)) (.list []) = some (.bool (decide (ks = []))) := by
    have h0 : SeqAt.shaped (.list []) = true := shaped_ls (ks := [])
    unfold gEq
    simp only [strs2, nilT, shaped_ls, h0, Bool.and_self, if_true, PyData.eqv]
    cases ks with
    | nil => simp [PyData.eqvAll]
    | cons k ks => simp [dTs, PyData.eqvAll]
  rw [e, W_some]
def SpLHeaded (f : Fn) : Prop := SpHeaded f
theorem lHeaded_ok {Φ : Nat → Fn} {k : Nat} (h50 : SpLParts (Φ 50)) (h53 : SpLCoverers (Φ 53)) : SpLHeaded (fnOf 2 3 k Φ sl_law_is_headed) := fun hd as rs st h => by
  refine (w_fnOf rfl).mpr ?_
  have hn : (partsP (adjA (opn hd as rs) as) as.length).length ≤ 5 := ps_n h
  have hn2 : (PS hd as rs).length ≤ 5 := ps_n h
  unfold sl_law_is_headed
  walk_at "ev"
  refine W_mono (h50 hd as rs st h) ?_
  rintro _ rfl
  rw [ps_same h]
  walk_at "ev"
  refine ⟨by rw [show LIM = 1000000 from rfl]; omega, ?_⟩
  rw [filtT (p := fun p => !covs hd as rs p)]
  · rw [W_some]
    refine ⟨by decide, ?_⟩
    rw [g_eqT0]
    have e : decide ((PS hd as rs).filter (fun p => !covs hd as rs p) = []) = hed hd as rs := by
      unfold hed
      rw [Bool.eq_iff_iff, decide_eq_true_eq, List.filter_eq_nil_iff, List.all_eq_true]
      simp
    rw [e]
  · intro p hp
    walk_at "ev"
    refine W_mono (h53 hd as rs p st h (ps_in h p hp)) ?_
    rintro _ rfl
    walk_at "ev"
    refine ⟨by decide, ?_⟩
    rw [g_eqL0]
    have e : decide ((((List.range as.length).map fun i : Nat => (i : Int)).filter fun t => cov hd as rs t.toNat p) = []) = !covs hd as rs p := by
      unfold covs
      rw [Bool.eq_iff_iff, decide_eq_true_eq, List.filter_eq_nil_iff, Bool.not_eq_true', List.any_eq_false]
      simp
    rw [e]
end Mn
namespace Mn
open PySem PySem.Spec PyProof.Rows L2
local macro_rules | `(tactic| walk_at "ev") => `(tactic| simp (maxSteps := 10000000) only [g_addL, Nat.reduceLeDiff, isa_T, isa_I, isa_B, ty_T, ty_I, g_eqN, g_eqI, g_neI, w_sset2, w_lc2, w_zip, w_d0, evB, evS, evTL, evTFL, evCL, evE, evEs, evF, evI, evC, evO, evG, O2.g, B1.g, F1.g,
  w_k, w_v, w_2, w_tup, w_fr, w_lst, w_nil, w_cons, w_not, w_neg, w_call, w_callF, w_isa, w_tyis, w_o0, w_o1, w_sl, w_sset, w_lset, w_lrg, w_pix, w_lenS, w_fn, w_gn, w_gd, w_gp, w_it, w_enum, w_rng1, w_lc, w_sc, w_fz, w_pop, w_scF, w_fzF,
  w_next, w_seq, w_ret, w_drop, w_asg, w_ifS, w_own, w_lcD, w_cmO, w_cmD, w_par, w_app, w_ext, w_pset, w_for, w_forR, W_some, W_none, W_ite,
  List.getElem?_cons_zero, List.getElem?_cons_succ, List.getElem?_nil, frzBy, frz1, List.contains_nil, List.contains_cons, as_nm, as_tup, as_nil, w_asTs, penD, penPut, List.set_cons_zero, List.set_cons_succ, wipeE,
  items_l, items_t, g_add, g_sub, g_mod, g_fdiv, g_mul, g_pow, g_lt, g_le, g_gt, g_ge, g_lenL, g_lenT, g_int1, g_min, g_max, g_tupL, g_tupT, g_listL, g_listT, isa_ii, isa_ib, isa_tt, g_ix20, g_ix21, g_ix30, g_ix31, g_ix32, g_sortL, w_ssetL, w_ssetT, w_lsetT, Bool.not_true, Bool.not_false, List.length_map, Option.bind_some, scalD, Bool.and_true, Bool.true_and, List.all_cons, List.all_nil,
  Option.some.injEq, Sl.d.injEq, Sl.own.injEq, Sl.scr.injEq, PyData.int.injEq, PyData.bool.injEq, PyData.list.injEq, PyData.tuple.injEq, exists_eq_left', exists_eq_left, exists_eq', exists_eq, exists_and_left, true_and, and_true, if_true, if_false, ite_true, ite_false,
  allS, Nat.reduceAdd, Nat.reduceBEq, Bool.or_false, Bool.or_true, Bool.false_or, Bool.true_or, Bool.false_eq_true, reduceIte, reduceCtorEq, List.length_cons, List.length_nil, Int.reduceEq, decide_eq_true_eq, decide_eq_false_iff_not, one_ne_zero, not_false_eq_true,
  startE, List.map_cons, List.map_nil, slOf, List.replicate_zero, List.replicate_succ, List.cons_append, List.nil_append, Nat.reduceSub, forall_const, false_implies, implies_true])
local macro_rules | `(tactic| walk_at "evb") => `(tactic| simp (maxSteps := 10000000) only [g_addL, Nat.reduceLeDiff, isa_T, isa_I, isa_B, ty_T, ty_I, g_eqN, g_eqI, g_neI, w_sset2, w_lc2, w_zip, w_d0, evB, evS, evTL, evTFL, evCL, evE, evEs, evF, evI, evC, evO, evG, O2.g, B1.g, F1.g,
  w_k, w_v, w_2, w_tup, w_fr, w_lst, w_nil, w_cons, w_and, w_or, w_not, w_neg, w_if, w_ch, w_call, w_callF, w_isa, w_tyis, w_o0, w_o1, w_sl, w_sset, w_lset, w_lrg, w_pix, w_lenS, w_fn, w_gn, w_gd, w_gp, w_it, w_enum, w_rng1, w_lc, w_sc, w_fz, w_pop, w_scF, w_fzF,
  w_next, w_seq, w_ret, w_drop, w_asg, w_ifS, w_own, w_lcD, w_cmO, w_cmD, w_par, w_app, w_ext, w_pset, w_for, w_forR, W_some, W_none, W_ite,
  List.getElem?_cons_zero, List.getElem?_cons_succ, List.getElem?_nil, frzBy, frz1, List.contains_nil, List.contains_cons, as_nm, as_tup, as_nil, w_asTs, penD, penPut, List.set_cons_zero, List.set_cons_succ, wipeE,
  items_l, items_t, g_add, g_sub, g_mod, g_fdiv, g_mul, g_pow, g_lt, g_le, g_gt, g_ge, g_lenL, g_lenT, g_int1, g_min, g_max, g_tupL, g_tupT, g_listL, g_listT, isa_ii, isa_ib, isa_tt, g_ix20, g_ix21, g_ix30, g_ix31, g_ix32, g_sortL, w_ssetL, w_ssetT, w_lsetT, Bool.not_true, Bool.not_false, List.length_map, Option.bind_some, scalD, Bool.and_true, Bool.true_and, List.all_cons, List.all_nil,
  Option.some.injEq, Sl.d.injEq, Sl.own.injEq, Sl.scr.injEq, PyData.int.injEq, PyData.bool.injEq, PyData.list.injEq, PyData.tuple.injEq, exists_eq_left', exists_eq_left, exists_eq', exists_eq, exists_and_left, true_and, and_true, if_true, if_false, ite_true, ite_false,
  allS, Nat.reduceAdd, Nat.reduceBEq, Bool.or_false, Bool.or_true, Bool.false_or, Bool.true_or, Bool.false_eq_true, reduceIte, reduceCtorEq, List.length_cons, List.length_nil, Int.reduceEq, decide_eq_true_eq, decide_eq_false_iff_not, one_ne_zero, not_false_eq_true,
  startE, List.map_cons, List.map_nil, slOf, List.replicate_zero, List.replicate_succ, List.cons_append, List.nil_append, Nat.reduceSub, forall_const, false_implies, implies_true])
/-! queries by hand -/
theorem g_neT0 {ks : List (List Int)} {Q : PyData → Prop} : W (gNe (.list (dTs ks)) (.list [])) Q ↔ Q (.bool (!decide (ks = []))) := by
  have e : gNe (.list (dTs ks)) (.list []) = some (.bool (!decide (ks = []))) := by
    have h0 : SeqAt.shaped (.list []) = true := shaped_ls (ks := [])
    unfold gNe
    simp only [strs2, nilT, shaped_ls, h0, Bool.and_self, if_true, PyData.eqv]
    cases ks with
    | nil => simp [PyData.eqvAll]
    | cons k ks => simp [dTs, PyData.eqvAll]
  rw [e, W_some]
theorem dTs_get {zs : List (List Int)} {j : Nat} (h : j < zs.length) : (dTs zs)[j]? = some (dTup zs[j]) := by
  rw [List.getElem?_map, List.getElem?_eq_getElem h]
  rfl
theorem dTs_erase : ∀ (zs : List (List Int)) (j : Nat), (dTs zs).eraseIdx j = dTs (zs.eraseIdx j)
  | [], _ => rfl
  | z :: zs, 0 => rfl
  | z :: zs, j + 1 => by
    have := dTs_erase zs j
    simp only [dTs, List.map_cons, List.eraseIdx_cons_succ] at this ⊢
    rw [this]
theorem lim_eq : LIM = 1000000 := rfl
theorem popAll {Φ : Nat → Fn} (h : SpDraw (Φ 7)) {l1 l2 l3 : Option Sl} {as : List (List Int)} (hl : as.length ≤ 5) : ∀ (n : Nat) (ys zs : List (List Int)) (st : Pn), (ys ++ zs).Perm as → zs.length < n →
    W (esWhile n (ev2 gNe (evV 4) (evFr (evLst evNil))) (esSeq (esApp 5 (evPop 4 (evSc (evFn (Φ 7) (evGP 0 (evGD (evCall gLen (evCons (evV 4) evNil)) evGN)))))) esNext) [some .pen, l1, l2, l3, some (.own (dTs zs)), some (.own (dTs ys))] st)
      fun r => ∃ ys st1, r = .nx [some .pen, l1, l2, l3, some (.own []), some (.own (dTs ys))] st1 ∧ ys.Perm as
  | 0, _, _, _, _, h => by omega
  | n + 1, ys, zs, st, hp, hn => by
    have hxl := hp.length_eq
    rw [List.length_append] at hxl
    refine w_while.mpr ?_
    walk_at "ev"
    refine ⟨by decide, ?_⟩
    rw [g_neT0]
    refine ⟨_, rfl, fun hz => ?_, fun hz => ?_⟩
    · have : zs = [] := by simpa using hz
      subst this
      rw [List.append_nil] at hp
      exact ⟨ys, st, rfl, hp⟩
    · have hne : zs ≠ [] := by simpa using hz
      have h0 := List.length_pos_iff.mpr hne
      refine W_mono (h zs.length st (by omega) (by omega)) fun r ⟨z, hz1, z0, z1⟩ => ?_
      rw [hz1]
      walk_at "ev"
      have hj : z.toNat < zs.length := by omega
      rw [ixN_ok z0 z1, W_some, dTs_get hj, W_some]
      rw [dTs_erase, show dTs ys ++ [dTup zs[z.toNat]] = dTs (ys ++ [zs[z.toNat]]) from by rw [dTs, dTs, List.map_append]; rfl]
      refine ⟨by rw [lim_eq]; omega, by rw [lim_eq]; omega, ?_⟩
      refine popAll h hl n (ys ++ [zs[z.toNat]]) (zs.eraseIdx z.toNat) r.2 ?_ ?_
      · rw [List.append_assoc]
        exact ((erase_permA zs _ hj).append_left ys).trans hp
      · rw [List.length_eraseIdx, if_pos hj]; omega
theorem QOk.perm {m w : Int} {hd : List Int} {as bs : List (List Int)} (q : QOk m w hd as) (p : bs.Perm as) : QOk m w hd bs where
  ne := fun e => q.ne (by rw [e] at p; exact List.Perm.eq_nil p.symm)
  len := by rw [p.length_eq]; exact q.len
  at_ := fun a ha => q.at_ a (p.mem_iff.mp ha)
  asc := q.asc
  sub := fun x hx => (p.flatten.mem_iff).mpr (q.sub x hx)
def qokB (hd : List Int) (as : List (List Int)) : Bool := decide (as ≠ []) && (decide (as.length ≤ 5) && ((as.all fun a => decide (a ≠ []) && (decide (a.length ≤ 4) && (decide a.Nodup && a.all fun x => decide (0 ≤ x ∧ x < 7)))) && (decide (hd.Pairwise (· < ·)) && hd.all fun x => decide (x ∈ as.flatten))))
theorem qokB_ok {hd : List Int} {as : List (List Int)} (h : qokB hd as = true) : QOk 5 4 hd as := by
  simp only [qokB, Bool.and_eq_true, decide_eq_true_eq, List.all_eq_true] at h
  obtain ⟨h1, h2, h3, h4, h5⟩ := h
  exact ⟨h1, by omega, fun a ha => by
    obtain ⟨a1, a2, a3, a4⟩ := h3 a ha
    exact ⟨a1, by omega, a3, a4⟩, h4, h5⟩
theorem known_of {d : PyData} (h : d ∈ [dQ [0, 1] [[0, 2], [2, 1]], dQ [0] [[0, 2], [2, 1]], dQ [0, 1] [[0, 2], [2, 1], [0, 1]], dQ [0, 1, 2] [[0, 3], [1, 3], [2, 3]], dQ [0, 1] [[0, 2], [2, 3], [3, 1]], dQ [0, 1] [[0], [1]], dQ [0, 1] [[0, 2], [2, 1], [1, 3], [3, 0]], dQ [0, 2] [[0, 1], [1, 2], [1]], dQ [] [[0], [0, 1]]]) : ∃ hd as, d = dQ hd as ∧ QOk 5 4 hd as := by
  simp only [List.mem_cons, List.not_mem_nil, or_false] at h
  rcases h with rfl | rfl | rfl | rfl | rfl | rfl | rfl | rfl | rfl <;> exact ⟨_, _, rfl, qokB_ok (by decide +kernel)⟩
local macro_rules | `(tactic| walk_at "ev") => `(tactic| simp (maxSteps := 10000000) only [g_addL, lim_eq, Nat.reduceLeDiff, isa_T, isa_I, isa_B, ty_T, ty_I, g_eqN, g_eqI, g_neI, w_sset2, w_lc2, w_zip, w_d0, evB, evS, evTL, evTFL, evCL, evE, evEs, evF, evI, evC, evO, evG, O2.g, B1.g, F1.g,
  w_k, w_v, w_2, w_tup, w_fr, w_lst, w_nil, w_cons, w_not, w_neg, w_call, w_callF, w_isa, w_tyis, w_o0, w_o1, w_sl, w_sset, w_lset, w_lrg, w_pix, w_lenS, w_fn, w_gn, w_gd, w_gp, w_it, w_enum, w_rng1, w_lc, w_sc, w_fz, w_pop, w_scF, w_fzF,
  w_next, w_seq, w_ret, w_drop, w_asg, w_ifS, w_own, w_lcD, w_cmO, w_cmD, w_par, w_app, w_ext, w_pset, w_for, w_forR, W_some, W_none, W_ite,
  List.getElem?_cons_zero, List.getElem?_cons_succ, List.getElem?_nil, frzBy, frz1, List.contains_nil, List.contains_cons, as_nm, as_tup, as_nil, w_asTs, penD, penPut, List.set_cons_zero, List.set_cons_succ, wipeE,
  items_l, items_t, g_add, g_sub, g_mod, g_fdiv, g_mul, g_pow, g_lt, g_le, g_gt, g_ge, g_lenL, g_lenT, g_int1, g_min, g_max, g_tupL, g_tupT, g_listL, g_listT, isa_ii, isa_ib, isa_tt, g_ix20, g_ix21, g_ix30, g_ix31, g_ix32, g_sortL, w_ssetL, w_ssetT, w_lsetT, Bool.not_true, Bool.not_false, List.length_map, Option.bind_some, scalD, Bool.and_true, Bool.true_and, List.all_cons, List.all_nil,
  Option.some.injEq, Sl.d.injEq, Sl.own.injEq, Sl.scr.injEq, PyData.int.injEq, PyData.bool.injEq, PyData.list.injEq, PyData.tuple.injEq, exists_eq_left', exists_eq_left, exists_eq', exists_eq, exists_and_left, true_and, and_true, if_true, if_false, ite_true, ite_false,
  allS, Nat.reduceAdd, Nat.reduceBEq, Bool.or_false, Bool.or_true, Bool.false_or, Bool.true_or, Bool.false_eq_true, reduceIte, reduceCtorEq, List.length_cons, List.length_nil, Int.reduceEq, decide_eq_true_eq, decide_eq_false_iff_not, one_ne_zero, not_false_eq_true,
  startE, List.map_cons, List.map_nil, slOf, List.replicate_zero, List.replicate_succ, List.cons_append, List.nil_append, Nat.reduceSub, forall_const, false_implies, implies_true])
local macro_rules | `(tactic| walk_at "evb") => `(tactic| simp (maxSteps := 10000000) only [g_addL, lim_eq, Nat.reduceLeDiff, isa_T, isa_I, isa_B, ty_T, ty_I, g_eqN, g_eqI, g_neI, w_sset2, w_lc2, w_zip, w_d0, evB, evS, evTL, evTFL, evCL, evE, evEs, evF, evI, evC, evO, evG, O2.g, B1.g, F1.g,
  w_k, w_v, w_2, w_tup, w_fr, w_lst, w_nil, w_cons, w_and, w_or, w_not, w_neg, w_if, w_ch, w_call, w_callF, w_isa, w_tyis, w_o0, w_o1, w_sl, w_sset, w_lset, w_lrg, w_pix, w_lenS, w_fn, w_gn, w_gd, w_gp, w_it, w_enum, w_rng1, w_lc, w_sc, w_fz, w_pop, w_scF, w_fzF,
  w_next, w_seq, w_ret, w_drop, w_asg, w_ifS, w_own, w_lcD, w_cmO, w_cmD, w_par, w_app, w_ext, w_pset, w_for, w_forR, W_some, W_none, W_ite,
  List.getElem?_cons_zero, List.getElem?_cons_succ, List.getElem?_nil, frzBy, frz1, List.contains_nil, List.contains_cons, as_nm, as_tup, as_nil, w_asTs, penD, penPut, List.set_cons_zero, List.set_cons_succ, wipeE,
  items_l, items_t, g_add, g_sub, g_mod, g_fdiv, g_mul, g_pow, g_lt, g_le, g_gt, g_ge, g_lenL, g_lenT, g_int1, g_min, g_max, g_tupL, g_tupT, g_listL, g_listT, isa_ii, isa_ib, isa_tt, g_ix20, g_ix21, g_ix30, g_ix31, g_ix32, g_sortL, w_ssetL, w_ssetT, w_lsetT, Bool.not_true, Bool.not_false, List.length_map, Option.bind_some, scalD, Bool.and_true, Bool.true_and, List.all_cons, List.all_nil,
  Option.some.injEq, Sl.d.injEq, Sl.own.injEq, Sl.scr.injEq, PyData.int.injEq, PyData.bool.injEq, PyData.list.injEq, PyData.tuple.injEq, exists_eq_left', exists_eq_left, exists_eq', exists_eq, exists_and_left, true_and, and_true, if_true, if_false, ite_true, ite_false,
  allS, Nat.reduceAdd, Nat.reduceBEq, Bool.or_false, Bool.or_true, Bool.false_or, Bool.true_or, Bool.false_eq_true, reduceIte, reduceCtorEq, List.length_cons, List.length_nil, Int.reduceEq, decide_eq_true_eq, decide_eq_false_iff_not, one_ne_zero, not_false_eq_true,
  startE, List.map_cons, List.map_nil, slOf, List.replicate_zero, List.replicate_succ, List.cons_append, List.nil_append, Nat.reduceSub, forall_const, false_implies, implies_true])
def SpKnown (f : Fn) : Prop := ∀ st, W (f [.pen] st) fun r => ∃ hd as, r.1 = dQ hd as ∧ QOk 5 4 hd as
theorem known_ok {Φ : Nat → Fn} (h8 : SpOne (Φ 8)) (h7 : SpDraw (Φ 7)) : SpKnown (fnOf 1 6 40 Φ sl_law_known_query) := fun st => by
  refine (w_fnOf rfl).mpr ?_
  unfold sl_law_known_query
  walk_at "ev"
  refine W_mono (h8 _ st (List.cons_ne_nil _ _) (by decide)) ?_
  rintro ⟨d, st2⟩ hm
  obtain ⟨hd, as, e, q⟩ := known_of hm
  have e : d = dQ hd as := e
  subst e
  have hl := q.len
  unfold dQ
  walk_at "ev"
  refine W_mono (popAll h7 (as := as) (by omega) 40 [] as st2 (by rw [List.nil_append]) (by omega)) ?_
  rintro _ ⟨ys, st3, rfl, hp⟩
  walk_at "ev"
  exact ⟨hd, ys, rfl, q.perm hp⟩
theorem Q4.ssm {hd : List Int} {as : List (List Int)} {rs : List Rl} (h : Q4 hd as rs) : Sm (sett hd rs) := by
  refine sm_srtU fun v hv => ?_
  have a : Add rs hd (iter rs 7 hd) := iter_add 7 add_nil
  obtain ⟨E, e, _, hm⟩ := a.ex
  have e : clo rs hd = hd ++ E := e
  rw [e] at hv
  rcases List.mem_append.mp hv with hv | hv
  · exact h.sm v (h.q.sub v hv)
  · obtain ⟨r, hr, rfl⟩ := hm v hv
    exact h.q.sm r.y (h.ok r hr).mem.1
theorem law4 {Φ : Nat → Fn} {W' : Nat} (h7 : SpDraw (Φ 7)) (h13 : SpQuery (Φ 13)) (h48 : SpKnown (Φ 48)) (h15 : SpRules (Φ 15)) (h49 : SpLSettled (Φ 49)) (h10 : SpVars (Φ 10)) (h39 : SpSettled (Φ 39)) (h40 : SpOpen (Φ 40)) (h50 : SpLParts (Φ 50)) (h41 : SpParts (Φ 41)) (h46 : SpHeaded (Φ 46)) (h54 : SpLHeaded (Φ 54)) (h45 : SpCover (Φ 45)) (h52 : SpLCovers (Φ 52)) (ns : List Int) (hns : ns.length ≤ 63) :
    W (evB Φ W' sl_law_k04 (some (.scr ns) :: some .pen :: List.replicate 10 none) ⟨ns, 0, 0⟩) fun r => ∃ st, r = .rt (.bool true) st := by
  unfold sl_law_k04
  walk_at "ev"
  refine ⟨by split <;> split <;> omega, ?_⟩
  refine loopI (I := fun ds Γ st1 => ∃ l2 l3 l4 l5 l6 l7 l8 l9 l10 l11, Γ = [some (.scr ns), some .pen, l2, l3, l4, l5, l6, l7, l8, l9, l10, l11]) ?_ ?_ _ _ _ ⟨none, none, none, none, none, none, none, none, none, none, rfl⟩
  · rintro x ds Γ st1 ⟨l2, l3, l4, l5, l6, l7, l8, l9, l10, l11, rfl⟩
    walk_at "ev"
    refine W_mono (Q := fun p => ∃ hd as, p.1 = dQ hd as ∧ QOk 5 4 hd as) ?_ ?_
    · walk_at "evb"
      refine W_mono (h7 3 st1 (by decide) (by decide)) ?_
      rintro ⟨d, st2⟩ ⟨z, e, z0, z1⟩
      have e : d = .int z := e
      subst e
      walk_at "evb"
      refine ⟨fun _ => ?_, fun _ => ?_⟩
      · exact h13 5 7 4 st2 (by decide) (by decide) (by decide) (by decide) (by decide) (by decide)
      · exact h48 st2
    · rintro ⟨d1, st2⟩ ⟨hd, as, e, q⟩
      have e : d1 = dQ hd as := e
      subst e
      dsimp only
      refine W_mono (h15 5 4 hd as st2 q (by decide) (by decide)) ?_
      rintro ⟨d2, st3⟩ ⟨rs, e, hrl, hro⟩
      have e : d2 = dRs rs := e
      subst e
      have h : Q4 hd as rs := ⟨q, hrl, hro⟩
      have hl := q.len
      obtain ⟨bh, ba, hh, hla⟩ := bd_Q q (by decide) (by decide)
      have hA : (dAts as).length = as.length := List.length_map ..
      have bas : Bd 8 2 25 (.tuple (dAts as)) := bd_list 5 ba (by omega) (by decide)
      have bq : Bd 8 3 40 (dQ hd as) := (bd_pair (bh.up (Nat.le_refl _) (show 1 ≤ 2 by decide) (Nat.le_refl _)) bas (by decide)).up (Nat.le_refl _) (by decide) (by decide)
      have brs : Bd 8 3 66 (dRs rs) := by
        have hbr : ∀ y ∈ rs.map dR, Bd 8 2 10 y := fun y hy => by
          obtain ⟨r, hr, rfl⟩ := List.mem_map.mp hy
          exact bd_R q (by decide) (hro r hr)
        exact bd_list 6 hbr (by rw [List.length_map]; exact hrl) (by decide)
      have gqr : Gd 4 108 (.tuple [dQ hd as, dRs rs]) := (bd_pair bq brs (by decide)).gd (by decide)
      have smv : ∀ {xs : List Int}, Sm xs → xs.Pairwise (· < ·) → Bd 8 1 7 (.tuple (dInts xs)) := fun hs hp => ((bdA_ints (b := 8) (k := 0) hs).tup (by have := sm_len hp hs; rw [List.length_map]; omega)).up (Nat.le_refl _) (Nat.le_refl _) (sm_len hp hs)
      have bset := smv h.ssm (srtU_sorted _)
      have bopn : Bd 8 1 7 (.tuple (dInts (opn hd as rs))) := smv (fun v hv => sm_srtU h.sm v (List.mem_filter.mp hv).1) ((srtU_sorted _).sublist List.filter_sublist)
      have gso : Gd 2 16 (.tuple [.tuple (dInts (sett hd rs)), .tuple (dInts (opn hd as rs))]) := (bd_pair bset bopn (by decide)).gd (by decide)
      have bps : Bd 8 2 30 (.tuple (dTs (PS hd as rs))) := by
        refine bd_list (b := 8) (k := 1) (B := 5) 5 (fun y hy => ?_) (by rw [List.length_map]; exact ps_n h) (by decide)
        obtain ⟨p, hp, rfl⟩ := List.mem_map.mp hy
        have hi := ps_in h p hp
        have h1 := BdA.all (b := 8) (k := 0) (B := 0) (xs := dInts p) fun d hd => by
          obtain ⟨i, hm, rfl⟩ := List.mem_map.mp hd
          have := hi.at_ i hm
          exact bd_int (by omega)
        have hpl := hi.len
        exact (h1.tup (by rw [List.length_map]; omega)).up (Nat.le_refl _) (Nat.le_refl _) (by rw [List.length_map]; omega)
      have gps := bps.gd (by decide)
      have gb : ∀ b, Gd 0 0 (.bool b) := fun b => (bd_bool (b := 8) (k := 0) (B := 0) (x := b)).gd (by decide)
      have h20 := h.f20
      walk_at "ev"
      rw [g_repr gqr (by decide) (by decide), W_some]
      refine W_mono (h49 hd as rs st3 h) ?_
      rintro _ rfl
      refine W_mono (h10 (.tuple (dInts hd)) as st3 (by omega)) ?_
      rintro _ rfl
      walk_at "ev"
      have hsv := srtU_le as.flatten
      refine ⟨by omega, ?_⟩
      rw [filtI (p := fun v => decide (v ∉ sett hd rs))]
      · rw [W_some]
        dsimp only
        refine W_mono (h39 hd as rs st3 h) ?_
        rintro _ rfl
        refine W_mono (h40 hd as rs st3 h) ?_
        rintro _ rfl
        rw [show (srtU as.flatten).filter (fun v => decide (v ∉ sett hd rs)) = opn hd as rs from rfl]
        dsimp only
        rw [g_repr gso (by decide) (by decide), W_some, W_some, g_neS, W_some]
        rw [decide_eq_true rfl]
        refine ⟨_, rfl, (fun h => nomatch h), fun _ => ?_⟩
        refine W_mono (h50 hd as rs st3 h) ?_
        rintro _ rfl
        rw [ps_same h]
        refine W_mono (h41 hd as rs st3 h) ?_
        rintro _ rfl
        dsimp only
        rw [g_repr gps (by decide) (by decide), W_some, W_some, g_neS, W_some]
        rw [decide_eq_true rfl]
        refine ⟨_, rfl, (fun h => nomatch h), fun _ => ?_⟩
        refine W_mono (h46 hd as rs st3 h) ?_
        rintro _ rfl
        dsimp only
        rw [g_repr (gb _) (by decide) (by decide), W_some]
        refine W_mono (h54 hd as rs st3 h) ?_
        rintro _ rfl
        dsimp only
        rw [g_repr (gb _) (by decide) (by decide), W_some, g_neS, W_some]
        rw [decide_eq_true rfl]
        refine ⟨_, rfl, (fun h => nomatch h), fun _ => ?_⟩
        rw [items_t, W_some]
        have eQ : dQ hd as = .tuple [.tuple (dInts hd), .tuple (dAts as)] := rfl
        refine loopI (I := fun ds2 Γ st2 => (∀ d ∈ ds2, ∃ p, d = dTup p ∧ PIn as p) ∧ ∃ m9 m10 m11, st2 = st3 ∧ Γ = [some (.scr ns), some .pen, some (.d x), some (.d (dQ hd as)), some (.d (dRs rs)), some (.d (.str (PyData.tuple [dQ hd as, dRs rs]).shown)), some (.d (.list (dInts (sett hd rs)))), some (.d (.list (dInts (opn hd as rs)))), some (.d (.tuple (dTs (PS hd as rs)))), m9, m10, m11]) ?_ ?_ _ _ _ ⟨?_, _, _, _, rfl, rfl⟩
        · rintro d ds2 Γ st2 ⟨hds, m9, m10, m11, rfl, rfl⟩
          obtain ⟨p, rfl, hp⟩ := hds d (List.mem_cons_self ..)
          generalize hS : (PyData.tuple [dQ hd as, dRs rs]).shown = S0
          rw [eQ]
          walk_at "ev"
          refine ⟨by omega, ?_⟩
          refine loopI (I := fun ds3 Γ st4 => (∀ d ∈ ds3, ∃ t : Nat, d = .int t ∧ t < as.length) ∧ ∃ m10 m11, st4 = st2 ∧ Γ = [some (.scr ns), some .pen, some (.d x), some (.d (dQ hd as)), some (.d (dRs rs)), some (.d (.str S0)), some (.d (.list (dInts (sett hd rs)))), some (.d (.list (dInts (opn hd as rs)))), some (.d (.tuple (dTs (PS hd as rs)))), some (.d (dTup p)), m10, m11]) ?_ ?_ _ _ _ ⟨?_, _, _, rfl, rfl⟩
          · rintro d ds3 Γ st4 ⟨hds3, m10, m11, rfl, rfl⟩
            obtain ⟨t, rfl, ht⟩ := hds3 d (List.mem_cons_self ..)
            walk_at "ev"
            refine W_mono (h45 hd as rs t p st4 h ht hp) ?_
            rintro _ rfl
            dsimp only
            rw [g_repr (gb _) (by decide) (by decide), W_some]
            refine W_mono (h52 hd as rs t p st4 h ht hp) ?_
            rintro _ rfl
            dsimp only
            rw [g_repr (gb _) (by decide) (by decide), W_some, g_neS, W_some]
            rw [decide_eq_true rfl]
            refine ⟨_, rfl, (fun h => nomatch h), fun _ => ?_⟩
            exact ⟨fun d hd' => hds3 d (List.mem_cons_of_mem _ hd'), rfl, _, _, rfl⟩
          · rintro Γ st4 ⟨_, m10, m11, rfl, rfl⟩
            subst hS
            exact ⟨fun d hd' => hds d (List.mem_cons_of_mem _ hd'), rfl, _, _, _, rfl⟩
          · intro d hd'
            rw [rngD_ints] at hd'
            obtain ⟨i, hi, rfl⟩ := List.mem_map.mp hd'
            obtain ⟨t, ht, rfl⟩ := List.mem_map.mp hi
            have ht := List.mem_range.mp ht
            exact ⟨t, rfl, by omega⟩
        · rintro Γ st2 ⟨_, m9, m10, m11, rfl, rfl⟩
          generalize hS : (PyData.tuple [dQ hd as, dRs rs]).shown = S0
          walk_at "ev"
          rw [g_repr gqr (by decide) (by decide), W_some, hS, g_neS, W_some]
          rw [decide_eq_true rfl]
          refine ⟨_, rfl, (fun h => nomatch h), fun _ => ?_⟩
          exact ⟨_, _, _, _, _, _, _, _, _, _, rfl⟩
        · intro d hd'
          obtain ⟨p, hp, rfl⟩ := List.mem_map.mp hd'
          exact ⟨p, rfl, ps_in h p hp⟩
      · intro y hy
        walk_at "ev"
        rw [g_notInI items_l]
        simp
  · rintro Γ st1 ⟨l2, l3, l4, l5, l6, l7, l8, l9, l10, l11, rfl⟩
    walk_at "ev"
    exact ⟨_, rfl⟩
end Mn
namespace K4
open Mn PySem PySem.Spec PyProof.Rows L2
def topS (i : Nat) : Stmt := PySem.Challenge.pw_viewstrike_k04_settled_variables_and_par.main.body.getD i (.Pass ⟨0, 0, 0, 0⟩)
abbrev s_variables_of : Stmt := topS 1
theorem sc_variables_of : FnScope ["query", "atom", "variable"] ["query"] (defScope s_variables_of) := ⟨rfl, rfl, rfl, by decide +kernel, rfl, by decide +kernel, by decide +kernel⟩
def c_variables_of : Cc := { N := ["query", "atom", "variable"], sc := defScope s_variables_of, tgt := ["query"], bl := ["tuple", "sorted"], gc := [], fns := [], pens := [], rep := false, own := [], scf := [], scr := [] }
abbrev s_contains_all : Stmt := topS 3
theorem sc_contains_all : FnScope ["some", "wanted", "thing"] ["some", "wanted"] (defScope s_contains_all) := ⟨rfl, rfl, rfl, by decide +kernel, rfl, by decide +kernel, by decide +kernel⟩
def c_contains_all : Cc := { N := ["some", "wanted", "thing"], sc := defScope s_contains_all, tgt := ["some", "wanted"], bl := ["all"], gc := [], fns := [], pens := [], rep := false, own := [], scf := [], scr := [] }
abbrev s_longest_chain : Stmt := topS 4
theorem sc_longest_chain : FnScope ["rules", "some", "reached", "chain", "before", "number", "_", "xs", "y"] ["rules", "some"] (defScope s_longest_chain) := ⟨rfl, rfl, rfl, by decide +kernel, rfl, by decide +kernel, by decide +kernel⟩
def c_longest_chain : Cc := { N := ["rules", "some", "reached", "chain", "before", "number", "_", "xs", "y"], sc := defScope s_longest_chain, tgt := ["rules", "some", "reached", "chain", "before", "number", "_", "xs", "y"], bl := ["list", "tuple", "len", "enumerate"], gc := [], fns := [("contains_all", 0)], pens := [], rep := false, own := [2, 3], scf := [], scr := [] }
abbrev s_reached_by : Stmt := topS 5
theorem sc_reached_by : FnScope ["rules", "some", "chain", "number"] ["rules", "some", "chain"] (defScope s_reached_by) := ⟨rfl, rfl, rfl, by decide +kernel, rfl, by decide +kernel, by decide +kernel⟩
def c_reached_by : Cc := { N := ["rules", "some", "chain", "number"], sc := defScope s_reached_by, tgt := ["rules", "some", "chain"], bl := ["tuple", "list"], gc := [], fns := [], pens := [], rep := false, own := [], scf := [], scr := [] }
abbrev s_closure_of : Stmt := topS 6
theorem sc_closure_of : FnScope ["query", "rules", "some"] ["query", "rules", "some"] (defScope s_closure_of) := ⟨rfl, rfl, rfl, by decide +kernel, rfl, by decide +kernel, by decide +kernel⟩
def c_closure_of : Cc := { N := ["query", "rules", "some"], sc := defScope s_closure_of, tgt := ["query", "rules", "some"], bl := ["tuple", "sorted", "set"], gc := [], fns := [("reached_by", 2), ("longest_chain", 1)], pens := [], rep := false, own := [], scf := [], scr := [] }
abbrev s_settled_of : Stmt := topS 7
theorem sc_settled_of : FnScope ["query", "rules"] ["query", "rules"] (defScope s_settled_of) := ⟨rfl, rfl, rfl, by decide +kernel, rfl, by decide +kernel, by decide +kernel⟩
def c_settled_of : Cc := { N := ["query", "rules"], sc := defScope s_settled_of, tgt := ["query", "rules"], bl := [], gc := [], fns := [("closure_of", 3)], pens := [], rep := false, own := [], scf := [], scr := [] }
abbrev s_open_of : Stmt := topS 8
theorem sc_open_of : FnScope ["query", "rules", "settled", "variable"] ["query", "rules"] (defScope s_open_of) := ⟨rfl, rfl, rfl, by decide +kernel, rfl, by decide +kernel, by decide +kernel⟩
def c_open_of : Cc := { N := ["query", "rules", "settled", "variable"], sc := defScope s_open_of, tgt := ["query", "rules", "settled"], bl := ["tuple"], gc := [], fns := [("settled_of", 39), ("variables_of", 27)], pens := [], rep := false, own := [], scf := [], scr := [] }
abbrev s_parts_of : Stmt := topS 9
theorem sc_parts_of : FnScope ["query", "rules", "open_variables", "parts", "t", "atom", "links", "near", "far", "variable", "part"] ["query", "rules"] (defScope s_parts_of) := ⟨rfl, rfl, rfl, by decide +kernel, rfl, by decide +kernel, by decide +kernel⟩
def c_parts_of : Cc := { N := ["query", "rules", "open_variables", "parts", "t", "atom", "links", "near", "far", "variable", "part"], sc := defScope s_parts_of, tgt := ["query", "rules", "open_variables", "parts", "t", "atom", "links", "near", "far"], bl := ["enumerate", "tuple", "sorted"], gc := [], fns := [("open_of", 40), ("touches", 43), ("joined_part", 42)], pens := [], rep := false, own := [], scf := [], scr := [] }
abbrev s_joined_part : Stmt := topS 10
theorem sc_joined_part : FnScope ["parts", "t", "part", "number"] ["parts", "t"] (defScope s_joined_part) := ⟨rfl, rfl, rfl, by decide +kernel, rfl, by decide +kernel, by decide +kernel⟩
def c_joined_part : Cc := { N := ["parts", "t", "part", "number"], sc := defScope s_joined_part, tgt := ["parts", "t"], bl := ["tuple", "sorted"], gc := [], fns := [], pens := [], rep := false, own := [], scf := [], scr := [] }
abbrev s_touches : Stmt := topS 11
theorem sc_touches : FnScope ["query", "part", "variables", "t", "variable"] ["query", "part", "variables"] (defScope s_touches) := ⟨rfl, rfl, rfl, by decide +kernel, rfl, by decide +kernel, by decide +kernel⟩
def c_touches : Cc := { N := ["query", "part", "variables", "t", "variable"], sc := defScope s_touches, tgt := ["query", "part", "variables"], bl := ["any"], gc := [], fns := [], pens := [], rep := false, own := [], scf := [], scr := [] }
abbrev s_settled_in : Stmt := topS 12
theorem sc_settled_in : FnScope ["query", "rules", "part", "variable"] ["query", "rules", "part"] (defScope s_settled_in) := ⟨rfl, rfl, rfl, by decide +kernel, rfl, by decide +kernel, by decide +kernel⟩
def c_settled_in : Cc := { N := ["query", "rules", "part", "variable"], sc := defScope s_settled_in, tgt := ["query", "rules", "part"], bl := ["tuple"], gc := [], fns := [("settled_of", 39), ("touches", 43)], pens := [], rep := false, own := [], scf := [], scr := [] }
abbrev s_does_cover : Stmt := topS 13
theorem sc_does_cover : FnScope ["query", "rules", "t", "part"] ["query", "rules", "t", "part"] (defScope s_does_cover) := ⟨rfl, rfl, rfl, by decide +kernel, rfl, by decide +kernel, by decide +kernel⟩
def c_does_cover : Cc := { N := ["query", "rules", "t", "part"], sc := defScope s_does_cover, tgt := ["query", "rules", "t", "part"], bl := [], gc := [], fns := [("contains_all", 0), ("closure_of", 3), ("settled_in", 44)], pens := [], rep := false, own := [], scf := [], scr := [] }
abbrev s_is_headed : Stmt := topS 14
theorem sc_is_headed : FnScope ["query", "rules", "part"] ["query", "rules"] (defScope s_is_headed) := ⟨rfl, rfl, rfl, by decide +kernel, rfl, by decide +kernel, by decide +kernel⟩
def c_is_headed : Cc := { N := ["query", "rules", "part"], sc := defScope s_is_headed, tgt := ["query", "rules"], bl := ["all"], gc := [], fns := [("is_covered", 47), ("parts_of", 41)], pens := [], rep := false, own := [], scf := [], scr := [] }
abbrev s_is_covered : Stmt := topS 15
theorem sc_is_covered : FnScope ["query", "rules", "part", "t"] ["query", "rules", "part"] (defScope s_is_covered) := ⟨rfl, rfl, rfl, by decide +kernel, rfl, by decide +kernel, by decide +kernel⟩
def c_is_covered : Cc := { N := ["query", "rules", "part", "t"], sc := defScope s_is_covered, tgt := ["query", "rules", "part"], bl := ["any", "range", "len"], gc := [], fns := [("does_cover", 45)], pens := [], rep := false, own := [], scf := [], scr := [] }
abbrev s__law_pen : Stmt := topS 17
theorem sc__law_pen : FnScope ["script"] ["script"] (defScope s__law_pen) := ⟨rfl, rfl, rfl, by decide +kernel, rfl, by decide +kernel, by decide +kernel⟩
def c__law_pen : Cc := { N := ["script"], sc := defScope s__law_pen, tgt := ["script"], bl := ["list"], gc := [], fns := [], pens := [], rep := false, own := [], scf := [], scr := [] }
abbrev s__law_fresh : Stmt := topS 18
theorem sc__law_fresh : FnScope ["pen", "seat", "given", "cell", "prime", "state", "found", "lap"] ["pen"] (defScope s__law_fresh) := ⟨rfl, rfl, rfl, by decide +kernel, rfl, by decide +kernel, by decide +kernel⟩
def c__law_fresh : Cc := { N := ["pen", "seat", "given", "cell", "prime", "state", "found", "lap"], sc := defScope s__law_fresh, tgt := ["pen", "seat", "given", "cell", "prime", "state", "found", "lap"], bl := ["range", "int", "len"], gc := [], fns := [], pens := [0], rep := false, own := [], scf := [], scr := [] }
abbrev s__law_draw : Stmt := topS 19
theorem sc__law_draw : FnScope ["pen", "bound", "digit"] ["pen", "bound"] (defScope s__law_draw) := ⟨rfl, rfl, rfl, by decide +kernel, rfl, by decide +kernel, by decide +kernel⟩
def c__law_draw : Cc := { N := ["pen", "bound", "digit"], sc := defScope s__law_draw, tgt := ["pen", "bound", "digit"], bl := ["int"], gc := [], fns := [("_law_fresh", 6)], pens := [0], rep := false, own := [], scf := [6], scr := [] }
abbrev s__law_one_of : Stmt := topS 20
theorem sc__law_one_of : FnScope ["pen", "some"] ["pen", "some"] (defScope s__law_one_of) := ⟨rfl, rfl, rfl, by decide +kernel, rfl, by decide +kernel, by decide +kernel⟩
def c__law_one_of : Cc := { N := ["pen", "some"], sc := defScope s__law_one_of, tgt := ["pen", "some"], bl := ["len"], gc := [], fns := [("_law_draw", 7)], pens := [0], rep := false, own := [], scf := [7], scr := [] }
abbrev s__law_variables : Stmt := topS 21
theorem sc__law_variables : FnScope ["query", "found", "atom"] ["query"] (defScope s__law_variables) := ⟨rfl, rfl, rfl, by decide +kernel, rfl, by decide +kernel, by decide +kernel⟩
def c__law_variables : Cc := { N := ["query", "found", "atom"], sc := defScope s__law_variables, tgt := ["query", "found", "atom"], bl := ["sorted", "set", "list"], gc := [], fns := [], pens := [], rep := false, own := [1], scf := [], scr := [] }
abbrev s__law_some_of : Stmt := topS 22
theorem sc__law_some_of : FnScope ["pen", "things", "most", "left", "found", "lap"] ["pen", "things", "most"] (defScope s__law_some_of) := ⟨rfl, rfl, rfl, by decide +kernel, rfl, by decide +kernel, by decide +kernel⟩
def c__law_some_of : Cc := { N := ["pen", "things", "most", "left", "found", "lap"], sc := defScope s__law_some_of, tgt := ["pen", "things", "most", "left", "found", "lap"], bl := ["range", "list", "min", "len"], gc := [], fns := [("_law_draw", 7)], pens := [0], rep := false, own := [4, 3], scf := [7], scr := [] }
abbrev s__law_atom : Stmt := topS 23
theorem sc__law_atom : FnScope ["pen", "names", "width", "left", "found", "lap"] ["pen", "names", "width"] (defScope s__law_atom) := ⟨rfl, rfl, rfl, by decide +kernel, rfl, by decide +kernel, by decide +kernel⟩
def c__law_atom : Cc := { N := ["pen", "names", "width", "left", "found", "lap"], sc := defScope s__law_atom, tgt := ["pen", "names", "width", "left", "found", "lap"], bl := ["range", "tuple", "list", "min", "len"], gc := [], fns := [("_law_draw", 7)], pens := [0], rep := false, own := [4, 3], scf := [7], scr := [] }
abbrev s__law_query : Stmt := topS 24
theorem sc__law_query : FnScope ["pen", "many", "names", "width", "some", "atoms", "known", "lap"] ["pen", "many", "names", "width"] (defScope s__law_query) := ⟨rfl, rfl, rfl, by decide +kernel, rfl, by decide +kernel, by decide +kernel⟩
def c__law_query : Cc := { N := ["pen", "many", "names", "width", "some", "atoms", "known", "lap"], sc := defScope s__law_query, tgt := ["pen", "many", "names", "width", "some", "atoms", "known"], bl := ["list", "tuple", "range", "sorted", "len"], gc := [], fns := [("_law_variables", 10), ("_law_atom", 12), ("_law_draw", 7), ("_law_some_of", 11)], pens := [0], rep := false, own := [], scf := [7], scr := [] }
abbrev s__law_known_query : Stmt := topS 25
theorem sc__law_known_query : FnScope ["pen", "some", "head", "atoms", "left", "found"] ["pen"] (defScope s__law_known_query) := ⟨rfl, rfl, rfl, by decide +kernel, rfl, by decide +kernel, by decide +kernel⟩
def c__law_known_query : Cc := { N := ["pen", "some", "head", "atoms", "left", "found"], sc := defScope s__law_known_query, tgt := ["pen", "some", "head", "atoms", "left", "found"], bl := ["list", "tuple", "len"], gc := [], fns := [("_law_one_of", 8), ("_law_draw", 7)], pens := [0], rep := false, own := [5, 4], scf := [7], scr := [] }
abbrev s__law_rule : Stmt := topS 26
theorem sc__law_rule : FnScope ["pen", "query", "t", "atom", "y"] ["pen", "query"] (defScope s__law_rule) := ⟨rfl, rfl, rfl, by decide +kernel, rfl, by decide +kernel, by decide +kernel⟩
def c__law_rule : Cc := { N := ["pen", "query", "t", "atom", "y"], sc := defScope s__law_rule, tgt := ["pen", "query", "t", "atom", "y"], bl := ["list", "len", "tuple", "sorted"], gc := [], fns := [("_law_draw", 7), ("_law_some_of", 11)], pens := [0], rep := false, own := [3], scf := [7], scr := [] }
abbrev s__law_rules : Stmt := topS 27
theorem sc__law_rules : FnScope ["pen", "query", "lap"] ["pen", "query"] (defScope s__law_rules) := ⟨rfl, rfl, rfl, by decide +kernel, rfl, by decide +kernel, by decide +kernel⟩
def c__law_rules : Cc := { N := ["pen", "query", "lap"], sc := defScope s__law_rules, tgt := ["pen", "query"], bl := ["tuple", "range"], gc := [], fns := [("_law_rule", 14), ("_law_one_of", 8), ("_law_draw", 7)], pens := [0], rep := false, own := [], scf := [7], scr := [] }
abbrev s__law_closure : Stmt := topS 28
theorem sc__law_closure : FnScope ["rules", "some", "found", "lap", "t", "xs", "y", "x"] ["rules", "some"] (defScope s__law_closure) := ⟨rfl, rfl, rfl, by decide +kernel, rfl, by decide +kernel, by decide +kernel⟩
def c__law_closure : Cc := { N := ["rules", "some", "found", "lap", "t", "xs", "y", "x"], sc := defScope s__law_closure, tgt := ["rules", "some", "found", "lap", "t", "xs", "y"], bl := ["list", "range", "sorted", "set"], gc := [], fns := [], pens := [], rep := false, own := [2], scf := [], scr := [] }
abbrev s__law_settled : Stmt := topS 29
theorem sc__law_settled : FnScope ["query", "rules"] ["query", "rules"] (defScope s__law_settled) := ⟨rfl, rfl, rfl, by decide +kernel, rfl, by decide +kernel, by decide +kernel⟩
def c__law_settled : Cc := { N := ["query", "rules"], sc := defScope s__law_settled, tgt := ["query", "rules"], bl := [], gc := [], fns := [("_law_closure", 16)], pens := [], rep := false, own := [], scf := [], scr := [] }
abbrev s__law_parts : Stmt := topS 30
theorem sc__law_parts : FnScope ["query", "rules", "settled", "marks", "lap", "one", "atom", "two", "other", "found", "mark", "x", "t"] ["query", "rules"] (defScope s__law_parts) := ⟨rfl, rfl, rfl, by decide +kernel, rfl, by decide +kernel, by decide +kernel⟩
def c__law_parts : Cc := { N := ["query", "rules", "settled", "marks", "lap", "one", "atom", "two", "other", "found", "mark", "x", "t"], sc := defScope s__law_parts, tgt := ["query", "rules", "settled", "marks", "lap", "one", "atom", "two", "other", "found", "mark"], bl := ["range", "sorted", "tuple", "list", "len", "enumerate", "set", "min"], gc := [], fns := [("_law_settled", 49)], pens := [], rep := false, own := [9, 3], scf := [], scr := [] }
abbrev s__law_wanted : Stmt := topS 31
theorem sc__law_wanted : FnScope ["query", "rules", "part", "inside", "t", "x"] ["query", "rules", "part"] (defScope s__law_wanted) := ⟨rfl, rfl, rfl, by decide +kernel, rfl, by decide +kernel, by decide +kernel⟩
def c__law_wanted : Cc := { N := ["query", "rules", "part", "inside", "t", "x"], sc := defScope s__law_wanted, tgt := ["query", "rules", "part", "inside", "t"], bl := ["list"], gc := [], fns := [("_law_settled", 49)], pens := [], rep := false, own := [3], scf := [], scr := [] }
abbrev s__law_covers : Stmt := topS 32
theorem sc__law_covers : FnScope ["query", "rules", "t", "part", "closed", "x"] ["query", "rules", "t", "part"] (defScope s__law_covers) := ⟨rfl, rfl, rfl, by decide +kernel, rfl, by decide +kernel, by decide +kernel⟩
def c__law_covers : Cc := { N := ["query", "rules", "t", "part", "closed", "x"], sc := defScope s__law_covers, tgt := ["query", "rules", "t", "part", "closed"], bl := [], gc := [], fns := [("_law_closure", 16), ("_law_wanted", 51)], pens := [], rep := false, own := [], scf := [], scr := [] }
abbrev s__law_coverers : Stmt := topS 33
theorem sc__law_coverers : FnScope ["query", "rules", "part", "t"] ["query", "rules", "part"] (defScope s__law_coverers) := ⟨rfl, rfl, rfl, by decide +kernel, rfl, by decide +kernel, by decide +kernel⟩
def c__law_coverers : Cc := { N := ["query", "rules", "part", "t"], sc := defScope s__law_coverers, tgt := ["query", "rules", "part"], bl := ["range", "len"], gc := [], fns := [("_law_covers", 52)], pens := [], rep := false, own := [], scf := [], scr := [] }
abbrev s__law_is_headed : Stmt := topS 34
theorem sc__law_is_headed : FnScope ["query", "rules", "part"] ["query", "rules"] (defScope s__law_is_headed) := ⟨rfl, rfl, rfl, by decide +kernel, rfl, by decide +kernel, by decide +kernel⟩
def c__law_is_headed : Cc := { N := ["query", "rules", "part"], sc := defScope s__law_is_headed, tgt := ["query", "rules"], bl := [], gc := [], fns := [("_law_parts", 50), ("_law_coverers", 53)], pens := [], rep := false, own := [], scf := [], scr := [] }
abbrev s_law : Stmt := topS 35
theorem sc_law : FnScope ["script", "pen", "turn", "query", "rules", "before", "settled", "loose", "parts", "part", "t", "x"] ["script"] (defScope s_law) := ⟨rfl, rfl, rfl, by decide +kernel, rfl, by decide +kernel, by decide +kernel⟩
def c_law : Cc := { N := ["script", "pen", "turn", "query", "rules", "before", "settled", "loose", "parts", "part", "t", "x"], sc := defScope s_law, tgt := ["script", "pen", "turn", "query", "rules", "before", "settled", "loose", "parts", "part", "t"], bl := ["range", "max", "min", "repr", "len", "tuple"], gc := [], fns := [("_law_rules", 15), ("_law_parts", 50), ("_law_query", 13), ("_law_known_query", 48), ("_law_settled", 49), ("_law_draw", 7), ("_law_variables", 10), ("parts_of", 41), ("is_headed", 46), ("_law_is_headed", 54), ("settled_of", 39), ("open_of", 40), ("does_cover", 45), ("_law_covers", 52)], pens := [1], rep := true, own := [], scf := [7], scr := [0] }
/- [('variables_of', 1, ['query'], 1, False), ('contains_all', 3, ['some', 'wanted'], 1, False), ('longest_chain', 4, ['rules', 'some'], 2, False), ('reached_by', 5, ['rules', 'some', 'chain'], 1, False), ('closure_of', 6, ['query', 'rules', 'some'], 3, False), ('settled_of', 7, ['query', 'rules'], 4, False), ('open_of', 8, ['query', 'rules'], 5, False), ('parts_of', 9, ['query', 'rules'], 6, False), ('joined_part', 10, ['parts', 't'], 1, False), ('touches', 11, ['query', 'part', 'variables'], 1, False), ('settled_in', 12, ['query', 'rules', 'part'], 5, False), ('does_cover', 13, ['query', 'rules', 't', 'part'], 6, False), ('is_headed', 14, ['query', 'rules'], 8, False), ('is_covered', 15, ['query', 'rules', 'part'], 7, False), ('_law_pen', 17, ['script'], 1, False), ('_law_fresh', 18, ['pen'], 1, False), ('_law_draw', 19, ['pen', 'bound'], 2, False), ('_law_one_of', 20, ['pen', 'some'], 3, False), ('_law_variables', 21, ['query'], 1, False), ('_law_some_of', 22, ['pen', 'things', 'most'], 3, False), ('_law_atom', 23, ['pen', 'names', 'width'], 3, False), ('_law_query', 24, ['pen', 'many', 'names', 'width'], 4, False), ('_law_known_query', 25, ['pen'], 4, False), ('_law_rule', 26, ['pen', 'query'], 4, False), ('_law_rules', 27, ['pen', 'query'], 5, False), ('_law_closure', 28, ['rules', 'some'], 1, False), ('_law_settled', 29, ['query', 'rules'], 2, False), ('_law_parts', 30, ['query', 'rules'], 3, False), ('_law_wanted', 31, ['query', 'rules', 'part'], 3, False), ('_law_covers', 32, ['query', 'rules', 't', 'part'], 4, False), ('_law_coverers', 33, ['query', 'rules', 'part'], 5, False), ('_law_is_headed', 34, ['query', 'rules'], 6, False), ('law', 35, ['script'], 9, False)] -/
theorem hc_variables_of : compB2 60 c_variables_of (defBody s_variables_of) = some sl_variables_of := by rfl
theorem hc_contains_all : compB2 60 c_contains_all (defBody s_contains_all) = some sl_contains_all := by rfl
theorem hc_longest_chain : compB2 60 c_longest_chain (defBody s_longest_chain) = some sl_longest_chain := by rfl
theorem hc_reached_by : compB2 60 c_reached_by (defBody s_reached_by) = some sl_reached_by := by rfl
theorem hc_closure_of : compB2 60 c_closure_of (defBody s_closure_of) = some sl_closure_of := by rfl
theorem hc_settled_of : compB2 60 c_settled_of (defBody s_settled_of) = some sl_settled_of := by rfl
theorem hc_open_of : compB2 60 c_open_of (defBody s_open_of) = some sl_open_of := by rfl
theorem hc_parts_of : compB2 60 c_parts_of (defBody s_parts_of) = some sl_parts_of := by rfl
theorem hc_joined_part : compB2 60 c_joined_part (defBody s_joined_part) = some sl_joined_part := by rfl
theorem hc_touches : compB2 60 c_touches (defBody s_touches) = some sl_touches := by rfl
theorem hc_settled_in : compB2 60 c_settled_in (defBody s_settled_in) = some sl_settled_in := by rfl
theorem hc_does_cover : compB2 60 c_does_cover (defBody s_does_cover) = some sl_does_cover := by rfl
theorem hc_is_headed : compB2 60 c_is_headed (defBody s_is_headed) = some sl_is_headed := by rfl
theorem hc_is_covered : compB2 60 c_is_covered (defBody s_is_covered) = some sl_is_covered := by rfl
theorem hc__law_fresh : compB2 60 c__law_fresh (defBody s__law_fresh) = some sl_law_fresh := by rfl
theorem hc__law_draw : compB2 60 c__law_draw (defBody s__law_draw) = some sl_law_draw := by rfl
theorem hc__law_one_of : compB2 60 c__law_one_of (defBody s__law_one_of) = some sl_law_one_of := by rfl
theorem hc__law_variables : compB2 60 c__law_variables (defBody s__law_variables) = some sl_law_variables := by rfl
theorem hc__law_some_of : compB2 60 c__law_some_of (defBody s__law_some_of) = some sl_law_some_of := by rfl
theorem hc__law_atom : compB2 60 c__law_atom (defBody s__law_atom) = some sl_law_atom := by rfl
theorem hc__law_query : compB2 60 c__law_query (defBody s__law_query) = some sl_law_query := by rfl
theorem hc__law_known_query : compB2 60 c__law_known_query (defBody s__law_known_query) = some sl_law_known_query := by rfl
theorem hc__law_rule : compB2 60 c__law_rule (defBody s__law_rule) = some sl_law_rule := by rfl
theorem hc__law_rules : compB2 60 c__law_rules (defBody s__law_rules) = some sl_law_rules := by rfl
theorem hc__law_closure : compB2 60 c__law_closure (defBody s__law_closure) = some sl_law_closure := by rfl
theorem hc__law_settled : compB2 60 c__law_settled (defBody s__law_settled) = some sl_law_settled := by rfl
theorem hc__law_parts : compB2 60 c__law_parts (defBody s__law_parts) = some sl_law_parts := by rfl
theorem hc__law_wanted : compB2 60 c__law_wanted (defBody s__law_wanted) = some sl_law_wanted := by rfl
theorem hc__law_covers : compB2 60 c__law_covers (defBody s__law_covers) = some sl_law_covers := by rfl
theorem hc__law_coverers : compB2 60 c__law_coverers (defBody s__law_coverers) = some sl_law_coverers := by rfl
theorem hc__law_is_headed : compB2 60 c__law_is_headed (defBody s__law_is_headed) = some sl_law_is_headed := by rfl
theorem hc_law : compB2 60 c_law ((defBody s_law).drop 1) = some sl_law_k04 := by rfl
def t_variables_of : Nat → Fn := tab []
def f_variables_of : Fn := fnOf 1 3 40 t_variables_of sl_variables_of
def t_contains_all : Nat → Fn := tab []
def f_contains_all : Fn := fnOf 2 3 40 t_contains_all sl_contains_all
def t_reached_by : Nat → Fn := tab []
def f_reached_by : Fn := fnOf 3 4 40 t_reached_by sl_reached_by
def t_joined_part : Nat → Fn := tab []
def f_joined_part : Fn := fnOf 2 4 40 t_joined_part sl_joined_part
def t_touches : Nat → Fn := tab []
def f_touches : Fn := fnOf 3 5 40 t_touches sl_touches
def t__law_fresh : Nat → Fn := tab []
def f__law_fresh : Fn := fnOf 1 8 40 t__law_fresh sl_law_fresh
def t__law_variables : Nat → Fn := tab []
def f__law_variables : Fn := fnOf 1 3 40 t__law_variables sl_law_variables
def t__law_closure : Nat → Fn := tab []
def f__law_closure : Fn := fnOf 2 8 40 t__law_closure sl_law_closure
def t_longest_chain : Nat → Fn := tab [(0, f_contains_all)]
def f_longest_chain : Fn := fnOf 2 9 40 t_longest_chain sl_longest_chain
def t__law_draw : Nat → Fn := tab [(6, f__law_fresh)]
def f__law_draw : Fn := fnOf 2 3 40 t__law_draw sl_law_draw
def t__law_settled : Nat → Fn := tab [(16, f__law_closure)]
def f__law_settled : Fn := fnOf 2 2 40 t__law_settled sl_law_settled
def t_closure_of : Nat → Fn := tab [(2, f_reached_by), (1, f_longest_chain)]
def f_closure_of : Fn := fnOf 3 3 40 t_closure_of sl_closure_of
def t__law_one_of : Nat → Fn := tab [(7, f__law_draw)]
def f__law_one_of : Fn := fnOf 2 2 40 t__law_one_of sl_law_one_of
def t__law_some_of : Nat → Fn := tab [(7, f__law_draw)]
def f__law_some_of : Fn := fnOf 3 6 40 t__law_some_of sl_law_some_of
def t__law_atom : Nat → Fn := tab [(7, f__law_draw)]
def f__law_atom : Fn := fnOf 3 6 40 t__law_atom sl_law_atom
def t__law_parts : Nat → Fn := tab [(49, f__law_settled)]
def f__law_parts : Fn := fnOf 2 13 40 t__law_parts sl_law_parts
def t__law_wanted : Nat → Fn := tab [(49, f__law_settled)]
def f__law_wanted : Fn := fnOf 3 6 40 t__law_wanted sl_law_wanted
def t_settled_of : Nat → Fn := tab [(3, f_closure_of)]
def f_settled_of : Fn := fnOf 2 2 40 t_settled_of sl_settled_of
def t__law_query : Nat → Fn := tab [(10, f__law_variables), (12, f__law_atom), (7, f__law_draw), (11, f__law_some_of)]
def f__law_query : Fn := fnOf 4 8 40 t__law_query sl_law_query
def t__law_known_query : Nat → Fn := tab [(8, f__law_one_of), (7, f__law_draw)]
def f__law_known_query : Fn := fnOf 1 6 40 t__law_known_query sl_law_known_query
def t__law_rule : Nat → Fn := tab [(7, f__law_draw), (11, f__law_some_of)]
def f__law_rule : Fn := fnOf 2 5 40 t__law_rule sl_law_rule
def t__law_covers : Nat → Fn := tab [(16, f__law_closure), (51, f__law_wanted)]
def f__law_covers : Fn := fnOf 4 6 40 t__law_covers sl_law_covers
def t_open_of : Nat → Fn := tab [(39, f_settled_of), (27, f_variables_of)]
def f_open_of : Fn := fnOf 2 4 40 t_open_of sl_open_of
def t_settled_in : Nat → Fn := tab [(39, f_settled_of), (43, f_touches)]
def f_settled_in : Fn := fnOf 3 4 40 t_settled_in sl_settled_in
def t__law_rules : Nat → Fn := tab [(14, f__law_rule), (8, f__law_one_of), (7, f__law_draw)]
def f__law_rules : Fn := fnOf 2 3 40 t__law_rules sl_law_rules
def t__law_coverers : Nat → Fn := tab [(52, f__law_covers)]
def f__law_coverers : Fn := fnOf 3 4 40 t__law_coverers sl_law_coverers
def t_parts_of : Nat → Fn := tab [(40, f_open_of), (43, f_touches), (42, f_joined_part)]
def f_parts_of : Fn := fnOf 2 11 40 t_parts_of sl_parts_of
def t_does_cover : Nat → Fn := tab [(0, f_contains_all), (3, f_closure_of), (44, f_settled_in)]
def f_does_cover : Fn := fnOf 4 4 40 t_does_cover sl_does_cover
def t__law_is_headed : Nat → Fn := tab [(50, f__law_parts), (53, f__law_coverers)]
def f__law_is_headed : Fn := fnOf 2 3 40 t__law_is_headed sl_law_is_headed
def t_is_covered : Nat → Fn := tab [(45, f_does_cover)]
def f_is_covered : Fn := fnOf 3 4 40 t_is_covered sl_is_covered
def t_is_headed : Nat → Fn := tab [(47, f_is_covered), (41, f_parts_of)]
def f_is_headed : Fn := fnOf 2 3 40 t_is_headed sl_is_headed
def t_law : Nat → Fn := tab [(15, f__law_rules), (50, f__law_parts), (13, f__law_query), (48, f__law_known_query), (49, f__law_settled), (7, f__law_draw), (10, f__law_variables), (41, f_parts_of), (46, f_is_headed), (54, f__law_is_headed), (39, f_settled_of), (40, f_open_of), (45, f_does_cover), (52, f__law_covers)]
theorem sp_has : SpHas f_contains_all := has_ok
theorem sp_chain : SpChain f_longest_chain := chain_ok sp_has
theorem sp_reached : SpReached f_reached_by := reached_ok
theorem sp_cloOf : SpCloOf f_closure_of := cloOf_ok sp_chain sp_reached
theorem sp_varsOf : SpVarsOf f_variables_of := varsOf_ok
theorem sp_settled : SpSettled f_settled_of := settled_ok sp_cloOf
theorem sp_open : SpOpen f_open_of := open_ok sp_settled sp_varsOf
theorem sp_touches : SpTouches f_touches := touches_ok
theorem sp_joined : SpJoined f_joined_part := joined_ok
theorem sp_parts : SpParts f_parts_of := parts_ok sp_open sp_touches sp_joined
theorem sp_settledIn : SpSettledIn f_settled_in := settledIn_ok sp_settled sp_touches
theorem sp_cover : SpCover f_does_cover := cover_ok sp_has sp_cloOf sp_settledIn
theorem sp_covered : SpCovered f_is_covered := covered_ok sp_cover
theorem sp_headed : SpHeaded f_is_headed := headed_ok sp_parts sp_covered
theorem sp_fresh : SpFresh f__law_fresh := fresh_ok
theorem sp_draw : SpDraw f__law_draw := draw_ok sp_fresh
theorem sp_one : SpOne f__law_one_of := one_ok sp_draw
theorem sp_vars : SpVars f__law_variables := vars_ok
theorem sp_some : SpSome f__law_some_of := some_ok sp_draw
theorem sp_atom : SpAtom f__law_atom := atom_ok sp_draw
theorem sp_query : SpQuery f__law_query := query_ok sp_draw sp_atom sp_vars sp_some
theorem sp_known : SpKnown f__law_known_query := known_ok sp_one sp_draw
theorem sp_rule : SpRule f__law_rule := rule_ok sp_draw sp_some
theorem sp_rules : SpRules f__law_rules := rules_ok sp_draw sp_one sp_rule
theorem sp_lclo : SpLClo f__law_closure := lclo_ok
theorem sp_lSettled : SpLSettled f__law_settled := lSettled_ok sp_lclo
theorem sp_lParts : SpLParts f__law_parts := lParts_ok sp_lSettled
theorem sp_lWanted : SpLWanted f__law_wanted := lWanted_ok sp_lSettled
theorem sp_lCovers : SpLCovers f__law_covers := lCovers_ok sp_lclo sp_lWanted
theorem sp_lCoverers : SpLCoverers f__law_coverers := lCoverers_ok sp_lCovers
theorem sp_lHeaded : SpLHeaded f__law_is_headed := lHeaded_ok sp_lParts sp_lCoverers
theorem run_law (ns : List Int) (h : ns.length ≤ 63) : ∃ W st', evB t_law W sl_law_k04 (some (.scr ns) :: some .pen :: List.replicate (c_law.N.length - 2) none) ⟨ns, 0, 0⟩ = some (.rt (.bool true) st') := by
  obtain ⟨r, e, st, rfl⟩ := law4 (Φ := t_law) (W' := 0) sp_draw sp_query sp_known sp_rules sp_lSettled sp_vars sp_settled sp_open sp_lParts sp_parts sp_headed sp_lHeaded sp_cover sp_lCovers ns h
  exact ⟨0, st, e⟩
theorem all_mk {l : PySem.W.OpenLaw} {w : World} {K : PySem.W.Frag} {h : Heap} {mg : Str → Option Value} {fa : Addr} (kin : K.In h) (G : h.Ns mainGlobals mg) (hfa : mg "law" = some (.ref fa))
    {fa0 : Addr} {oc0 kV0 dc0 pm0 cd0 ct0 : Value} {od0 an0 : Option Addr} {sl0 : Array (Option Value)}
    {fa1 : Addr} {oc1 kV1 dc1 pm1 cd1 ct1 : Value} {od1 an1 : Option Addr} {sl1 : Array (Option Value)}
    {fa2 : Addr} {oc2 kV2 dc2 pm2 cd2 ct2 : Value} {od2 an2 : Option Addr} {sl2 : Array (Option Value)}
    {fa3 : Addr} {oc3 kV3 dc3 pm3 cd3 ct3 : Value} {od3 an3 : Option Addr} {sl3 : Array (Option Value)}
    {fa4 : Addr} {oc4 kV4 dc4 pm4 cd4 ct4 : Value} {od4 an4 : Option Addr} {sl4 : Array (Option Value)}
    {fa5 : Addr} {oc5 kV5 dc5 pm5 cd5 ct5 : Value} {od5 an5 : Option Addr} {sl5 : Array (Option Value)}
    {fa6 : Addr} {oc6 kV6 dc6 pm6 cd6 ct6 : Value} {od6 an6 : Option Addr} {sl6 : Array (Option Value)}
    {fa7 : Addr} {oc7 kV7 dc7 pm7 cd7 ct7 : Value} {od7 an7 : Option Addr} {sl7 : Array (Option Value)}
    {fa8 : Addr} {oc8 kV8 dc8 pm8 cd8 ct8 : Value} {od8 an8 : Option Addr} {sl8 : Array (Option Value)}
    {fa9 : Addr} {oc9 kV9 dc9 pm9 cd9 ct9 : Value} {od9 an9 : Option Addr} {sl9 : Array (Option Value)}
    {fa10 : Addr} {oc10 kV10 dc10 pm10 cd10 ct10 : Value} {od10 an10 : Option Addr} {sl10 : Array (Option Value)}
    {fa11 : Addr} {oc11 kV11 dc11 pm11 cd11 ct11 : Value} {od11 an11 : Option Addr} {sl11 : Array (Option Value)}
    {fa12 : Addr} {oc12 kV12 dc12 pm12 cd12 ct12 : Value} {od12 an12 : Option Addr} {sl12 : Array (Option Value)}
    {fa13 : Addr} {oc13 kV13 dc13 pm13 cd13 ct13 : Value} {od13 an13 : Option Addr} {sl13 : Array (Option Value)}
    {fa14 : Addr} {oc14 kV14 dc14 pm14 cd14 ct14 : Value} {od14 an14 : Option Addr} {sl14 : Array (Option Value)}
    {fa15 : Addr} {oc15 kV15 dc15 pm15 cd15 ct15 : Value} {od15 an15 : Option Addr} {sl15 : Array (Option Value)}
    {fa16 : Addr} {oc16 kV16 dc16 pm16 cd16 ct16 : Value} {od16 an16 : Option Addr} {sl16 : Array (Option Value)}
    {fa17 : Addr} {oc17 kV17 dc17 pm17 cd17 ct17 : Value} {od17 an17 : Option Addr} {sl17 : Array (Option Value)}
    {fa18 : Addr} {oc18 kV18 dc18 pm18 cd18 ct18 : Value} {od18 an18 : Option Addr} {sl18 : Array (Option Value)}
    {fa19 : Addr} {oc19 kV19 dc19 pm19 cd19 ct19 : Value} {od19 an19 : Option Addr} {sl19 : Array (Option Value)}
    {fa20 : Addr} {oc20 kV20 dc20 pm20 cd20 ct20 : Value} {od20 an20 : Option Addr} {sl20 : Array (Option Value)}
    {fa21 : Addr} {oc21 kV21 dc21 pm21 cd21 ct21 : Value} {od21 an21 : Option Addr} {sl21 : Array (Option Value)}
    {fa22 : Addr} {oc22 kV22 dc22 pm22 cd22 ct22 : Value} {od22 an22 : Option Addr} {sl22 : Array (Option Value)}
    {fa23 : Addr} {oc23 kV23 dc23 pm23 cd23 ct23 : Value} {od23 an23 : Option Addr} {sl23 : Array (Option Value)}
    {fa24 : Addr} {oc24 kV24 dc24 pm24 cd24 ct24 : Value} {od24 an24 : Option Addr} {sl24 : Array (Option Value)}
    {fa25 : Addr} {oc25 kV25 dc25 pm25 cd25 ct25 : Value} {od25 an25 : Option Addr} {sl25 : Array (Option Value)}
    {fa26 : Addr} {oc26 kV26 dc26 pm26 cd26 ct26 : Value} {od26 an26 : Option Addr} {sl26 : Array (Option Value)}
    {fa27 : Addr} {oc27 kV27 dc27 pm27 cd27 ct27 : Value} {od27 an27 : Option Addr} {sl27 : Array (Option Value)}
    {fa28 : Addr} {oc28 kV28 dc28 pm28 cd28 ct28 : Value} {od28 an28 : Option Addr} {sl28 : Array (Option Value)}
    {fa29 : Addr} {oc29 kV29 dc29 pm29 cd29 ct29 : Value} {od29 an29 : Option Addr} {sl29 : Array (Option Value)}
    {fa30 : Addr} {oc30 kV30 dc30 pm30 cd30 ct30 : Value} {od30 an30 : Option Addr} {sl30 : Array (Option Value)}
    {fa31 : Addr} {oc31 kV31 dc31 pm31 cd31 ct31 : Value} {od31 an31 : Option Addr} {sl31 : Array (Option Value)}
    {fa32 : Addr} {oc32 kV32 dc32 pm32 cd32 ct32 : Value} {od32 an32 : Option Addr} {sl32 : Array (Option Value)}
    (a0 : PySem.W.nsIn K mainGlobals "variables_of" = some (some (.ref fa0)))
    (l0 : K.lookup fa0 = some ⟨oc0, od0, .func (PySem.W.fnOf "variables_of" "variables_of" (defArgs s_variables_of) (defBody s_variables_of) (defScope s_variables_of) .none kV0 dc0 pm0 an0 cd0 ct0), sl0⟩)
    (c0 : PySem.W.codeIn K cd0 "variables_of" = true) (k0 : PySem.W.keepIn K (.ref fa0) = true)
    (a1 : PySem.W.nsIn K mainGlobals "contains_all" = some (some (.ref fa1)))
    (l1 : K.lookup fa1 = some ⟨oc1, od1, .func (PySem.W.fnOf "contains_all" "contains_all" (defArgs s_contains_all) (defBody s_contains_all) (defScope s_contains_all) .none kV1 dc1 pm1 an1 cd1 ct1), sl1⟩)
    (c1 : PySem.W.codeIn K cd1 "contains_all" = true) (k1 : PySem.W.keepIn K (.ref fa1) = true)
    (a2 : PySem.W.nsIn K mainGlobals "longest_chain" = some (some (.ref fa2)))
    (l2 : K.lookup fa2 = some ⟨oc2, od2, .func (PySem.W.fnOf "longest_chain" "longest_chain" (defArgs s_longest_chain) (defBody s_longest_chain) (defScope s_longest_chain) .none kV2 dc2 pm2 an2 cd2 ct2), sl2⟩)
    (c2 : PySem.W.codeIn K cd2 "longest_chain" = true) (k2 : PySem.W.keepIn K (.ref fa2) = true)
    (a3 : PySem.W.nsIn K mainGlobals "reached_by" = some (some (.ref fa3)))
    (l3 : K.lookup fa3 = some ⟨oc3, od3, .func (PySem.W.fnOf "reached_by" "reached_by" (defArgs s_reached_by) (defBody s_reached_by) (defScope s_reached_by) .none kV3 dc3 pm3 an3 cd3 ct3), sl3⟩)
    (c3 : PySem.W.codeIn K cd3 "reached_by" = true) (k3 : PySem.W.keepIn K (.ref fa3) = true)
    (a4 : PySem.W.nsIn K mainGlobals "closure_of" = some (some (.ref fa4)))
    (l4 : K.lookup fa4 = some ⟨oc4, od4, .func (PySem.W.fnOf "closure_of" "closure_of" (defArgs s_closure_of) (defBody s_closure_of) (defScope s_closure_of) .none kV4 dc4 pm4 an4 cd4 ct4), sl4⟩)
    (c4 : PySem.W.codeIn K cd4 "closure_of" = true) (k4 : PySem.W.keepIn K (.ref fa4) = true)
    (a5 : PySem.W.nsIn K mainGlobals "settled_of" = some (some (.ref fa5)))
    (l5 : K.lookup fa5 = some ⟨oc5, od5, .func (PySem.W.fnOf "settled_of" "settled_of" (defArgs s_settled_of) (defBody s_settled_of) (defScope s_settled_of) .none kV5 dc5 pm5 an5 cd5 ct5), sl5⟩)
    (c5 : PySem.W.codeIn K cd5 "settled_of" = true) (k5 : PySem.W.keepIn K (.ref fa5) = true)
    (a6 : PySem.W.nsIn K mainGlobals "open_of" = some (some (.ref fa6)))
    (l6 : K.lookup fa6 = some ⟨oc6, od6, .func (PySem.W.fnOf "open_of" "open_of" (defArgs s_open_of) (defBody s_open_of) (defScope s_open_of) .none kV6 dc6 pm6 an6 cd6 ct6), sl6⟩)
    (c6 : PySem.W.codeIn K cd6 "open_of" = true) (k6 : PySem.W.keepIn K (.ref fa6) = true)
    (a7 : PySem.W.nsIn K mainGlobals "parts_of" = some (some (.ref fa7)))
    (l7 : K.lookup fa7 = some ⟨oc7, od7, .func (PySem.W.fnOf "parts_of" "parts_of" (defArgs s_parts_of) (defBody s_parts_of) (defScope s_parts_of) .none kV7 dc7 pm7 an7 cd7 ct7), sl7⟩)
    (c7 : PySem.W.codeIn K cd7 "parts_of" = true) (k7 : PySem.W.keepIn K (.ref fa7) = true)
    (a8 : PySem.W.nsIn K mainGlobals "joined_part" = some (some (.ref fa8)))
    (l8 : K.lookup fa8 = some ⟨oc8, od8, .func (PySem.W.fnOf "joined_part" "joined_part" (defArgs s_joined_part) (defBody s_joined_part) (defScope s_joined_part) .none kV8 dc8 pm8 an8 cd8 ct8), sl8⟩)
    (c8 : PySem.W.codeIn K cd8 "joined_part" = true) (k8 : PySem.W.keepIn K (.ref fa8) = true)
    (a9 : PySem.W.nsIn K mainGlobals "touches" = some (some (.ref fa9)))
    (l9 : K.lookup fa9 = some ⟨oc9, od9, .func (PySem.W.fnOf "touches" "touches" (defArgs s_touches) (defBody s_touches) (defScope s_touches) .none kV9 dc9 pm9 an9 cd9 ct9), sl9⟩)
    (c9 : PySem.W.codeIn K cd9 "touches" = true) (k9 : PySem.W.keepIn K (.ref fa9) = true)
    (a10 : PySem.W.nsIn K mainGlobals "settled_in" = some (some (.ref fa10)))
    (l10 : K.lookup fa10 = some ⟨oc10, od10, .func (PySem.W.fnOf "settled_in" "settled_in" (defArgs s_settled_in) (defBody s_settled_in) (defScope s_settled_in) .none kV10 dc10 pm10 an10 cd10 ct10), sl10⟩)
    (c10 : PySem.W.codeIn K cd10 "settled_in" = true) (k10 : PySem.W.keepIn K (.ref fa10) = true)
    (a11 : PySem.W.nsIn K mainGlobals "does_cover" = some (some (.ref fa11)))
    (l11 : K.lookup fa11 = some ⟨oc11, od11, .func (PySem.W.fnOf "does_cover" "does_cover" (defArgs s_does_cover) (defBody s_does_cover) (defScope s_does_cover) .none kV11 dc11 pm11 an11 cd11 ct11), sl11⟩)
    (c11 : PySem.W.codeIn K cd11 "does_cover" = true) (k11 : PySem.W.keepIn K (.ref fa11) = true)
    (a12 : PySem.W.nsIn K mainGlobals "is_headed" = some (some (.ref fa12)))
    (l12 : K.lookup fa12 = some ⟨oc12, od12, .func (PySem.W.fnOf "is_headed" "is_headed" (defArgs s_is_headed) (defBody s_is_headed) (defScope s_is_headed) .none kV12 dc12 pm12 an12 cd12 ct12), sl12⟩)
    (c12 : PySem.W.codeIn K cd12 "is_headed" = true) (k12 : PySem.W.keepIn K (.ref fa12) = true)
    (a13 : PySem.W.nsIn K mainGlobals "is_covered" = some (some (.ref fa13)))
    (l13 : K.lookup fa13 = some ⟨oc13, od13, .func (PySem.W.fnOf "is_covered" "is_covered" (defArgs s_is_covered) (defBody s_is_covered) (defScope s_is_covered) .none kV13 dc13 pm13 an13 cd13 ct13), sl13⟩)
    (c13 : PySem.W.codeIn K cd13 "is_covered" = true) (k13 : PySem.W.keepIn K (.ref fa13) = true)
    (a14 : PySem.W.nsIn K mainGlobals "_law_pen" = some (some (.ref fa14)))
    (l14 : K.lookup fa14 = some ⟨oc14, od14, .func (PySem.W.fnOf "_law_pen" "_law_pen" (defArgs s__law_pen) (defBody s__law_pen) (defScope s__law_pen) .none kV14 dc14 pm14 an14 cd14 ct14), sl14⟩)
    (c14 : PySem.W.codeIn K cd14 "_law_pen" = true) (k14 : PySem.W.keepIn K (.ref fa14) = true)
    (a15 : PySem.W.nsIn K mainGlobals "_law_fresh" = some (some (.ref fa15)))
    (l15 : K.lookup fa15 = some ⟨oc15, od15, .func (PySem.W.fnOf "_law_fresh" "_law_fresh" (defArgs s__law_fresh) (defBody s__law_fresh) (defScope s__law_fresh) .none kV15 dc15 pm15 an15 cd15 ct15), sl15⟩)
    (c15 : PySem.W.codeIn K cd15 "_law_fresh" = true) (k15 : PySem.W.keepIn K (.ref fa15) = true)
    (a16 : PySem.W.nsIn K mainGlobals "_law_draw" = some (some (.ref fa16)))
    (l16 : K.lookup fa16 = some ⟨oc16, od16, .func (PySem.W.fnOf "_law_draw" "_law_draw" (defArgs s__law_draw) (defBody s__law_draw) (defScope s__law_draw) .none kV16 dc16 pm16 an16 cd16 ct16), sl16⟩)
    (c16 : PySem.W.codeIn K cd16 "_law_draw" = true) (k16 : PySem.W.keepIn K (.ref fa16) = true)
    (a17 : PySem.W.nsIn K mainGlobals "_law_one_of" = some (some (.ref fa17)))
    (l17 : K.lookup fa17 = some ⟨oc17, od17, .func (PySem.W.fnOf "_law_one_of" "_law_one_of" (defArgs s__law_one_of) (defBody s__law_one_of) (defScope s__law_one_of) .none kV17 dc17 pm17 an17 cd17 ct17), sl17⟩)
    (c17 : PySem.W.codeIn K cd17 "_law_one_of" = true) (k17 : PySem.W.keepIn K (.ref fa17) = true)
    (a18 : PySem.W.nsIn K mainGlobals "_law_variables" = some (some (.ref fa18)))
    (l18 : K.lookup fa18 = some ⟨oc18, od18, .func (PySem.W.fnOf "_law_variables" "_law_variables" (defArgs s__law_variables) (defBody s__law_variables) (defScope s__law_variables) .none kV18 dc18 pm18 an18 cd18 ct18), sl18⟩)
    (c18 : PySem.W.codeIn K cd18 "_law_variables" = true) (k18 : PySem.W.keepIn K (.ref fa18) = true)
    (a19 : PySem.W.nsIn K mainGlobals "_law_some_of" = some (some (.ref fa19)))
    (l19 : K.lookup fa19 = some ⟨oc19, od19, .func (PySem.W.fnOf "_law_some_of" "_law_some_of" (defArgs s__law_some_of) (defBody s__law_some_of) (defScope s__law_some_of) .none kV19 dc19 pm19 an19 cd19 ct19), sl19⟩)
    (c19 : PySem.W.codeIn K cd19 "_law_some_of" = true) (k19 : PySem.W.keepIn K (.ref fa19) = true)
    (a20 : PySem.W.nsIn K mainGlobals "_law_atom" = some (some (.ref fa20)))
    (l20 : K.lookup fa20 = some ⟨oc20, od20, .func (PySem.W.fnOf "_law_atom" "_law_atom" (defArgs s__law_atom) (defBody s__law_atom) (defScope s__law_atom) .none kV20 dc20 pm20 an20 cd20 ct20), sl20⟩)
    (c20 : PySem.W.codeIn K cd20 "_law_atom" = true) (k20 : PySem.W.keepIn K (.ref fa20) = true)
    (a21 : PySem.W.nsIn K mainGlobals "_law_query" = some (some (.ref fa21)))
    (l21 : K.lookup fa21 = some ⟨oc21, od21, .func (PySem.W.fnOf "_law_query" "_law_query" (defArgs s__law_query) (defBody s__law_query) (defScope s__law_query) .none kV21 dc21 pm21 an21 cd21 ct21), sl21⟩)
    (c21 : PySem.W.codeIn K cd21 "_law_query" = true) (k21 : PySem.W.keepIn K (.ref fa21) = true)
    (a22 : PySem.W.nsIn K mainGlobals "_law_known_query" = some (some (.ref fa22)))
    (l22 : K.lookup fa22 = some ⟨oc22, od22, .func (PySem.W.fnOf "_law_known_query" "_law_known_query" (defArgs s__law_known_query) (defBody s__law_known_query) (defScope s__law_known_query) .none kV22 dc22 pm22 an22 cd22 ct22), sl22⟩)
    (c22 : PySem.W.codeIn K cd22 "_law_known_query" = true) (k22 : PySem.W.keepIn K (.ref fa22) = true)
    (a23 : PySem.W.nsIn K mainGlobals "_law_rule" = some (some (.ref fa23)))
    (l23 : K.lookup fa23 = some ⟨oc23, od23, .func (PySem.W.fnOf "_law_rule" "_law_rule" (defArgs s__law_rule) (defBody s__law_rule) (defScope s__law_rule) .none kV23 dc23 pm23 an23 cd23 ct23), sl23⟩)
    (c23 : PySem.W.codeIn K cd23 "_law_rule" = true) (k23 : PySem.W.keepIn K (.ref fa23) = true)
    (a24 : PySem.W.nsIn K mainGlobals "_law_rules" = some (some (.ref fa24)))
    (l24 : K.lookup fa24 = some ⟨oc24, od24, .func (PySem.W.fnOf "_law_rules" "_law_rules" (defArgs s__law_rules) (defBody s__law_rules) (defScope s__law_rules) .none kV24 dc24 pm24 an24 cd24 ct24), sl24⟩)
    (c24 : PySem.W.codeIn K cd24 "_law_rules" = true) (k24 : PySem.W.keepIn K (.ref fa24) = true)
    (a25 : PySem.W.nsIn K mainGlobals "_law_closure" = some (some (.ref fa25)))
    (l25 : K.lookup fa25 = some ⟨oc25, od25, .func (PySem.W.fnOf "_law_closure" "_law_closure" (defArgs s__law_closure) (defBody s__law_closure) (defScope s__law_closure) .none kV25 dc25 pm25 an25 cd25 ct25), sl25⟩)
    (c25 : PySem.W.codeIn K cd25 "_law_closure" = true) (k25 : PySem.W.keepIn K (.ref fa25) = true)
    (a26 : PySem.W.nsIn K mainGlobals "_law_settled" = some (some (.ref fa26)))
    (l26 : K.lookup fa26 = some ⟨oc26, od26, .func (PySem.W.fnOf "_law_settled" "_law_settled" (defArgs s__law_settled) (defBody s__law_settled) (defScope s__law_settled) .none kV26 dc26 pm26 an26 cd26 ct26), sl26⟩)
    (c26 : PySem.W.codeIn K cd26 "_law_settled" = true) (k26 : PySem.W.keepIn K (.ref fa26) = true)
    (a27 : PySem.W.nsIn K mainGlobals "_law_parts" = some (some (.ref fa27)))
    (l27 : K.lookup fa27 = some ⟨oc27, od27, .func (PySem.W.fnOf "_law_parts" "_law_parts" (defArgs s__law_parts) (defBody s__law_parts) (defScope s__law_parts) .none kV27 dc27 pm27 an27 cd27 ct27), sl27⟩)
    (c27 : PySem.W.codeIn K cd27 "_law_parts" = true) (k27 : PySem.W.keepIn K (.ref fa27) = true)
    (a28 : PySem.W.nsIn K mainGlobals "_law_wanted" = some (some (.ref fa28)))
    (l28 : K.lookup fa28 = some ⟨oc28, od28, .func (PySem.W.fnOf "_law_wanted" "_law_wanted" (defArgs s__law_wanted) (defBody s__law_wanted) (defScope s__law_wanted) .none kV28 dc28 pm28 an28 cd28 ct28), sl28⟩)
    (c28 : PySem.W.codeIn K cd28 "_law_wanted" = true) (k28 : PySem.W.keepIn K (.ref fa28) = true)
    (a29 : PySem.W.nsIn K mainGlobals "_law_covers" = some (some (.ref fa29)))
    (l29 : K.lookup fa29 = some ⟨oc29, od29, .func (PySem.W.fnOf "_law_covers" "_law_covers" (defArgs s__law_covers) (defBody s__law_covers) (defScope s__law_covers) .none kV29 dc29 pm29 an29 cd29 ct29), sl29⟩)
    (c29 : PySem.W.codeIn K cd29 "_law_covers" = true) (k29 : PySem.W.keepIn K (.ref fa29) = true)
    (a30 : PySem.W.nsIn K mainGlobals "_law_coverers" = some (some (.ref fa30)))
    (l30 : K.lookup fa30 = some ⟨oc30, od30, .func (PySem.W.fnOf "_law_coverers" "_law_coverers" (defArgs s__law_coverers) (defBody s__law_coverers) (defScope s__law_coverers) .none kV30 dc30 pm30 an30 cd30 ct30), sl30⟩)
    (c30 : PySem.W.codeIn K cd30 "_law_coverers" = true) (k30 : PySem.W.keepIn K (.ref fa30) = true)
    (a31 : PySem.W.nsIn K mainGlobals "_law_is_headed" = some (some (.ref fa31)))
    (l31 : K.lookup fa31 = some ⟨oc31, od31, .func (PySem.W.fnOf "_law_is_headed" "_law_is_headed" (defArgs s__law_is_headed) (defBody s__law_is_headed) (defScope s__law_is_headed) .none kV31 dc31 pm31 an31 cd31 ct31), sl31⟩)
    (c31 : PySem.W.codeIn K cd31 "_law_is_headed" = true) (k31 : PySem.W.keepIn K (.ref fa31) = true)
    (a32 : PySem.W.nsIn K mainGlobals "law" = some (some (.ref fa32)))
    (l32 : K.lookup fa32 = some ⟨oc32, od32, .func (PySem.W.fnOf "law" "law" (defArgs s_law) (defBody s_law) (defScope s_law) .none kV32 dc32 pm32 an32 cd32 ct32), sl32⟩)
    (c32 : PySem.W.codeIn K cd32 "law" = true) (k32 : PySem.W.keepIn K (.ref fa32) = true)
    (z0 : PySem.W.nsIn K mainGlobals "tuple" = some none)
    (z1 : PySem.W.nsIn K mainGlobals "sorted" = some none)
    (z2 : PySem.W.nsIn K mainGlobals "all" = some none)
    (z3 : PySem.W.nsIn K mainGlobals "list" = some none)
    (z4 : PySem.W.nsIn K mainGlobals "len" = some none)
    (z5 : PySem.W.nsIn K mainGlobals "enumerate" = some none)
    (z6 : PySem.W.nsIn K mainGlobals "set" = some none)
    (z7 : PySem.W.nsIn K mainGlobals "any" = some none)
    (z8 : PySem.W.nsIn K mainGlobals "range" = some none)
    (z9 : PySem.W.nsIn K mainGlobals "int" = some none)
    (z10 : PySem.W.nsIn K mainGlobals "min" = some none)
    (z11 : PySem.W.nsIn K mainGlobals "max" = some none)
    (z12 : PySem.W.nsIn K mainGlobals "repr" = some none) :
    ∃ fd : FuncData, (∀ (s : Shared) (v : Value), BindsTo s fd ⟨[v], []⟩ [("script", v)]) ∧ ∀ b : Heap, K.In b → b.Ns mainGlobals mg → SMb b → FnG l.prog w K mg b 9 fa fd ["script"] (spLaw K) := by
  have e := hfa.symm.trans (PySem.W.mg_of kin G a32)
  cases e
  have F0 := fun_mk (st := s_variables_of) l0 c0 k0
  have m0 := PySem.W.mg_of kin G a0
  have F1 := fun_mk (st := s_contains_all) l1 c1 k1
  have m1 := PySem.W.mg_of kin G a1
  have F2 := fun_mk (st := s_longest_chain) l2 c2 k2
  have m2 := PySem.W.mg_of kin G a2
  have F3 := fun_mk (st := s_reached_by) l3 c3 k3
  have m3 := PySem.W.mg_of kin G a3
  have F4 := fun_mk (st := s_closure_of) l4 c4 k4
  have m4 := PySem.W.mg_of kin G a4
  have F5 := fun_mk (st := s_settled_of) l5 c5 k5
  have m5 := PySem.W.mg_of kin G a5
  have F6 := fun_mk (st := s_open_of) l6 c6 k6
  have m6 := PySem.W.mg_of kin G a6
  have F7 := fun_mk (st := s_parts_of) l7 c7 k7
  have m7 := PySem.W.mg_of kin G a7
  have F8 := fun_mk (st := s_joined_part) l8 c8 k8
  have m8 := PySem.W.mg_of kin G a8
  have F9 := fun_mk (st := s_touches) l9 c9 k9
  have m9 := PySem.W.mg_of kin G a9
  have F10 := fun_mk (st := s_settled_in) l10 c10 k10
  have m10 := PySem.W.mg_of kin G a10
  have F11 := fun_mk (st := s_does_cover) l11 c11 k11
  have m11 := PySem.W.mg_of kin G a11
  have F12 := fun_mk (st := s_is_headed) l12 c12 k12
  have m12 := PySem.W.mg_of kin G a12
  have F13 := fun_mk (st := s_is_covered) l13 c13 k13
  have m13 := PySem.W.mg_of kin G a13
  have F14 := fun_mk (st := s__law_pen) l14 c14 k14
  have m14 := PySem.W.mg_of kin G a14
  have F15 := fun_mk (st := s__law_fresh) l15 c15 k15
  have m15 := PySem.W.mg_of kin G a15
  have F16 := fun_mk (st := s__law_draw) l16 c16 k16
  have m16 := PySem.W.mg_of kin G a16
  have F17 := fun_mk (st := s__law_one_of) l17 c17 k17
  have m17 := PySem.W.mg_of kin G a17
  have F18 := fun_mk (st := s__law_variables) l18 c18 k18
  have m18 := PySem.W.mg_of kin G a18
  have F19 := fun_mk (st := s__law_some_of) l19 c19 k19
  have m19 := PySem.W.mg_of kin G a19
  have F20 := fun_mk (st := s__law_atom) l20 c20 k20
  have m20 := PySem.W.mg_of kin G a20
  have F21 := fun_mk (st := s__law_query) l21 c21 k21
  have m21 := PySem.W.mg_of kin G a21
  have F22 := fun_mk (st := s__law_known_query) l22 c22 k22
  have m22 := PySem.W.mg_of kin G a22
  have F23 := fun_mk (st := s__law_rule) l23 c23 k23
  have m23 := PySem.W.mg_of kin G a23
  have F24 := fun_mk (st := s__law_rules) l24 c24 k24
  have m24 := PySem.W.mg_of kin G a24
  have F25 := fun_mk (st := s__law_closure) l25 c25 k25
  have m25 := PySem.W.mg_of kin G a25
  have F26 := fun_mk (st := s__law_settled) l26 c26 k26
  have m26 := PySem.W.mg_of kin G a26
  have F27 := fun_mk (st := s__law_parts) l27 c27 k27
  have m27 := PySem.W.mg_of kin G a27
  have F28 := fun_mk (st := s__law_wanted) l28 c28 k28
  have m28 := PySem.W.mg_of kin G a28
  have F29 := fun_mk (st := s__law_covers) l29 c29 k29
  have m29 := PySem.W.mg_of kin G a29
  have F30 := fun_mk (st := s__law_coverers) l30 c30 k30
  have m30 := PySem.W.mg_of kin G a30
  have F31 := fun_mk (st := s__law_is_headed) l31 c31 k31
  have m31 := PySem.W.mg_of kin G a31
  have F32 := fun_mk (st := s_law) l32 c32 k32
  have m32 := PySem.W.mg_of kin G a32
  have b0 := F0.binds (ps := ["query"]) fun _ _ _ _ _ _ us hl => match us, hl with | [_], _ => rfl
  have b1 := F1.binds (ps := ["some", "wanted"]) fun _ _ _ _ _ _ us hl => match us, hl with | [_, _], _ => rfl
  have b2 := F2.binds (ps := ["rules", "some"]) fun _ _ _ _ _ _ us hl => match us, hl with | [_, _], _ => rfl
  have b3 := F3.binds (ps := ["rules", "some", "chain"]) fun _ _ _ _ _ _ us hl => match us, hl with | [_, _, _], _ => rfl
  have b4 := F4.binds (ps := ["query", "rules", "some"]) fun _ _ _ _ _ _ us hl => match us, hl with | [_, _, _], _ => rfl
  have b5 := F5.binds (ps := ["query", "rules"]) fun _ _ _ _ _ _ us hl => match us, hl with | [_, _], _ => rfl
  have b6 := F6.binds (ps := ["query", "rules"]) fun _ _ _ _ _ _ us hl => match us, hl with | [_, _], _ => rfl
  have b7 := F7.binds (ps := ["query", "rules"]) fun _ _ _ _ _ _ us hl => match us, hl with | [_, _], _ => rfl
  have b8 := F8.binds (ps := ["parts", "t"]) fun _ _ _ _ _ _ us hl => match us, hl with | [_, _], _ => rfl
  have b9 := F9.binds (ps := ["query", "part", "variables"]) fun _ _ _ _ _ _ us hl => match us, hl with | [_, _, _], _ => rfl
  have b10 := F10.binds (ps := ["query", "rules", "part"]) fun _ _ _ _ _ _ us hl => match us, hl with | [_, _, _], _ => rfl
  have b11 := F11.binds (ps := ["query", "rules", "t", "part"]) fun _ _ _ _ _ _ us hl => match us, hl with | [_, _, _, _], _ => rfl
  have b12 := F12.binds (ps := ["query", "rules"]) fun _ _ _ _ _ _ us hl => match us, hl with | [_, _], _ => rfl
  have b13 := F13.binds (ps := ["query", "rules", "part"]) fun _ _ _ _ _ _ us hl => match us, hl with | [_, _, _], _ => rfl
  have b14 := F14.binds (ps := ["script"]) fun _ _ _ _ _ _ us hl => match us, hl with | [_], _ => rfl
  have b15 := F15.binds (ps := ["pen"]) fun _ _ _ _ _ _ us hl => match us, hl with | [_], _ => rfl
  have b16 := F16.binds (ps := ["pen", "bound"]) fun _ _ _ _ _ _ us hl => match us, hl with | [_, _], _ => rfl
  have b17 := F17.binds (ps := ["pen", "some"]) fun _ _ _ _ _ _ us hl => match us, hl with | [_, _], _ => rfl
  have b18 := F18.binds (ps := ["query"]) fun _ _ _ _ _ _ us hl => match us, hl with | [_], _ => rfl
  have b19 := F19.binds (ps := ["pen", "things", "most"]) fun _ _ _ _ _ _ us hl => match us, hl with | [_, _, _], _ => rfl
  have b20 := F20.binds (ps := ["pen", "names", "width"]) fun _ _ _ _ _ _ us hl => match us, hl with | [_, _, _], _ => rfl
  have b21 := F21.binds (ps := ["pen", "many", "names", "width"]) fun _ _ _ _ _ _ us hl => match us, hl with | [_, _, _, _], _ => rfl
  have b22 := F22.binds (ps := ["pen"]) fun _ _ _ _ _ _ us hl => match us, hl with | [_], _ => rfl
  have b23 := F23.binds (ps := ["pen", "query"]) fun _ _ _ _ _ _ us hl => match us, hl with | [_, _], _ => rfl
  have b24 := F24.binds (ps := ["pen", "query"]) fun _ _ _ _ _ _ us hl => match us, hl with | [_, _], _ => rfl
  have b25 := F25.binds (ps := ["rules", "some"]) fun _ _ _ _ _ _ us hl => match us, hl with | [_, _], _ => rfl
  have b26 := F26.binds (ps := ["query", "rules"]) fun _ _ _ _ _ _ us hl => match us, hl with | [_, _], _ => rfl
  have b27 := F27.binds (ps := ["query", "rules"]) fun _ _ _ _ _ _ us hl => match us, hl with | [_, _], _ => rfl
  have b28 := F28.binds (ps := ["query", "rules", "part"]) fun _ _ _ _ _ _ us hl => match us, hl with | [_, _, _], _ => rfl
  have b29 := F29.binds (ps := ["query", "rules", "t", "part"]) fun _ _ _ _ _ _ us hl => match us, hl with | [_, _, _, _], _ => rfl
  have b30 := F30.binds (ps := ["query", "rules", "part"]) fun _ _ _ _ _ _ us hl => match us, hl with | [_, _, _], _ => rfl
  have b31 := F31.binds (ps := ["query", "rules"]) fun _ _ _ _ _ _ us hl => match us, hl with | [_, _], _ => rfl
  have n0 := PySem.W.mg_none_of kin G z0
  have n1 := PySem.W.mg_none_of kin G z1
  have n2 := PySem.W.mg_none_of kin G z2
  have n3 := PySem.W.mg_none_of kin G z3
  have n4 := PySem.W.mg_none_of kin G z4
  have n5 := PySem.W.mg_none_of kin G z5
  have n6 := PySem.W.mg_none_of kin G z6
  have n7 := PySem.W.mg_none_of kin G z7
  have n8 := PySem.W.mg_none_of kin G z8
  have n9 := PySem.W.mg_none_of kin G z9
  have n10 := PySem.W.mg_none_of kin G z10
  have n11 := PySem.W.mg_none_of kin G z11
  have n12 := PySem.W.mg_none_of kin G z12
  refine ⟨PySem.W.fnOf "law" "law" (defArgs s_law) (defBody s_law) (defScope s_law) .none kV32 dc32 pm32 an32 cd32 ct32, fun s v => .of_eq rfl, fun base _ _ hsm => ?_⟩
  have G14 : FnOk l.prog w K mg base CX0 8 _ _ _ _ := (pen_ok (k := 0) F14 sc__law_pen ⟨_, _, _, _, _, _, _, _, _, _, _, _, _, rfl⟩ rfl rfl n3).mono (by decide)
  have G0 : FnOk l.prog w K mg base CX0 1 _ _ ["query"] (spF K 1 f_variables_of) := def_ok (Φ := t_variables_of) (cc := c_variables_of) F0 sc_variables_of rfl (by decide +kernel) rfl hc_variables_of (Bls.cons n0 (Bls.cons n1 Bls.nil)).ok Gcs.nil.ok Known.nil fnOf_run
  have G1 : FnOk l.prog w K mg base CX0 1 _ _ ["some", "wanted"] (spF K 2 f_contains_all) := def_ok (Φ := t_contains_all) (cc := c_contains_all) F1 sc_contains_all rfl (by decide +kernel) rfl hc_contains_all (Bls.cons n2 Bls.nil).ok Gcs.nil.ok Known.nil fnOf_run
  have G3 : FnOk l.prog w K mg base CX0 1 _ _ ["rules", "some", "chain"] (spF K 3 f_reached_by) := def_ok (Φ := t_reached_by) (cc := c_reached_by) F3 sc_reached_by rfl (by decide +kernel) rfl hc_reached_by (Bls.cons n0 (Bls.cons n3 Bls.nil)).ok Gcs.nil.ok Known.nil fnOf_run
  have G8 : FnOk l.prog w K mg base CX0 1 _ _ ["parts", "t"] (spF K 2 f_joined_part) := def_ok (Φ := t_joined_part) (cc := c_joined_part) F8 sc_joined_part rfl (by decide +kernel) rfl hc_joined_part (Bls.cons n0 (Bls.cons n1 Bls.nil)).ok Gcs.nil.ok Known.nil fnOf_run
  have G9 : FnOk l.prog w K mg base CX0 1 _ _ ["query", "part", "variables"] (spF K 3 f_touches) := def_ok (Φ := t_touches) (cc := c_touches) F9 sc_touches rfl (by decide +kernel) rfl hc_touches (Bls.cons n7 Bls.nil).ok Gcs.nil.ok Known.nil fnOf_run
  have G15 : FnOk l.prog w K mg base CX0 1 _ _ ["pen"] (spF K 1 f__law_fresh) := def_ok (Φ := t__law_fresh) (cc := c__law_fresh) F15 sc__law_fresh rfl (by decide +kernel) rfl hc__law_fresh (Bls.cons n8 (Bls.cons n9 (Bls.cons n4 Bls.nil))).ok Gcs.nil.ok Known.nil fnOf_run
  have G18 : FnOk l.prog w K mg base CX0 1 _ _ ["query"] (spF K 1 f__law_variables) := def_ok (Φ := t__law_variables) (cc := c__law_variables) F18 sc__law_variables rfl (by decide +kernel) rfl hc__law_variables (Bls.cons n1 (Bls.cons n6 (Bls.cons n3 Bls.nil))).ok Gcs.nil.ok Known.nil fnOf_run
  have G25 : FnOk l.prog w K mg base CX0 1 _ _ ["rules", "some"] (spF K 2 f__law_closure) := def_ok (Φ := t__law_closure) (cc := c__law_closure) F25 sc__law_closure rfl (by decide +kernel) rfl hc__law_closure (Bls.cons n3 (Bls.cons n8 (Bls.cons n1 (Bls.cons n6 Bls.nil)))).ok Gcs.nil.ok Known.nil fnOf_run
  have G2 : FnOk l.prog w K mg base CX0 2 _ _ ["rules", "some"] (spF K 2 f_longest_chain) := def_ok (Φ := t_longest_chain) (cc := c_longest_chain) F2 sc_longest_chain rfl (by decide +kernel) rfl hc_longest_chain (Bls.cons n3 (Bls.cons n0 (Bls.cons n4 (Bls.cons n5 Bls.nil)))).ok Gcs.nil.ok (Known.cons (f := f_contains_all) rfl G1 (by decide) m1 F1.kp b1 (fun _ _ _ => fnOf_len) Known.nil) fnOf_run
  have G16 : FnOk l.prog w K mg base CX0 2 _ _ ["pen", "bound"] (spF K 2 f__law_draw) := def_ok (Φ := t__law_draw) (cc := c__law_draw) F16 sc__law_draw rfl (by decide +kernel) rfl hc__law_draw (Bls.cons n9 Bls.nil).ok Gcs.nil.ok (Known.cons (f := f__law_fresh) rfl G15 (by decide) m15 F15.kp b15 (fun _ _ _ => fnOf_len) Known.nil) fnOf_run
  have G26 : FnOk l.prog w K mg base CX0 2 _ _ ["query", "rules"] (spF K 2 f__law_settled) := def_ok (Φ := t__law_settled) (cc := c__law_settled) F26 sc__law_settled rfl (by decide +kernel) rfl hc__law_settled Bls.nil.ok Gcs.nil.ok (Known.cons (f := f__law_closure) rfl G25 (by decide) m25 F25.kp b25 (fun _ _ _ => fnOf_len) Known.nil) fnOf_run
  have G4 : FnOk l.prog w K mg base CX0 3 _ _ ["query", "rules", "some"] (spF K 3 f_closure_of) := def_ok (Φ := t_closure_of) (cc := c_closure_of) F4 sc_closure_of rfl (by decide +kernel) rfl hc_closure_of (Bls.cons n0 (Bls.cons n1 (Bls.cons n6 Bls.nil))).ok Gcs.nil.ok (Known.cons (f := f_reached_by) rfl G3 (by decide) m3 F3.kp b3 (fun _ _ _ => fnOf_len) (Known.cons (f := f_longest_chain) rfl G2 (by decide) m2 F2.kp b2 (fun _ _ _ => fnOf_len) Known.nil)) fnOf_run
  have G17 : FnOk l.prog w K mg base CX0 3 _ _ ["pen", "some"] (spF K 2 f__law_one_of) := def_ok (Φ := t__law_one_of) (cc := c__law_one_of) F17 sc__law_one_of rfl (by decide +kernel) rfl hc__law_one_of (Bls.cons n4 Bls.nil).ok Gcs.nil.ok (Known.cons (f := f__law_draw) rfl G16 (by decide) m16 F16.kp b16 (fun _ _ _ => fnOf_len) Known.nil) fnOf_run
  have G19 : FnOk l.prog w K mg base CX0 3 _ _ ["pen", "things", "most"] (spF K 3 f__law_some_of) := def_ok (Φ := t__law_some_of) (cc := c__law_some_of) F19 sc__law_some_of rfl (by decide +kernel) rfl hc__law_some_of (Bls.cons n8 (Bls.cons n3 (Bls.cons n10 (Bls.cons n4 Bls.nil)))).ok Gcs.nil.ok (Known.cons (f := f__law_draw) rfl G16 (by decide) m16 F16.kp b16 (fun _ _ _ => fnOf_len) Known.nil) fnOf_run
  have G20 : FnOk l.prog w K mg base CX0 3 _ _ ["pen", "names", "width"] (spF K 3 f__law_atom) := def_ok (Φ := t__law_atom) (cc := c__law_atom) F20 sc__law_atom rfl (by decide +kernel) rfl hc__law_atom (Bls.cons n8 (Bls.cons n0 (Bls.cons n3 (Bls.cons n10 (Bls.cons n4 Bls.nil))))).ok Gcs.nil.ok (Known.cons (f := f__law_draw) rfl G16 (by decide) m16 F16.kp b16 (fun _ _ _ => fnOf_len) Known.nil) fnOf_run
  have G27 : FnOk l.prog w K mg base CX0 3 _ _ ["query", "rules"] (spF K 2 f__law_parts) := def_ok (Φ := t__law_parts) (cc := c__law_parts) F27 sc__law_parts rfl (by decide +kernel) rfl hc__law_parts (Bls.cons n8 (Bls.cons n1 (Bls.cons n0 (Bls.cons n3 (Bls.cons n4 (Bls.cons n5 (Bls.cons n6 (Bls.cons n10 Bls.nil)))))))).ok Gcs.nil.ok (Known.cons (f := f__law_settled) rfl G26 (by decide) m26 F26.kp b26 (fun _ _ _ => fnOf_len) Known.nil) fnOf_run
  have G28 : FnOk l.prog w K mg base CX0 3 _ _ ["query", "rules", "part"] (spF K 3 f__law_wanted) := def_ok (Φ := t__law_wanted) (cc := c__law_wanted) F28 sc__law_wanted rfl (by decide +kernel) rfl hc__law_wanted (Bls.cons n3 Bls.nil).ok Gcs.nil.ok (Known.cons (f := f__law_settled) rfl G26 (by decide) m26 F26.kp b26 (fun _ _ _ => fnOf_len) Known.nil) fnOf_run
  have G5 : FnOk l.prog w K mg base CX0 4 _ _ ["query", "rules"] (spF K 2 f_settled_of) := def_ok (Φ := t_settled_of) (cc := c_settled_of) F5 sc_settled_of rfl (by decide +kernel) rfl hc_settled_of Bls.nil.ok Gcs.nil.ok (Known.cons (f := f_closure_of) rfl G4 (by decide) m4 F4.kp b4 (fun _ _ _ => fnOf_len) Known.nil) fnOf_run
  have G21 : FnOk l.prog w K mg base CX0 4 _ _ ["pen", "many", "names", "width"] (spF K 4 f__law_query) := def_ok (Φ := t__law_query) (cc := c__law_query) F21 sc__law_query rfl (by decide +kernel) rfl hc__law_query (Bls.cons n3 (Bls.cons n0 (Bls.cons n8 (Bls.cons n1 (Bls.cons n4 Bls.nil))))).ok Gcs.nil.ok (Known.cons (f := f__law_variables) rfl G18 (by decide) m18 F18.kp b18 (fun _ _ _ => fnOf_len) (Known.cons (f := f__law_atom) rfl G20 (by decide) m20 F20.kp b20 (fun _ _ _ => fnOf_len) (Known.cons (f := f__law_draw) rfl G16 (by decide) m16 F16.kp b16 (fun _ _ _ => fnOf_len) (Known.cons (f := f__law_some_of) rfl G19 (by decide) m19 F19.kp b19 (fun _ _ _ => fnOf_len) Known.nil)))) fnOf_run
  have G22 : FnOk l.prog w K mg base CX0 4 _ _ ["pen"] (spF K 1 f__law_known_query) := def_ok (Φ := t__law_known_query) (cc := c__law_known_query) F22 sc__law_known_query rfl (by decide +kernel) rfl hc__law_known_query (Bls.cons n3 (Bls.cons n0 (Bls.cons n4 Bls.nil))).ok Gcs.nil.ok (Known.cons (f := f__law_one_of) rfl G17 (by decide) m17 F17.kp b17 (fun _ _ _ => fnOf_len) (Known.cons (f := f__law_draw) rfl G16 (by decide) m16 F16.kp b16 (fun _ _ _ => fnOf_len) Known.nil)) fnOf_run
  have G23 : FnOk l.prog w K mg base CX0 4 _ _ ["pen", "query"] (spF K 2 f__law_rule) := def_ok (Φ := t__law_rule) (cc := c__law_rule) F23 sc__law_rule rfl (by decide +kernel) rfl hc__law_rule (Bls.cons n3 (Bls.cons n4 (Bls.cons n0 (Bls.cons n1 Bls.nil)))).ok Gcs.nil.ok (Known.cons (f := f__law_draw) rfl G16 (by decide) m16 F16.kp b16 (fun _ _ _ => fnOf_len) (Known.cons (f := f__law_some_of) rfl G19 (by decide) m19 F19.kp b19 (fun _ _ _ => fnOf_len) Known.nil)) fnOf_run
  have G29 : FnOk l.prog w K mg base CX0 4 _ _ ["query", "rules", "t", "part"] (spF K 4 f__law_covers) := def_ok (Φ := t__law_covers) (cc := c__law_covers) F29 sc__law_covers rfl (by decide +kernel) rfl hc__law_covers Bls.nil.ok Gcs.nil.ok (Known.cons (f := f__law_closure) rfl G25 (by decide) m25 F25.kp b25 (fun _ _ _ => fnOf_len) (Known.cons (f := f__law_wanted) rfl G28 (by decide) m28 F28.kp b28 (fun _ _ _ => fnOf_len) Known.nil)) fnOf_run
  have G6 : FnOk l.prog w K mg base CX0 5 _ _ ["query", "rules"] (spF K 2 f_open_of) := def_ok (Φ := t_open_of) (cc := c_open_of) F6 sc_open_of rfl (by decide +kernel) rfl hc_open_of (Bls.cons n0 Bls.nil).ok Gcs.nil.ok (Known.cons (f := f_settled_of) rfl G5 (by decide) m5 F5.kp b5 (fun _ _ _ => fnOf_len) (Known.cons (f := f_variables_of) rfl G0 (by decide) m0 F0.kp b0 (fun _ _ _ => fnOf_len) Known.nil)) fnOf_run
  have G10 : FnOk l.prog w K mg base CX0 5 _ _ ["query", "rules", "part"] (spF K 3 f_settled_in) := def_ok (Φ := t_settled_in) (cc := c_settled_in) F10 sc_settled_in rfl (by decide +kernel) rfl hc_settled_in (Bls.cons n0 Bls.nil).ok Gcs.nil.ok (Known.cons (f := f_settled_of) rfl G5 (by decide) m5 F5.kp b5 (fun _ _ _ => fnOf_len) (Known.cons (f := f_touches) rfl G9 (by decide) m9 F9.kp b9 (fun _ _ _ => fnOf_len) Known.nil)) fnOf_run
  have G24 : FnOk l.prog w K mg base CX0 5 _ _ ["pen", "query"] (spF K 2 f__law_rules) := def_ok (Φ := t__law_rules) (cc := c__law_rules) F24 sc__law_rules rfl (by decide +kernel) rfl hc__law_rules (Bls.cons n0 (Bls.cons n8 Bls.nil)).ok Gcs.nil.ok (Known.cons (f := f__law_rule) rfl G23 (by decide) m23 F23.kp b23 (fun _ _ _ => fnOf_len) (Known.cons (f := f__law_one_of) rfl G17 (by decide) m17 F17.kp b17 (fun _ _ _ => fnOf_len) (Known.cons (f := f__law_draw) rfl G16 (by decide) m16 F16.kp b16 (fun _ _ _ => fnOf_len) Known.nil))) fnOf_run
  have G30 : FnOk l.prog w K mg base CX0 5 _ _ ["query", "rules", "part"] (spF K 3 f__law_coverers) := def_ok (Φ := t__law_coverers) (cc := c__law_coverers) F30 sc__law_coverers rfl (by decide +kernel) rfl hc__law_coverers (Bls.cons n8 (Bls.cons n4 Bls.nil)).ok Gcs.nil.ok (Known.cons (f := f__law_covers) rfl G29 (by decide) m29 F29.kp b29 (fun _ _ _ => fnOf_len) Known.nil) fnOf_run
  have G7 : FnOk l.prog w K mg base CX0 6 _ _ ["query", "rules"] (spF K 2 f_parts_of) := def_ok (Φ := t_parts_of) (cc := c_parts_of) F7 sc_parts_of rfl (by decide +kernel) rfl hc_parts_of (Bls.cons n5 (Bls.cons n0 (Bls.cons n1 Bls.nil))).ok Gcs.nil.ok (Known.cons (f := f_open_of) rfl G6 (by decide) m6 F6.kp b6 (fun _ _ _ => fnOf_len) (Known.cons (f := f_touches) rfl G9 (by decide) m9 F9.kp b9 (fun _ _ _ => fnOf_len) (Known.cons (f := f_joined_part) rfl G8 (by decide) m8 F8.kp b8 (fun _ _ _ => fnOf_len) Known.nil))) fnOf_run
  have G11 : FnOk l.prog w K mg base CX0 6 _ _ ["query", "rules", "t", "part"] (spF K 4 f_does_cover) := def_ok (Φ := t_does_cover) (cc := c_does_cover) F11 sc_does_cover rfl (by decide +kernel) rfl hc_does_cover Bls.nil.ok Gcs.nil.ok (Known.cons (f := f_contains_all) rfl G1 (by decide) m1 F1.kp b1 (fun _ _ _ => fnOf_len) (Known.cons (f := f_closure_of) rfl G4 (by decide) m4 F4.kp b4 (fun _ _ _ => fnOf_len) (Known.cons (f := f_settled_in) rfl G10 (by decide) m10 F10.kp b10 (fun _ _ _ => fnOf_len) Known.nil))) fnOf_run
  have G31 : FnOk l.prog w K mg base CX0 6 _ _ ["query", "rules"] (spF K 2 f__law_is_headed) := def_ok (Φ := t__law_is_headed) (cc := c__law_is_headed) F31 sc__law_is_headed rfl (by decide +kernel) rfl hc__law_is_headed Bls.nil.ok Gcs.nil.ok (Known.cons (f := f__law_parts) rfl G27 (by decide) m27 F27.kp b27 (fun _ _ _ => fnOf_len) (Known.cons (f := f__law_coverers) rfl G30 (by decide) m30 F30.kp b30 (fun _ _ _ => fnOf_len) Known.nil)) fnOf_run
  have G13 : FnOk l.prog w K mg base CX0 7 _ _ ["query", "rules", "part"] (spF K 3 f_is_covered) := def_ok (Φ := t_is_covered) (cc := c_is_covered) F13 sc_is_covered rfl (by decide +kernel) rfl hc_is_covered (Bls.cons n7 (Bls.cons n8 (Bls.cons n4 Bls.nil))).ok Gcs.nil.ok (Known.cons (f := f_does_cover) rfl G11 (by decide) m11 F11.kp b11 (fun _ _ _ => fnOf_len) Known.nil) fnOf_run
  have G12 : FnOk l.prog w K mg base CX0 8 _ _ ["query", "rules"] (spF K 2 f_is_headed) := def_ok (Φ := t_is_headed) (cc := c_is_headed) F12 sc_is_headed rfl (by decide +kernel) rfl hc_is_headed (Bls.cons n2 Bls.nil).ok Gcs.nil.ok (Known.cons (f := f_is_covered) rfl G13 (by decide) m13 F13.kp b13 (fun _ _ _ => fnOf_len) (Known.cons (f := f_parts_of) rfl G7 (by decide) m7 F7.kp b7 (fun _ _ _ => fnOf_len) Known.nil)) fnOf_run
  exact law_ok (Φ := t_law) (cc := c_law) F32 sc_law rfl (by decide +kernel) ⟨_, _, _, _, _, rfl⟩ hc_law rfl rfl rfl rfl rfl (Bls.cons n8 (Bls.cons n11 (Bls.cons n10 (Bls.cons n12 (Bls.cons n4 (Bls.cons n0 Bls.nil)))))).ok Gcs.nil.ok (Known.cons (f := f__law_rules) rfl G24 (by decide) m24 F24.kp b24 (fun _ _ _ => fnOf_len) (Known.cons (f := f__law_parts) rfl G27 (by decide) m27 F27.kp b27 (fun _ _ _ => fnOf_len) (Known.cons (f := f__law_query) rfl G21 (by decide) m21 F21.kp b21 (fun _ _ _ => fnOf_len) (Known.cons (f := f__law_known_query) rfl G22 (by decide) m22 F22.kp b22 (fun _ _ _ => fnOf_len) (Known.cons (f := f__law_settled) rfl G26 (by decide) m26 F26.kp b26 (fun _ _ _ => fnOf_len) (Known.cons (f := f__law_draw) rfl G16 (by decide) m16 F16.kp b16 (fun _ _ _ => fnOf_len) (Known.cons (f := f__law_variables) rfl G18 (by decide) m18 F18.kp b18 (fun _ _ _ => fnOf_len) (Known.cons (f := f_parts_of) rfl G7 (by decide) m7 F7.kp b7 (fun _ _ _ => fnOf_len) (Known.cons (f := f_is_headed) rfl G12 (by decide) m12 F12.kp b12 (fun _ _ _ => fnOf_len) (Known.cons (f := f__law_is_headed) rfl G31 (by decide) m31 F31.kp b31 (fun _ _ _ => fnOf_len) (Known.cons (f := f_settled_of) rfl G5 (by decide) m5 F5.kp b5 (fun _ _ _ => fnOf_len) (Known.cons (f := f_open_of) rfl G6 (by decide) m6 F6.kp b6 (fun _ _ _ => fnOf_len) (Known.cons (f := f_does_cover) rfl G11 (by decide) m11 F11.kp b11 (fun _ _ _ => fnOf_len) (Known.cons (f := f__law_covers) rfl G29 (by decide) m29 F29.kp b29 (fun _ _ _ => fnOf_len) Known.nil)))))))))))))) hsm G14 m14 F14.kp b14 run_law
end K4
open PySem PySem.W PyProof.Rows
set_option maxHeartbeats 0 in
theorem PySem.Challenge.cw_viewstrike_k04_settled_variables_and_par_holds : PySem.Challenge.rw_viewstrike_k04_settled_variables_and_par.Holds := by
  w_on; o_law; k_head; (case hw => w_witness2)
  k_fill
  refine Mn.walkG (l := PySem.Challenge.rw_viewstrike_k04_settled_variables_and_par) (n := 63) (k := 9) (x := "script") (sp := fun w => Mn.spLaw _) rfl (by decide) rfl (by first | rfl | decide +kernel) ⟨rfl, by decide, by decide⟩ (fun w h Y => PySem.W.kIn_of Y) ?F (fun _ _ a ns hl _ ho hS => ⟨a, ns, rfl, ho, hS, hl, fun _ => rfl⟩)
  case F =>
    intro w mg fa h KX G hmg
    refine' K4.all_mk KX G hmg ?a0 ?l0 ?c0 ?k0 ?a1 ?l1 ?c1 ?k1 ?a2 ?l2 ?c2 ?k2 ?a3 ?l3 ?c3 ?k3 ?a4 ?l4 ?c4 ?k4 ?a5 ?l5 ?c5 ?k5 ?a6 ?l6 ?c6 ?k6 ?a7 ?l7 ?c7 ?k7 ?a8 ?l8 ?c8 ?k8 ?a9 ?l9 ?c9 ?k9 ?a10 ?l10 ?c10 ?k10 ?a11 ?l11 ?c11 ?k11 ?a12 ?l12 ?c12 ?k12 ?a13 ?l13 ?c13 ?k13 ?a14 ?l14 ?c14 ?k14 ?a15 ?l15 ?c15 ?k15 ?a16 ?l16 ?c16 ?k16 ?a17 ?l17 ?c17 ?k17 ?a18 ?l18 ?c18 ?k18 ?a19 ?l19 ?c19 ?k19 ?a20 ?l20 ?c20 ?k20 ?a21 ?l21 ?c21 ?k21 ?a22 ?l22 ?c22 ?k22 ?a23 ?l23 ?c23 ?k23 ?a24 ?l24 ?c24 ?k24 ?a25 ?l25 ?c25 ?k25 ?a26 ?l26 ?c26 ?k26 ?a27 ?l27 ?c27 ?k27 ?a28 ?l28 ?c28 ?k28 ?a29 ?l29 ?c29 ?k29 ?a30 ?l30 ?c30 ?k30 ?a31 ?l31 ?c31 ?k31 ?a32 ?l32 ?c32 ?k32 ?z0 ?z1 ?z2 ?z3 ?z4 ?z5 ?z6 ?z7 ?z8 ?z9 ?z10 ?z11 ?z12
    (case a0 => first | k_is | rfl)
    (case l0 => first | k_is | rfl)
    (case c0 => first | k_is | rfl)
    (case k0 => first | k_is | rfl)
    (case a1 => first | k_is | rfl)
    (case l1 => first | k_is | rfl)
    (case c1 => first | k_is | rfl)
    (case k1 => first | k_is | rfl)
    (case a2 => first | k_is | rfl)
    (case l2 => first | k_is | rfl)
    (case c2 => first | k_is | rfl)
    (case k2 => first | k_is | rfl)
    (case a3 => first | k_is | rfl)
    (case l3 => first | k_is | rfl)
    (case c3 => first | k_is | rfl)
    (case k3 => first | k_is | rfl)
    (case a4 => first | k_is | rfl)
    (case l4 => first | k_is | rfl)
    (case c4 => first | k_is | rfl)
    (case k4 => first | k_is | rfl)
    (case a5 => first | k_is | rfl)
    (case l5 => first | k_is | rfl)
    (case c5 => first | k_is | rfl)
    (case k5 => first | k_is | rfl)
    (case a6 => first | k_is | rfl)
    (case l6 => first | k_is | rfl)
    (case c6 => first | k_is | rfl)
    (case k6 => first | k_is | rfl)
    (case a7 => first | k_is | rfl)
    (case l7 => first | k_is | rfl)
    (case c7 => first | k_is | rfl)
    (case k7 => first | k_is | rfl)
    (case a8 => first | k_is | rfl)
    (case l8 => first | k_is | rfl)
    (case c8 => first | k_is | rfl)
    (case k8 => first | k_is | rfl)
    (case a9 => first | k_is | rfl)
    (case l9 => first | k_is | rfl)
    (case c9 => first | k_is | rfl)
    (case k9 => first | k_is | rfl)
    (case a10 => first | k_is | rfl)
    (case l10 => first | k_is | rfl)
    (case c10 => first | k_is | rfl)
    (case k10 => first | k_is | rfl)
    (case a11 => first | k_is | rfl)
    (case l11 => first | k_is | rfl)
    (case c11 => first | k_is | rfl)
    (case k11 => first | k_is | rfl)
    (case a12 => first | k_is | rfl)
    (case l12 => first | k_is | rfl)
    (case c12 => first | k_is | rfl)
    (case k12 => first | k_is | rfl)
    (case a13 => first | k_is | rfl)
    (case l13 => first | k_is | rfl)
    (case c13 => first | k_is | rfl)
    (case k13 => first | k_is | rfl)
    (case a14 => first | k_is | rfl)
    (case l14 => first | k_is | rfl)
    (case c14 => first | k_is | rfl)
    (case k14 => first | k_is | rfl)
    (case a15 => first | k_is | rfl)
    (case l15 => first | k_is | rfl)
    (case c15 => first | k_is | rfl)
    (case k15 => first | k_is | rfl)
    (case a16 => first | k_is | rfl)
    (case l16 => first | k_is | rfl)
    (case c16 => first | k_is | rfl)
    (case k16 => first | k_is | rfl)
    (case a17 => first | k_is | rfl)
    (case l17 => first | k_is | rfl)
    (case c17 => first | k_is | rfl)
    (case k17 => first | k_is | rfl)
    (case a18 => first | k_is | rfl)
    (case l18 => first | k_is | rfl)
    (case c18 => first | k_is | rfl)
    (case k18 => first | k_is | rfl)
    (case a19 => first | k_is | rfl)
    (case l19 => first | k_is | rfl)
    (case c19 => first | k_is | rfl)
    (case k19 => first | k_is | rfl)
    (case a20 => first | k_is | rfl)
    (case l20 => first | k_is | rfl)
    (case c20 => first | k_is | rfl)
    (case k20 => first | k_is | rfl)
    (case a21 => first | k_is | rfl)
    (case l21 => first | k_is | rfl)
    (case c21 => first | k_is | rfl)
    (case k21 => first | k_is | rfl)
    (case a22 => first | k_is | rfl)
    (case l22 => first | k_is | rfl)
    (case c22 => first | k_is | rfl)
    (case k22 => first | k_is | rfl)
    (case a23 => first | k_is | rfl)
    (case l23 => first | k_is | rfl)
    (case c23 => first | k_is | rfl)
    (case k23 => first | k_is | rfl)
    (case a24 => first | k_is | rfl)
    (case l24 => first | k_is | rfl)
    (case c24 => first | k_is | rfl)
    (case k24 => first | k_is | rfl)
    (case a25 => first | k_is | rfl)
    (case l25 => first | k_is | rfl)
    (case c25 => first | k_is | rfl)
    (case k25 => first | k_is | rfl)
    (case a26 => first | k_is | rfl)
    (case l26 => first | k_is | rfl)
    (case c26 => first | k_is | rfl)
    (case k26 => first | k_is | rfl)
    (case a27 => first | k_is | rfl)
    (case l27 => first | k_is | rfl)
    (case c27 => first | k_is | rfl)
    (case k27 => first | k_is | rfl)
    (case a28 => first | k_is | rfl)
    (case l28 => first | k_is | rfl)
    (case c28 => first | k_is | rfl)
    (case k28 => first | k_is | rfl)
    (case a29 => first | k_is | rfl)
    (case l29 => first | k_is | rfl)
    (case c29 => first | k_is | rfl)
    (case k29 => first | k_is | rfl)
    (case a30 => first | k_is | rfl)
    (case l30 => first | k_is | rfl)
    (case c30 => first | k_is | rfl)
    (case k30 => first | k_is | rfl)
    (case a31 => first | k_is | rfl)
    (case l31 => first | k_is | rfl)
    (case c31 => first | k_is | rfl)
    (case k31 => first | k_is | rfl)
    (case a32 => first | k_is | rfl)
    (case l32 => first | k_is | rfl)
    (case c32 => first | k_is | rfl)
    (case k32 => first | k_is | rfl)
    (case z0 => first | k_is | rfl)
    (case z1 => first | k_is | rfl)
    (case z2 => first | k_is | rfl)
    (case z3 => first | k_is | rfl)
    (case z4 => first | k_is | rfl)
    (case z5 => first | k_is | rfl)
    (case z6 => first | k_is | rfl)
    (case z7 => first | k_is | rfl)
    (case z8 => first | k_is | rfl)
    (case z9 => first | k_is | rfl)
    (case z10 => first | k_is | rfl)
    (case z11 => first | k_is | rfl)
    (case z12 => first | k_is | rfl)
