import PyProof.Rows.All
import Wide.All
import OpenK.AllK
import Wide.FinOn
import HandS.ForMost
import HandS.ForExc
import HandS.IsInst
import HandS.ExcIs
import HandS.ExcValue
import HandS.Wide
import HandS.WideBits
import HandS.Style
import HandS.SortInts
import HandS.Lambda
import HandS.Nested
import HandS.More
import HandS.Conv
import HandS.EndOwn
import HandS.EndTab
import HandS.TryOnly
import HandS.Sort
import HandS.Rev
import HandS.Small
import PySem.Challenge.RW_setsums_k13_a_book
set_option Elab.async false
set_option linter.all false
set_option maxRecDepth 100000
set_option maxHeartbeats 4000000
namespace DY
open PySem PySem.Spec PyProof.Rows L2

/-! ### data without addresses -/
structure Gd where
  K : PySem.W.Frag
  A : Nat → Addr
  /-- where the tables of code objects stand -/
  T : Nat → Addr

inductive D where
  | non | bl (b : Bool) | int (i : Int) | str (x : Str) | lst (ds : List D) | tup (ds : List D) | scr (ns : List Int) | exc (n : Nat) | emp | fn (k : Nat) | rng (n : Int) | ins (ns : List Str) (ds : List D)

/-! ### lambdas: their texts, the names of their code objects by place, how many tables -/
structure LT where
  qual : Str
  params : Arguments
  body : Expr
  scope : Scope
class NM where
  nm : Nat → Nat → Str
  nt : Nat
  L : Nat → LT
/-- the lambda of this text, its code object at c -/
def LamO [NM] (a : Addr) (k : Nat) (c : Addr) : HO := .ext fun h => ∃ (pm ctv : Value), h.get? a = some (PySem.W.kla_obj "<lambda>" (NM.L k).qual (NM.L k).params (NM.L k).body (NM.L k).scope [] pm c ctv)
/-- a table's code objects are known under the names that their places have -/
def GoodT [NM] (H : Hp) (ps : Array Value) : Prop := TriplesOk ps.toList ∧ ∀ (pos : Pos) (cv : Value), codeAmong pos ps.toList = some cv → ∃ c, cv = .ref c ∧ H c = some (LamX.CodeO c (NM.nm pos.line pos.col))
/-- what becomes of what stands at b: tables may grow, all else stays -/
def SmO [NM] (H' : Hp) (b : Addr) : HO → Prop
  | .tbl ps => ∃ ps', H' b = some (.tbl ps') ∧ (ps' = ps ∨ GoodT H' ps')
  | o => H' b = some o
def Same [NM] (H H' : Hp) : Prop := ∀ b o, H b = some o → SmO H' b o
section
variable [NM]
theorem SmO.of {H' : Hp} {b : Addr} {o : HO} (h : H' b = some o) : SmO H' b o := by
  cases o <;> first | exact h | exact ⟨_, h, .inl rfl⟩
theorem SmO.any {H' : Hp} {b : Addr} {o : HO} (h : SmO H' b o) : ∃ o', H' b = some o' := by
  cases o <;> first | exact ⟨_, h⟩ | (obtain ⟨ps', h1, _⟩ := h; exact ⟨_, h1⟩)
theorem SmO.eq {H' : Hp} {b : Addr} {o : HO} (h : SmO H' b o) (n : ∀ ps, o ≠ .tbl ps) : H' b = some o := by
  cases o <;> first | exact h | exact absurd rfl (n _)
theorem Same.of {H H' : Hp} (h : ∀ b o, H b = some o → H' b = some o) : Same H H' := fun b o e => .of (h b o e)
theorem Same.refl (H : Hp) : Same H H := Same.of fun _ _ e => e
theorem codeO_ne {c : Addr} {q : Str} (ps : Array Value) : LamX.CodeO c q ≠ .tbl ps := fun z => by
  unfold LamX.CodeO at z
  cases z
theorem Same.ext {H H' : Hp} (s : Same H H') {a : Addr} {φ : Heap → Prop} (h : H a = some (.ext φ)) : H' a = some (.ext φ) := s _ _ h
theorem GoodT.same {H H' : Hp} {ps : Array Value} (s : Same H H') (g : GoodT H ps) : GoodT H' ps := ⟨g.1, fun pos cv h => by
  obtain ⟨c, e1, e2⟩ := g.2 pos cv h
  exact ⟨c, e1, s.ext e2⟩⟩
theorem SmO.same {H H' : Hp} (s : Same H H') {b : Addr} {o : HO} (h : SmO H b o) : SmO H' b o := by
  cases o <;> first | exact s _ _ h | skip
  rename_i ps
  obtain ⟨p1, e1, g1⟩ := h
  obtain ⟨p2, e2, g2⟩ := s _ _ e1
  refine ⟨p2, e2, ?_⟩
  rcases g2 with rfl | g2
  · exact g1.imp id fun g => g.same s
  · exact .inr g2
theorem Same.trans {H H1 H2 : Hp} (a : Same H H1) (b : Same H1 H2) : Same H H2 := fun c o h => (a c o h).same b
theorem Same.free {H H' : Hp} (e : Same H H') {l : Addr} (h : H' l = Option.none) : H l = Option.none := by
  cases q : H l with
  | none => rfl
  | some o =>
    obtain ⟨o', z⟩ := (e l o q).any
    rw [z] at h
    cases h
theorem Same.seq {K : PySem.W.Frag} {H H' : Hp} {a : Addr} {xs : List V} (e : Same H H') (h : SqL K H a xs) : SqL K H' a xs := by
  rcases h with h | h
  · refine .inl ?_
    rcases h with h | ⟨o, h⟩
    · exact .of (e _ _ h)
    · exact .inr ⟨o, e _ _ h⟩
  · exact .inr h
/-- free, or an object of its own kind -/
def Fre (H : Hp) (a : Addr) : Prop := H a = none ∨ ∃ φ, H a = some (.ext φ)
/-- no object of its own kind, no table -/
def OwnB (o : HO) : Bool := match o with
  | .ext _ | .tbl _ => false
  | _ => true
def Own (o : HO) : Prop := OwnB o = true
theorem own_at {H H' : Hp} {a : Addr} {o : HO} (s : Same H H') (h : H a = some o) (n : Own o) : H' a = some o := (s _ _ h).eq fun ps z => by
  rw [z] at n
  cases n
theorem Fre.no {H : Hp} {a : Addr} {o : HO} (q : Fre H a) (h : H a = some o) (n : Own o) : False := by
  rcases q with q | ⟨φ, q⟩
  · rw [q] at h
    cases h
  · rw [q] at h
    cases h
    cases n
theorem SmO.out {H H' : Hp} {b : Addr} {o : HO} (k : ∀ c φ, H c = some (.ext φ) → H' c = some (.ext φ)) (hb : H' b = H b) (h : SmO H b o) : SmO H' b o := by
  cases o with
  | tbl ps =>
    obtain ⟨p1, e1, g⟩ := h
    refine ⟨p1, hb.trans e1, g.imp id fun g => ⟨g.1, fun pos cv z => ?_⟩⟩
    obtain ⟨c, e2, e3⟩ := g.2 pos cv z
    exact ⟨c, e2, k _ _ e3⟩
  | _ => exact hb.trans h
/-- one object, of no own kind, is another from here on -/
theorem SmO.chg {H : Hp} {b p : Addr} {o u v : HO} (e : H p = some u) (n : Own u) (hb : b ≠ p) (h : SmO H b o) : SmO (upd H p v) b o :=
  h.out (fun c φ z => by
    rw [upd_ne fun q => ?_]
    · exact z
    · rw [q, e] at z
      cases z
      cases n) (upd_ne hb)
theorem Same.fre {H H' : Hp} (s : Same H H') {a : Addr} (h : Fre H' a) : Fre H a := by
  rcases h with h | ⟨φ, h⟩
  · exact .inl (s.free h)
  · cases q : H a with
    | none => exact .inl q
    | some o =>
      have z := s _ _ q
      cases o with
      | ext ψ => exact .inr ⟨ψ, q⟩
      | tbl ps =>
        obtain ⟨ps', e, _⟩ := z
        rw [h] at e
        cases e
      | _ =>
        have z : H' a = some _ := z
        rw [h] at z
        cases z
end
section
variable [NM]

/-- an error that is kept as a value -/
def ErrO (C : Addr) (a : Addr) : HO := .ext fun h => ∃ (oe : Obj) (fv : Array Value), h.get? a = some oe ∧ Zc (.ref C) none oe ∧ oe.data = .fields fv

mutual
inductive Rep (G : Gd) (B : Hp) : V → D → Prop
  | non : Rep G B .non .non
  | bl {b} : Rep G B (.bl b) (.bl b)
  | int {i} : Rep G B (.int i) (.int i)
  | str {x} : Rep G B (.str x) (.str x)
  | lst {a vs ds} : B a = some (.lst vs) → RepL G B vs ds → Rep G B (.ref a) (.lst ds)
  | tup {a vs ds} : B a = some (.tup vs) → RepL G B vs ds → Rep G B (.ref a) (.tup ds)
  | scr {a ns} : SqL G.K B a (ns.map V.int) → Rep G B (.ref a) (.scr ns)
  | exc {a n} : B a = some (ErrO (G.A n) a) → Rep G B (.ref a) (.exc n)
  | emp {a} : B a = some (.dK []) → Rep G B (.ref a) .emp
  | rng {a n} : B a = some (.rng 0 n) → Rep G B (.ref a) (.rng n)
  | ins {a dx vs ns ds} : B a = some (.ins (G.T 1001) dx (ns.zip vs)) → RepL G B vs ds → Rep G B (.ref a) (.ins ns ds)
  | fn {a k c} : B a = some (LamO a k c) → B c = some (LamX.CodeO c (NM.L k).qual) → Rep G B (.ref a) (.fn k)
inductive RepL (G : Gd) (B : Hp) : List V → List D → Prop
  | nil : RepL G B [] []
  | cons {v d vs ds} : Rep G B v d → RepL G B vs ds → RepL G B (v :: vs) (d :: ds)
end

mutual
theorem Rep.mono {G : Gd} {B B' : Hp} (e : Same B B') : ∀ {v d}, Rep G B v d → Rep G B' v d
  | _, _, .non => .non
  | _, _, .bl => .bl
  | _, _, .int => .int
  | _, _, .str => .str
  | _, _, .lst h r => .lst (e _ _ h) (RepL.mono e r)
  | _, _, .tup h r => .tup (e _ _ h) (RepL.mono e r)
  | _, _, .scr h => .scr (e.seq h)
  | _, _, .exc h => .exc (e _ _ h)
  | _, _, .emp h => .emp (e _ _ h)
  | _, _, .rng h => .rng (e _ _ h)
  | _, _, .ins h r => .ins (e _ _ h) (RepL.mono e r)
  | _, _, .fn h c => .fn (e.ext h) (e.ext c)
theorem RepL.mono {G : Gd} {B B' : Hp} (e : Same B B') : ∀ {vs ds}, RepL G B vs ds → RepL G B' vs ds
  | _, _, .nil => .nil
  | _, _, .cons h r => .cons (h.mono e) (r.mono e)
end

theorem RepL.length {G : Gd} {B : Hp} : ∀ {vs ds}, RepL G B vs ds → vs.length = ds.length
  | _, _, .nil => rfl
  | _, _, .cons _ r => congrArg (· + 1) r.length
theorem RepL.get {G : Gd} {B : Hp} : ∀ {vs ds} {i : Nat} {d}, RepL G B vs ds → ds[i]? = some d → ∃ v, vs[i]? = some v ∧ Rep G B v d
  | _, _, _, _, .nil, h => by simp at h
  | _, _, 0, _, .cons h _, e => by
    simp at e
    subst e
    exact ⟨_, rfl, h⟩
  | _, _, i + 1, _, .cons _ r, e => by
    obtain ⟨v, h1, h2⟩ := RepL.get (i := i) r (by simpa using e)
    exact ⟨v, by simpa using h1, h2⟩
theorem RepL.getV {G : Gd} {B : Hp} : ∀ {vs ds} {i : Nat} {v}, RepL G B vs ds → vs[i]? = some v → ∃ d, ds[i]? = some d ∧ Rep G B v d
  | _, _, _, _, .nil, h => by simp at h
  | _, _, 0, _, .cons h _, e => by
    simp at e
    subst e
    exact ⟨_, rfl, h⟩
  | _, _, i + 1, _, .cons _ r, e => by
    obtain ⟨v, h1, h2⟩ := RepL.getV (i := i) r (by simpa using e)
    exact ⟨v, by simpa using h1, h2⟩
theorem RepL.append {G : Gd} {B : Hp} : ∀ {vs ds ws es}, RepL G B vs ds → RepL G B ws es → RepL G B (vs ++ ws) (ds ++ es)
  | _, _, _, _, .nil, s => s
  | _, _, _, _, .cons h r, s => .cons h (r.append s)
theorem RepL.take {G : Gd} {B : Hp} : ∀ {vs ds} (n : Nat), RepL G B vs ds → RepL G B (vs.take n) (ds.take n)
  | _, _, 0, _ => .nil
  | _, _, _ + 1, .nil => .nil
  | _, _, n + 1, .cons h r => .cons h (r.take n)
theorem RepL.drop {G : Gd} {B : Hp} : ∀ {vs ds} (n : Nat), RepL G B vs ds → RepL G B (vs.drop n) (ds.drop n)
  | _, _, 0, r => r
  | _, _, _ + 1, .nil => .nil
  | _, _, n + 1, .cons _ r => r.drop n
theorem RepL.set {G : Gd} {B : Hp} {v d} (h : Rep G B v d) : ∀ {vs ds} (n : Nat), RepL G B vs ds → RepL G B (vs.set n v) (ds.set n d)
  | _, _, _, .nil => .nil
  | _, _, 0, .cons _ r => .cons h r
  | _, _, n + 1, .cons q r => .cons q (RepL.set h n r)
theorem RepL.reverse {G : Gd} {B : Hp} : ∀ {vs ds}, RepL G B vs ds → RepL G B vs.reverse ds.reverse
  | _, _, .nil => .nil
  | _, _, .cons h r => by
    rw [List.reverse_cons, List.reverse_cons]
    exact r.reverse.append (.cons h .nil)
theorem RepL.ints {G : Gd} {B : Hp} : ∀ {ns : List Int}, RepL G B (ns.map V.int) (ns.map D.int)
  | [] => .nil
  | _ :: _ => .cons .int RepL.ints
theorem RepL.intsV {G : Gd} {B : Hp} : ∀ {vs : List V} {ns : List Int}, RepL G B vs (ns.map D.int) → vs = ns.map V.int
  | _, [], .nil => rfl
  | _, _ :: _, .cons .int r => by rw [List.map_cons, r.intsV]
theorem RepL.bls {G : Gd} {B : Hp} : ∀ {vs : List V} {bs : List Bool}, RepL G B vs (bs.map D.bl) → vs = bs.map V.bl
  | _, [], .nil => rfl
  | _, _ :: _, .cons .bl r => by rw [List.map_cons, r.bls]

/-- data that no heap tells of -/
def D.flat : D → Bool
  | .non | .bl _ | .int _ | .str _ => true
  | _ => false
theorem Rep.any {G : Gd} {B B' : Hp} {v d} (h : Rep G B v d) (f : d.flat = true) : Rep G B' v d := by
  cases h with
  | non => exact .non
  | bl => exact .bl
  | int => exact .int
  | str => exact .str
  | _ => cases f
theorem RepL.any {G : Gd} {B B' : Hp} : ∀ {vs ds}, RepL G B vs ds → ds.all D.flat = true → RepL G B' vs ds
  | _, _, .nil, _ => .nil
  | _, _, .cons h r, f => by
    rw [List.all_cons, Bool.and_eq_true] at f
    exact .cons (h.any f.1) (r.any f.2)

/-- a step: B what is known, H the whole heap -/
structure Stp (B H B' H' : Hp) : Prop where
  b : Same B B'
  h : Same H H'
  s : Same B' H'
  n : ∀ a o, B' a = some o → (∃ o', B a = some o') ∨ Fre H a
theorem Stp.refl {B H : Hp} (s : Same B H) : Stp B H B H := ⟨Same.refl _, Same.refl _, s, fun _ o e => .inl ⟨o, e⟩⟩
theorem Stp.trans {B H B1 H1 B2 H2 : Hp} (x : Stp B H B1 H1) (y : Stp B1 H1 B2 H2) : Stp B H B2 H2 :=
  ⟨x.b.trans y.b, x.h.trans y.h, y.s, fun a o e => by
    rcases y.n a o e with ⟨o', q⟩ | q
    · exact x.n a o' q
    · exact .inr (x.h.fre q)⟩
theorem same_new {H : Hp} {p : Addr} {o : HO} (h : H p = none) : Same H (upd H p o) := Same.of fun b x e => by
  rw [upd_ne (ne_of_none e h)]
  exact e
/-- a new object that becomes known -/
theorem Stp.new {B H : Hp} (s : Same B H) {p : Addr} {o : HO} (hp : H p = none) : Stp B H (upd B p o) (upd H p o) :=
  ⟨same_new (s.free hp), same_new hp, fun b x e => by
    by_cases hb : b = p
    · subst hb
      rw [upd_same] at e
      cases e
      exact .of upd_same
    · rw [upd_ne hb] at e
      exact (s b x e).same (same_new hp), fun a x e => by
    by_cases ha : a = p
    · exact .inr (.inl (ha ▸ hp))
    · rw [upd_ne ha] at e
      exact .inl ⟨x, e⟩⟩
/-- a new object that stays unknown -/
theorem Stp.hid {B H : Hp} (s : Same B H) {p : Addr} {o : HO} (hp : H p = none) : Stp B H B (upd H p o) :=
  ⟨Same.refl _, same_new hp, s.trans (same_new hp), fun a x e => .inl ⟨x, e⟩⟩

inductive Pt where
  | dat (d : D) | own (ds : List D)
def Pt.d : Pt → D
  | .dat d => d
  | .own ds => .lst ds
/-- a tuple, or a list -/
def nstD (t : Bool) (ds : List D) : D := if t then .tup ds else .lst ds
def nob (t : Bool) (vs : List V) : HO := if t then .tup vs else .lst vs
theorem rep_nst {G : Gd} {B : Hp} {t : Bool} {a : Addr} {vs : List V} {ds : List D} (h : B a = some (nob t vs)) (r : RepL G B vs ds) : Rep G B (.ref a) (nstD t ds) := by
  cases t with
  | true => exact .tup h r
  | false => exact .lst h r
/-- the parts of a list: data, or a list at an address of its own -/
inductive PtL (G : Gd) (B H : Hp) : List V → List Pt → List Addr → Prop
  | nil : PtL G B H [] [] []
  | dat {v d vs ps qs} : Rep G B v d → PtL G B H vs ps qs → PtL G B H (v :: vs) (.dat d :: ps) qs
  | own {q ws ds vs ps qs} : H q = some (.lst ws) → RepL G B ws ds → PtL G B H vs ps qs → PtL G B H (.ref q :: vs) (.own ds :: ps) (q :: qs)
theorem PtL.mono {G : Gd} {B H B' H' : Hp} (s : Same B B') : ∀ {vs ps qs}, PtL G B H vs ps qs → (∀ q ∈ qs, H' q = H q) → PtL G B' H' vs ps qs
  | _, _, _, .nil, _ => .nil
  | _, _, _, .dat r t, k => .dat (r.mono s) (PtL.mono s t k)
  | _, _, _, .own h r t, k => .own ((k _ List.mem_cons_self).trans h) (r.mono s) (PtL.mono s t fun q m => k q (List.mem_cons_of_mem _ m))
theorem PtL.rep {G : Gd} {B H B' : Hp} (s : Same B B') : ∀ {vs ps qs}, PtL G B H vs ps qs → (∀ q ∈ qs, B' q = H q) → RepL G B' vs (ps.map Pt.d)
  | _, _, _, .nil, _ => .nil
  | _, _, _, .dat r t, k => .cons (r.mono s) (PtL.rep s t k)
  | _, _, _, .own h r t, k => .cons (.lst ((k _ List.mem_cons_self).trans h) (r.mono s)) (PtL.rep s t fun q m => k q (List.mem_cons_of_mem _ m))
theorem PtL.len {G : Gd} {B H : Hp} : ∀ {vs ps qs}, PtL G B H vs ps qs → vs.length = ps.length
  | _, _, _, .nil => rfl
  | _, _, _, .dat _ t => congrArg (· + 1) t.len
  | _, _, _, .own _ _ t => congrArg (· + 1) t.len
theorem PtL.has {G : Gd} {B H : Hp} : ∀ {vs ps qs}, PtL G B H vs ps qs → ∀ q ∈ qs, ∃ o, H q = some o ∧ Own o
  | _, _, _, .nil, q, m => absurd m List.not_mem_nil
  | _, _, _, .dat _ t, q, m => t.has q m
  | _, _, _, .own h _ t, q, m => by
    rcases List.mem_cons.mp m with e | m
    · exact ⟨.lst _, e ▸ h, rfl⟩
    · exact t.has q m
theorem own_nob {t : Bool} {vs : List V} : Own (nob t vs) := by cases t <;> rfl
/-- what an expression comes to: data; a new list; an error; a new list or tuple with new lists in it -/
inductive R where
  | ok (d : D) | nw (ds : List D) | ex (n : Nat) | nn (t : Bool) (ps : List Pt)
def R.val : R → Option D
  | .ok d => some d
  | .nw ds => some (.lst ds)
  | .nn t ps => some (nstD t (ps.map Pt.d))
  | .ex _ => none
def R.flat : R → Bool
  | .ok d => d.flat
  | .nw ds => ds.all D.flat
  | .nn _ _ => false
  | .ex _ => true
def Res (G : Gd) (H B' H' : Hp) (v : V) : R → Prop
  | .ok d => Rep G B' v d
  | .nw ds => ∃ p vs, v = .ref p ∧ H p = none ∧ B' p = none ∧ H' p = some (.lst vs) ∧ RepL G B' vs ds
  | .nn t ps => ∃ a vs qs, v = .ref a ∧ H' a = some (nob t vs) ∧ PtL G B' H' vs ps qs ∧ (a :: qs).Nodup ∧ ∀ p ∈ a :: qs, H p = none ∧ B' p = none
  | .ex _ => False
theorem Res.use {G : Gd} {B H B' H' : Hp} {v : V} {r : R} {d : D} (st : Stp B H B' H') (x : Res G H B' H' v r) (e : r.val = some d) : ∃ B2, Stp B H B2 H' ∧ Same B' B2 ∧ Rep G B2 v d := by
  cases r with
  | ok d' =>
    cases e
    exact ⟨B', st, Same.refl _, x⟩
  | nw ds =>
    cases e
    obtain ⟨p, vs, rfl, hp, bp, h1, r1⟩ := x
    have sm : Same B' (upd B' p (.lst vs)) := same_new bp
    refine ⟨upd B' p (.lst vs), ⟨st.b.trans sm, st.h, fun b o q => ?_, fun a o q => ?_⟩, sm, .lst upd_same (r1.mono sm)⟩
    · by_cases hb : b = p
      · subst hb
        rw [upd_same] at q
        cases q
        exact h1
      · rw [upd_ne hb] at q
        exact st.s b o q
    · by_cases hb : a = p
      · exact .inr (.inl (hb ▸ hp))
      · rw [upd_ne hb] at q
        exact st.n a o q
  | nn t ps =>
    cases e
    obtain ⟨a, vs, qs, rfl, ha, pt, nd, fr⟩ := x
    let B2 : Hp := fun p => if p ∈ a :: qs then H' p else B' p
    have sm : Same B' B2 := Same.of fun p o q => by
      by_cases m : p ∈ a :: qs
      · rw [(fr p m).2] at q
        cases q
      · show (if p ∈ a :: qs then H' p else B' p) = _
        rw [if_neg m, q]
    have at2 : ∀ p ∈ a :: qs, B2 p = H' p := fun p m => if_pos m
    refine ⟨B2, ⟨st.b.trans sm, st.h, fun p o q => ?_, fun p o q => ?_⟩, sm, rep_nst ((at2 a List.mem_cons_self).trans ha) (pt.rep sm fun q m => at2 q (List.mem_cons_of_mem _ m))⟩
    · by_cases m : p ∈ a :: qs
      · rw [at2 p m] at q
        exact .of q
      · have q : (if p ∈ a :: qs then H' p else B' p) = some o := q
        rw [if_neg m] at q
        exact st.s _ _ q
    · by_cases m : p ∈ a :: qs
      · exact .inr (.inl (fr p m).1)
      · have q : (if p ∈ a :: qs then H' p else B' p) = some o := q
        rw [if_neg m] at q
        exact st.n _ _ q
  | ex n => exact x.elim
theorem Res.back {G : Gd} {H0 H B' H' : Hp} {v : V} {r : R} (s : Same H0 H) (x : Res G H B' H' v r) : Res G H0 B' H' v r := by
  cases r with
  | ok d => exact x
  | nw ds =>
    obtain ⟨p, vs, e, hp, q⟩ := x
    exact ⟨p, vs, e, s.free hp, q⟩
  | nn t ps =>
    obtain ⟨a, vs, qs, e, ha, pt, nd, fr⟩ := x
    exact ⟨a, vs, qs, e, ha, pt, nd, fun p m => ⟨s.free (fr p m).1, (fr p m).2⟩⟩
  | ex n => exact x

abbrev En := List (Option D)
abbrev Fx := En → Option R
theorem goodT_nil {H : Hp} : GoodT H #[] := ⟨True.intro, fun pos cv h => by
  have z : codeAmong pos [] = some cv := h
  simp [codeAmong] at z⟩
/-- the tables of code objects -/
def TabsB (G : Gd) (B : Hp) : Prop := ∀ i, i < NM.nt → ∃ ps, B (G.T i) = some (.tbl ps) ∧ GoodT B ps
theorem TabsB.mono {G : Gd} {B B' : Hp} (s : Same B B') (t : TabsB G B) : TabsB G B' := fun i hi => by
  obtain ⟨ps, h1, h2⟩ := t i hi
  obtain ⟨p2, e2, g⟩ := s _ _ h1
  rcases g with rfl | g
  · exact ⟨_, e2, h2.same s⟩
  · exact ⟨_, e2, g⟩
structure EnvD (G : Gd) (B : Hp) (σ : L2.St) (ε : En) : Prop where
  tab : TabsB G B
  len : ε.length = σ.length
  has : ∀ (i : Nat) (d : D), ε[i]? = some (some d) → ∃ v, σ[i]? = some (some v) ∧ Rep G B v d
theorem EnvD.mono {G : Gd} {B B' : Hp} {σ : L2.St} {ε : En} (s : Same B B') (e : EnvD G B σ ε) : EnvD G B' σ ε := ⟨e.tab.mono s, e.len, fun i d q => by
  obtain ⟨v, h1, h2⟩ := e.has i d q
  exact ⟨v, h1, h2.mono s⟩⟩
theorem EnvD.set {G : Gd} {B : Hp} {σ : L2.St} {ε : En} (e : EnvD G B σ ε) (i : Nat) {v : V} {d : D} (r : Rep G B v d) : EnvD G B (σ.set i (some v)) (ε.set i (some d)) :=
  ⟨e.tab, by rw [List.length_set, List.length_set]; exact e.len, fun j x q => by
    by_cases hj : i = j
    · subst hj
      by_cases hl : i < ε.length
      · rw [List.getElem?_set_self hl] at q
        cases q
        exact ⟨v, List.getElem?_set_self (by rw [← e.len]; exact hl), r⟩
      · rw [List.getElem?_eq_none (by rw [List.length_set]; omega)] at q
        cases q
    · rw [List.getElem?_set_ne hj] at q ⊢
      exact e.has j x q⟩

/-- the reading of an expression whose data is f of the data of the slots -/
def teD (G : Gd) (W : WX) (f : Fx) : TE := fun σ H Q => ∃ (B : Hp) (ε : En) (r : R), Same B H ∧ EnvD G B σ ε ∧ f ε = some r ∧
  (∀ v B' H', Stp B H B' H' → Res G H B' H' v r → Q v H') ∧ (∀ n, r = .ex n → ∀ H', Same H H' → W (.ref (G.A n)) none σ H')
def ttD (G : Gd) (W : WX) (f : Fx) : TT := fun σ H Q => ∃ (B : Hp) (ε : En) (r : R), Same B H ∧ EnvD G B σ ε ∧ f ε = some r ∧
  (∀ b B' H', Stp B H B' H' → r = .ok (.bl b) → Q b H') ∧ (∀ n, r = .ex n → ∀ H', Same H H' → W (.ref (G.A n)) none σ H') ∧ ((∃ b, r = .ok (.bl b)) ∨ ∃ n, r = .ex n)

def seqR (r : Option R) (k : D → Option R) : Option R := match r with
  | some (.ok d) => k d
  | some (.nw ds) => k (.lst ds)
  | some (.nn t ps) => k (nstD t (ps.map Pt.d))
  | some (.ex n) => some (.ex n)
  | none => none
theorem seqR_inv {r : Option R} {k : D → Option R} {z : R} (h : seqR r k = some z) : (∃ r0 d, r = some r0 ∧ r0.val = some d ∧ k d = some z) ∨ ∃ n, r = some (.ex n) ∧ z = .ex n := by
  cases r with
  | none => cases h
  | some r0 =>
    cases r0 with
    | ok d => exact .inl ⟨_, d, rfl, rfl, h⟩
    | nw ds => exact .inl ⟨_, _, rfl, rfl, h⟩
    | nn t ps => exact .inl ⟨_, _, rfl, rfl, h⟩
    | ex n =>
      cases h
      exact .inr ⟨n, rfl, rfl⟩
def f1 (op : D → Option R) (f : Fx) : Fx := fun ε => seqR (f ε) op
def f2 (op : D → D → Option R) (f g : Fx) : Fx := fun ε => seqR (f ε) fun x => seqR (g ε) fun y => op x y

section
variable {G : Gd} {W : WX} {X : Cx} {σ : L2.St} {B H : Hp} {ε : En}
theorem _root_.L2.PE.impD {e : Expr} {t t' : TE} (h : PE X e t) (i : ∀ σ H Q, t' σ H Q → t σ H Q) : PE X e t' := ⟨fun pins s σ H Q I q => h.run pins s σ H Q I (i σ H Q q)⟩
theorem _root_.L2.PT.impD {e : Expr} {t t' : TT} (h : PT X e t) (i : ∀ σ H Q, t' σ H Q → t σ H Q) : PT X e t' := ⟨fun pins s σ H Q I q => h.run pins s σ H Q I (i σ H Q q)⟩
theorem _root_.L2.PW.impD {e : Expr} {t t' : TT} (h : PW X e t) (i : ∀ σ H Q, t' σ H Q → t σ H Q) : PW X e t' := ⟨fun wh pins s σ H Q I q => h.run wh pins s σ H Q I (i σ H Q q)⟩
theorem _root_.L2.PA.impD {es : List Expr} {t t' : TA} (h : PA X es t) (i : ∀ σ H Q, t' σ H Q → t σ H Q) : PA X es t' := ⟨fun po pins s σ H Q I q => h.run po pins s σ H Q I (i σ H Q q)⟩
theorem _root_.L2.PS.impD {e : Stmt} {t t' : TS} (h : PS X e t) (i : ∀ D σ H, t' D σ H → t D σ H) : PS X e t' := ⟨fun pins s σ H D I q => h.run pins s σ H D I (i D σ H q)⟩
theorem _root_.L2.PSs.impD {e : List Stmt} {t t' : TS} (h : PSs X e t) (i : ∀ D σ H, t' D σ H → t D σ H) : PSs X e t' := ⟨fun pins s σ H D I q => h.run pins s σ H D I (i D σ H q)⟩

/-- first f, then what hangs on its data -/
theorem te_bind {f : Fx} {k : D → Option R} {z : R} {Q : VK} (hs : Same B H) (he : EnvD G B σ ε) (hf : seqR (f ε) k = some z) (hx : ∀ n, z = .ex n → ∀ H', Same H H' → W (.ref (G.A n)) none σ H')
    (hq : ∀ d v B' H', Stp B H B' H' → EnvD G B' σ ε → Rep G B' v d → k d = some z → Q v H') : teD G W f σ H Q := by
  rcases seqR_inv hf with ⟨r0, d, e0, e1, e2⟩ | ⟨n, e0, rfl⟩
  · refine ⟨B, ε, r0, hs, he, e0, fun v B' H' st res => ?_, fun n q => ?_⟩
    · obtain ⟨B2, st2, s2, rp⟩ := res.use st e1
      exact hq d v B2 H' st2 (he.mono st2.b) rp e2
    · subst q
      cases e1
  · exact ⟨B, ε, .ex n, hs, he, e0, fun v B' H' st res => res.elim, hx⟩
/-- a one-place, a two-place operation by values and by data -/
def Op1 (G : Gd) (rr : V → Hp → VK → Prop) (op : D → Option R) : Prop := ∀ {x z}, op x = some z → ∀ {B H : Hp} {v}, Same B H → Rep G B v x → ∀ Q : VK, (∀ u B' H', Stp B H B' H' → Res G H B' H' u z → Q u H') → rr v H Q
def Op2 (G : Gd) (rr : R2) (op : D → D → Option R) : Prop := ∀ {x y z}, op x y = some z → ∀ {B H : Hp} {v w}, Same B H → Rep G B v x → Rep G B w y → ∀ Q : VK, (∀ u B' H', Stp B H B' H' → Res G H B' H' u z → Q u H') → rr v w H Q
theorem te_f1 {rr : V → Hp → VK → Prop} {op : D → Option R} {f : Fx} (ho : Op1 G rr op) (σ : L2.St) (H : Hp) (Q : VK) (h : teD G W (f1 op f) σ H Q) : teD G W f σ H fun x H1 => rr x H1 Q := by
  obtain ⟨B, ε, z, hs, he, hf, hq, hx⟩ := h
  refine te_bind hs he hf hx fun d v B1 H1 st e1 rp hk => ho hk st.s rp Q fun u B2 H2 st2 res => hq u B2 H2 (st.trans st2) (res.back st.h)
theorem te_f2 {rr : R2} {op : D → D → Option R} {f g : Fx} (ho : Op2 G rr op) (σ : L2.St) (H : Hp) (Q : VK) (h : teD G W (f2 op f g) σ H Q) : tOp rr (teD G W f) (teD G W g) σ H Q := by
  obtain ⟨B, ε, z, hs, he, hf, hq, hx⟩ := h
  refine te_bind hs he hf hx fun d v B1 H1 st e1 rp hk => ?_
  refine te_bind st.s e1 hk (fun n q H' s' => hx n q H' (st.h.trans s')) fun d2 v2 B2 H2 st2 e2 rp2 hk2 => ?_
  exact ho hk2 st2.s (rp.mono st2.b) rp2 Q fun u B3 H3 st3 res => hq u B3 H3 ((st.trans st2).trans st3) (res.back (st.trans st2).h)

theorem pd_op {o : Operator} {rr : R2} {op : D → D → Option R} {a b : Expr} {pos : Pos} {f g : Fx} (hr : OpR X (binaryOp o) rr) (ho : Op2 G rr op) (ha : PE X a (teD G W f)) (hb : PE X b (teD G W g)) : PE X (.BinOp a o b pos) (teD G W (f2 op f g)) :=
  (pe_op hr ha hb).impD fun σ H Q h => te_f2 ho σ H Q h
theorem pd_cmp {o : CmpOp} {rr : R2} {op : D → D → Option R} {a b : Expr} {pos : Pos} {f g : Fx} (hr : OpR X (compareOp o) rr) (ho : Op2 G rr op) (ha : PE X a (teD G W f)) (hb : PE X b (teD G W g)) (hm : behindInMarks o b = false) : PE X (.Compare a [o] [b] pos) (teD G W (f2 op f g)) :=
  (pe_cmpR hr ha hb hm).impD fun σ H Q h => te_f2 ho σ H Q h
theorem pd_un {o : UnaryOp} {rr : V → Hp → VK → Prop} {op : D → Option R} {a : Expr} {pos : Pos} {f : Fx} (hr : UnR X (unaryOp o) rr) (ho : Op1 G rr op) (ha : PE X a (teD G W f)) : PE X (.UnaryOp o a pos) (teD G W (f1 op f)) :=
  (pe_un hr ha).impD fun σ H Q h => te_f1 ho σ H Q h
theorem pd_ix {rr : R2} {op : D → D → Option R} {a b : Expr} {pos : Pos} {f g : Fx} (hr : IxR X rr) (ho : Op2 G rr op) (ha : PE X a (teD G W f)) (hb : PE X b (teD G W g)) (hs : PlainIx b) : PE X (.Subscript a b pos) (teD G W (f2 op f g)) :=
  (pe_ix hr ha hb hs).impD fun σ H Q h => te_f2 ho σ H Q h

/-- two rules for one operator -/
def rOr (r r' : R2) : R2 := fun x y H Q => r x y H Q ∨ r' x y H Q
theorem opr_or {fn : Value → Value → Sem Value} {r r' : R2} (h : OpR X fn r) (h' : OpR X fn r') : OpR X fn (rOr r r') := by
  intro pins s σ H x y u v Q I rx ry hh
  rcases hh with hh | hh
  · exact h pins s σ H x y u v Q I rx ry hh
  · exact h' pins s σ H x y u v Q I rx ry hh

/-! ### names, constants -/
def fV (i : Nat) : Fx := fun ε => match ε[i]? with
  | some (some d) => some (.ok d)
  | _ => none
def fC (d : D) : Fx := fun _ => some (.ok d)
theorem pd_var {i : Nat} {e : Expr} (h : PE X e (tVar i)) : PE X e (teD G W (fV i)) := h.impD fun σ H Q ⟨B, ε, r, hs, he, hf, hq, hx⟩ => by
  unfold fV at hf
  split at hf
  · rename_i d hd
    cases hf
    obtain ⟨v, h1, h2⟩ := he.has i d hd
    exact ⟨v, h1, hq v B H (Stp.refl hs) h2⟩
  · cases hf
theorem pd_c {e : Expr} {v : V} {d : D} (h : PE X e (tC v)) (r : ∀ B, Rep G B v d) : PE X e (teD G W (fC d)) := h.impD fun σ H Q ⟨B, ε, z, hs, he, hf, hq, hx⟩ => by
  cases hf
  exact hq v B H (Stp.refl hs) (r B)
theorem pd_int {i j pos} : PE X (.Constant (.int i) j pos) (teD G W (fC (.int i))) := pd_c pe_int fun _ => .int
theorem pd_bl {b j pos} : PE X (.Constant (.bool b) j pos) (teD G W (fC (.bl b))) := pd_c pe_bl fun _ => .bl
theorem pd_non {j pos} : PE X (.Constant .none j pos) (teD G W (fC .non)) := pd_c pe_non fun _ => .non
theorem pd_str {x j pos} : PE X (.Constant (.str x) j pos) (teD G W (fC (.str x))) := pd_c pe_str fun _ => .str

/-! ### arguments, displays, calls -/
def argsV : List Fx → En → Option (Except Nat (List D))
  | [], _ => some (.ok [])
  | f :: fs, ε => match f ε with
    | none => none
    | some (.ex n) => some (.error n)
    | some r => match argsV fs ε with
      | none => none
      | some (.error n) => some (.error n)
      | some (.ok ds) => (r.val).map fun d => .ok (d :: ds)
def taD (G : Gd) (W : WX) (fs : List Fx) : TA := fun σ H Q => ∃ (B : Hp) (ε : En) (z : Except Nat (List D)), Same B H ∧ EnvD G B σ ε ∧ argsV fs ε = some z ∧
  (∀ ds vs B' H', z = .ok ds → Stp B H B' H' → RepL G B' vs ds → Q vs H') ∧ (∀ n, z = .error n → ∀ H', Same H H' → W (.ref (G.A n)) none σ H')
theorem pda_nil : PA X [] (taD G W []) := pa_nil.impD fun σ H Q ⟨B, ε, z, hs, he, hf, hq, hx⟩ => by
  cases hf
  exact hq [] [] B H rfl (Stp.refl hs) .nil
theorem pda_cons {e : Expr} {es : List Expr} {f : Fx} {fs : List Fx} (h : PE X e (teD G W f)) (hr : PA X es (taD G W fs)) (hs : starEach (e :: es) X.env = (false, eval e X.env) :: starEach es X.env := by rfl) : PA X (e :: es) (taD G W (f :: fs)) :=
  (pa_cons h hr hs).impD fun σ H Q ⟨B, ε, z, hs, he, hf, hq, hx⟩ => by
    unfold argsV at hf
    cases e1 : f ε with
    | none =>
      rw [e1] at hf
      cases hf
    | some r =>
      have cont : ∀ d, r.val = some d → (match argsV fs ε with | none => none | some (.error n) => some (.error n) | some (.ok ds) => (r.val).map fun d => Except.ok (d :: ds)) = some z → tCons (teD G W f) (taD G W fs) σ H Q := fun d ed hf => by
        refine ⟨B, ε, r, hs, he, e1, fun v B' H' st res => ?_, fun n q => ?_⟩
        · obtain ⟨B2, st2, s2, rp⟩ := res.use st ed
          cases e2 : argsV fs ε with
          | none =>
            rw [e2] at hf
            cases hf
          | some y =>
            rw [e2] at hf
            refine ⟨B2, ε, y, st2.s, he.mono st2.b, e2, fun ds vs B3 H3 ey st3 rl => ?_, fun n ey H3 s3 => ?_⟩
            · subst ey
              rw [ed] at hf
              cases hf
              exact hq _ _ B3 H3 rfl (st2.trans st3) (.cons (rp.mono st3.b) rl)
            · subst ey
              cases hf
              exact hx n rfl H3 (st2.h.trans s3)
        · subst q
          cases ed
      rw [e1] at hf
      cases r with
      | ok d => exact cont d rfl hf
      | nw ds => exact cont _ rfl hf
      | nn t ps => exact cont _ rfl hf
      | ex n =>
        cases hf
        exact ⟨B, ε, .ex n, hs, he, e1, fun v B' H' st res => res.elim, fun m em H' s' => by
          cases em
          exact hx n rfl H' s'⟩
def seqA (z : Option (Except Nat (List D))) (k : List D → Option R) : Option R := match z with
  | none => none
  | some (.error n) => some (.ex n)
  | some (.ok ds) => k ds
def fA (op : List D → Option R) (fs : List Fx) : Fx := fun ε => seqA (argsV fs ε) op
theorem ta_bind {fs : List Fx} {op : List D → Option R} {z : R} {Q : List V → Hp → Prop} (hs : Same B H) (he : EnvD G B σ ε) (hf : seqA (argsV fs ε) op = some z) (hx : ∀ n, z = .ex n → ∀ H', Same H H' → W (.ref (G.A n)) none σ H')
    (hq : ∀ ds vs B' H', Stp B H B' H' → RepL G B' vs ds → op ds = some z → Q vs H') : taD G W fs σ H Q := by
  cases e : argsV fs ε with
  | none =>
    rw [e] at hf
    cases hf
  | some y =>
    rw [e] at hf
    refine ⟨B, ε, y, hs, he, e, fun ds vs B' H' ey st rl => ?_, fun n ey => ?_⟩
    · subst ey
      exact hq ds vs B' H' st rl hf
    · subst ey
      cases hf
      exact hx n rfl
def OpA (G : Gd) (rr : List V → Hp → VK → Prop) (op : List D → Option R) : Prop := ∀ {xs z}, op xs = some z → ∀ {B H : Hp} {vs}, Same B H → RepL G B vs xs → ∀ Q : VK, (∀ u B' H', Stp B H B' H' → Res G H B' H' u z → Q u H') → rr vs H Q
theorem te_fA {rr : List V → Hp → VK → Prop} {op : List D → Option R} {fs : List Fx} (ho : OpA G rr op) (σ : L2.St) (H : Hp) (Q : VK) (h : teD G W (fA op fs) σ H Q) : tCB rr (taD G W fs) σ H Q := by
  obtain ⟨B, ε, z, hs, he, hf, hq, hx⟩ := h
  exact ta_bind hs he hf hx fun ds vs B1 H1 st rl hk => ho hk st.s rl Q fun u B2 H2 st2 res => hq u B2 H2 (st.trans st2) (res.back st.h)
theorem pd_callB {x : Str} {id : String} {e : Expr} {es : List Expr} {p pos : Pos} {rr : List V → Hp → VK → Prop} {op : List D → Option R} {fs : List Fx} (hc : CallR X (.builtin id) rr) (ho : OpA G rr op) (hg : Gl X x) (hm : X.mg x = none) (hv : bootBuiltins x = some (.builtin id)) (ha : PA X (e :: es) (taD G W fs))
    (hn : x ≠ "__name__" := by decide) (hdb : (x == ("__debug__" : Str)) = false := by decide) (hs : starEach (e :: es) X.env = (false, eval e X.env) :: starEach es X.env := by rfl) (hpl : (backTo pos (starEach es X.env)).any (·.1) = false := by rfl) :
    PE X (.Call (.Name x p) (e :: es) [] pos) (teD G W (fA op fs)) := (pe_callB hc hg hm hv ha hn hdb hs hpl).impD fun σ H Q h => te_fA ho σ H Q h
theorem pd_callTy {x : Str} {T : String} {e : Expr} {es : List Expr} {p pos : Pos} {rr : List V → Hp → VK → Prop} {op : List D → Option R} {fs : List Fx} (hc : CallR X (.type T) rr) (ho : OpA G rr op) (hg : Gl X x) (hm : X.mg x = none) (hv : bootBuiltins x = some (.type T)) (ha : PA X (e :: es) (taD G W fs))
    (hn : x ≠ "__name__" := by decide) (hdb : (x == ("__debug__" : Str)) = false := by decide) (hs : starEach (e :: es) X.env = (false, eval e X.env) :: starEach es X.env := by rfl) (hpl : (backTo pos (starEach es X.env)).any (·.1) = false := by rfl) :
    PE X (.Call (.Name x p) (e :: es) [] pos) (teD G W (fA op fs)) := (pe_callTy hc hg hm hv ha hn hdb hs hpl).impD fun σ H Q h => te_fA ho σ H Q h
def oLst (ds : List D) : Option R := if ds.length ≤ 100000 then some (.nw ds) else none
def oTup (ds : List D) : Option R := if ds.length ≤ 100000 then some (.ok (.tup ds)) else none
theorem le_line {n : Nat} (h : n ≤ 100000) : n ≤ sizeLine := Nat.le_trans h (by decide)
theorem lt_line {n : Nat} (h : n < 100000) : n < sizeLine := Nat.lt_of_lt_of_le h (by decide)
theorem res_new {B H : Hp} {p : Addr} {vs : List V} {ds : List D} (s : Same B H) (hp : H p = none) (r : RepL G B vs ds) : Res G H B (upd H p (.lst vs)) (.ref p) (.nw ds) := ⟨p, vs, rfl, hp, s.free hp, upd_same, r⟩
theorem pd_lst {es : List Expr} {pos : Pos} {fs : List Fx} (h : PA X es (taD G W fs)) : PE X (.List es pos) (teD G W (fA oLst fs)) := (pe_lst h).impD fun σ H Q ⟨B, ε, z, hs, he, hf, hq, hx⟩ =>
  ta_bind hs he hf hx fun ds vs B1 H1 st rl hk => by
    unfold oLst at hk
    split at hk
    · rename_i hl
      cases hk
      refine ⟨by rw [rl.length]; exact le_line hl, fun p hp => hq _ B1 _ (st.trans (Stp.hid st.s hp)) ?_⟩
      exact (res_new st.s hp rl).back st.h
    · cases hk
theorem pd_tup {es : List Expr} {x1} {pos : Pos} {fs : List Fx} (h : PA X es (taD G W fs)) : PE X (.Tuple es x1 pos) (teD G W (fA oTup fs)) := (pe_tup h).impD fun σ H Q ⟨B, ε, z, hs, he, hf, hq, hx⟩ =>
  ta_bind hs he hf hx fun ds vs B1 H1 st rl hk => by
    unfold oTup at hk
    split at hk
    · rename_i hl
      cases hk
      refine ⟨by rw [rl.length]; exact le_line hl, fun p hp => hq _ (upd B1 p (.tup vs)) _ (st.trans (Stp.new st.s hp)) ?_⟩
      exact Rep.tup upd_same (rl.mono (same_new (st.s.free hp)))
    · cases hk
theorem pd_emp {pos : Pos} : PE X (.Dict [] [] pos) (teD G W (fC .emp)) := pe_dnewK.impD fun σ H Q ⟨B, ε, z, hs, he, hf, hq, hx⟩ => by
  cases hf
  intro d hd
  exact hq _ (upd B d (.dK [])) _ (Stp.new hs hd) (Rep.emp upd_same)

/-- a def's promise by data -/
def spD (G : Gd) (F : List D → Option R) : Sp := fun vs H Q E => ∃ (B : Hp) (ds : List D) (r : R), Same B H ∧ TabsB G B ∧ RepL G B vs ds ∧ F ds = some r ∧
  (∀ v B' H', Stp B H B' H' → Res G H B' H' v r → Q v H') ∧ (∀ n, r = .ex n → ∀ H', Same H H' → E (.ref (G.A n)) none H')
theorem pd_call {k : Nat} {f : Addr} {fd : FuncData} {ps : List Str} {x : Str} {e : Expr} {es : List Expr} {p pos : Pos} {F : List D → Option R} {fs : List Fx} (tk : Takes X W) (FO : FnOk X.prog X.w X.K X.mg X.base (L2.CX X.prog X.w) k f fd ps (spD G F)) (hr : Room k X.A) (hg : Gl X x) (hm : X.mg x = some (.ref f))
    (hk : PySem.W.keepIn X.K (.ref f) = true) (hb : Binds X.K fd ps []) (ha : PA X (e :: es) (taD G W fs)) (hdb : (x == ("__debug__" : Str)) = false := by decide)
    (hs : starEach (e :: es) X.env = (false, eval e X.env) :: starEach es X.env := by rfl) (hpl : (backTo pos (starEach es X.env)).any (·.1) = false := by rfl) : PE X (.Call (.Name x p) (e :: es) [] pos) (teD G W (fA F fs)) :=
  (pe_callS (E := WE W) FO hr hg hm hk hb (fun σ => passAt tk σ) ha hdb hs hpl).impD fun σ H Q ⟨B, ε, z, hs, he, hf, hq, hx⟩ =>
    ta_bind hs he hf hx fun ds vs B1 H1 st rl hk => ⟨B1, ds, z, st.s, he.tab.mono st.b, rl, hk, fun v B2 H2 st2 res => hq v B2 H2 (st.trans st2) (res.back st.h), fun n q H2 s2 => hx n q H2 (st.h.trans s2)⟩
end
end
end DY
namespace DY
open PySem PySem.Spec PyProof.Rows L2
section
variable [NM]

/-! ### operations on ints -/
def oAdd : D → D → Option R
  | .int i, .int j => some (.ok (.int (i + j)))
  | .lst a, .lst b => if a.length + b.length ≤ 100000 then some (.nw (a ++ b)) else none
  | _, _ => none
def oSub : D → D → Option R
  | .int i, .int j => some (.ok (.int (i - j)))
  | _, _ => none
def MulOk (i j : Int) : Prop := CMul i j ∨ CMulW i j
instance (i j : Int) : Decidable (MulOk i j) := by unfold MulOk CMul CMulW; infer_instance
def repD (ds : List D) : Nat → List D
  | 0 => []
  | n + 1 => ds ++ repD ds n
def oMul : D → D → Option R
  | .int i, .int j => if MulOk i j then some (.ok (.int (i * j))) else none
  | .lst a, .int k => if 0 ≤ k ∧ k ≤ 100000 ∧ a.length * k.toNat ≤ 100000 then some (.nw (repD a k.toNat)) else none
  | _, _ => none
def oDiv : D → D → Option R
  | .int i, .int j => if 0 < j ∧ j < 1073741824 then some (.ok (.int (i / j))) else none
  | _, _ => none
def oMod : D → D → Option R
  | .int i, .int j => if 0 < j then some (.ok (.int (i % j))) else none
  | _, _ => none
def oPow : D → D → Option R
  | .int i, .int j => if 0 ≤ j ∧ j ≤ 1000000 ∧ i.natAbs < 2 ^ 64 then some (.ok (.int (i ^ j.toNat))) else none
  | _, _ => none
def oShl : D → D → Option R
  | .int i, .int j => if 0 ≤ j ∧ j ≤ 1000000 ∧ i.natAbs < 2 ^ 64 then some (.ok (.int (i * 2 ^ j.toNat))) else none
  | _, _ => none
def oShr : D → D → Option R
  | .int i, .int j => if 0 ≤ j then some (.ok (.int (i / 2 ^ j.toNat))) else none
  | _, _ => none
def oII (g : Int → Int → D) : D → D → Option R
  | .int i, .int j => some (.ok (g i j))
  | _, _ => none
def oAnd := oII fun i j => .int (Builtin.bitAnd i j)
def oOr := oII fun i j => .int (Builtin.bitOr i j)
def oXor := oII fun i j => .int (Builtin.bitXor i j)
def oLt := oII fun i j => .bl (decide (i < j))
def oLe := oII fun i j => .bl (decide (i ≤ j))
def oGt := oII fun i j => .bl (decide (j < i))
def oGe := oII fun i j => .bl (decide (j ≤ i))
def oNeg : D → Option R
  | .int i => some (.ok (.int (-i)))
  | _ => none

section
variable {G : Gd} {W : WX} {X : Cx}
theorem two_II {g : Int → Int → V} {g' : Int → Int → D} (hg : ∀ B i j, Rep G B (g i j) (g' i j)) : Op2 G (rI0 g) (oII g') := by
  intro x y z h B H v w hs rx ry Q q
  unfold oII at h
  split at h
  · cases h
    cases rx
    cases ry
    exact ⟨_, _, rfl, rfl, q _ B H (Stp.refl hs) (hg B _ _)⟩
  · cases h
theorem op2_and : Op2 G (rI0 fun i j => .int (Builtin.bitAnd i j)) oAnd := two_II fun _ _ _ => .int
theorem op2_or : Op2 G (rI0 fun i j => .int (Builtin.bitOr i j)) oOr := two_II fun _ _ _ => .int
theorem op2_xor : Op2 G (rI0 fun i j => .int (Builtin.bitXor i j)) oXor := two_II fun _ _ _ => .int
theorem op2_lt : Op2 G (rI0 fun i j => .bl (decide (i < j))) oLt := two_II fun _ _ _ => .bl
theorem op2_le : Op2 G (rI0 fun i j => .bl (decide (i ≤ j))) oLe := two_II fun _ _ _ => .bl
theorem op2_gt : Op2 G (rI0 fun i j => .bl (decide (j < i))) oGt := two_II fun _ _ _ => .bl
theorem op2_ge : Op2 G (rI0 fun i j => .bl (decide (j ≤ i))) oGe := two_II fun _ _ _ => .bl
theorem op2_sub : Op2 G (rI0 fun i j => .int (i - j)) oSub := by
  intro x y z h B H v w hs rx ry Q q
  unfold oSub at h
  split at h
  · cases h
    cases rx
    cases ry
    exact ⟨_, _, rfl, rfl, q _ B H (Stp.refl hs) .int⟩
  · cases h
theorem op2_add : Op2 G (rOr (rI0 fun i j => .int (i + j)) rCat) oAdd := by
  intro x y z h B H v w hs rx ry Q q
  unfold oAdd at h
  split at h
  · cases h
    cases rx
    cases ry
    exact .inl ⟨_, _, rfl, rfl, q _ B H (Stp.refl hs) .int⟩
  · split at h
    · rename_i hl
      cases h
      cases rx with
      | lst h1 r1 =>
        cases ry with
        | lst h2 r2 =>
          exact .inr ⟨_, _, _, _, rfl, rfl, hs _ _ h1, hs _ _ h2, by rw [r1.length, r2.length]; exact le_line hl, fun p hp => q _ B _ (Stp.hid hs hp) (res_new hs hp (r1.append r2))⟩
    · cases h
  · cases h
theorem two_I {C : Int → Int → Prop} {g : Int → Int → Int} {op : D → D → Option R} (hg : ∀ x y z, op x y = some z → ∃ i j, x = .int i ∧ y = .int j ∧ C i j ∧ z = .ok (.int (g i j))) : Op2 G (rI C fun i j => .int (g i j)) op := by
  intro x y z h B H v w hs rx ry Q q
  obtain ⟨i, j, rfl, rfl, c, rfl⟩ := hg x y z h
  cases rx
  cases ry
  exact ⟨_, _, rfl, rfl, c, q _ B H (Stp.refl hs) .int⟩
theorem op2_div : Op2 G (rI CDiv fun i j => .int (i / j)) oDiv := two_I fun x y z h => by
  unfold oDiv at h
  split at h
  · split at h
    · rename_i hc
      cases h
      exact ⟨_, _, rfl, rfl, hc, rfl⟩
    · cases h
  · cases h
theorem op2_mod : Op2 G (rI (fun _ j => 0 < j) fun i j => .int (i % j)) oMod := two_I fun x y z h => by
  unfold oMod at h
  split at h
  · split at h
    · rename_i hc
      cases h
      exact ⟨_, _, rfl, rfl, hc, rfl⟩
    · cases h
  · cases h
theorem op2_pow : Op2 G (rI CPow fun i j => .int (i ^ j.toNat)) oPow := two_I fun x y z h => by
  unfold oPow at h
  split at h
  · split at h
    · rename_i hc
      cases h
      exact ⟨_, _, rfl, rfl, hc, rfl⟩
    · cases h
  · cases h
theorem op2_shl : Op2 G (rI CPow fun i j => .int (i * 2 ^ j.toNat)) oShl := two_I fun x y z h => by
  unfold oShl at h
  split at h
  · split at h
    · rename_i hc
      cases h
      exact ⟨_, _, rfl, rfl, hc, rfl⟩
    · cases h
  · cases h
theorem op2_shr : Op2 G (rI (fun _ j => 0 ≤ j) fun i j => .int (i / 2 ^ j.toNat)) oShr := two_I fun x y z h => by
  unfold oShr at h
  split at h
  · split at h
    · rename_i hc
      cases h
      exact ⟨_, _, rfl, rfl, hc, rfl⟩
    · cases h
  · cases h
theorem op1_neg : Op1 G (rU fun i => .int (-i)) oNeg := by
  intro x z h B H v hs rx Q q
  unfold oNeg at h
  split at h
  · cases h
    cases rx
    exact ⟨_, rfl, q _ B H (Stp.refl hs) .int⟩
  · cases h
theorem repD_len (ds : List D) : ∀ n, (repD ds n).length = ds.length * n
  | 0 => by simp [repD]
  | n + 1 => by
    rw [repD, List.length_append, repD_len ds n, Nat.mul_succ]
    omega
end
end
end DY
namespace DY
open PySem PySem.Spec PyProof.Rows L2
section
variable [NM]
section
variable {G : Gd} {W : WX} {X : Cx}
def rMulA : R2 := rOr (rI CMul fun i j => .int (i * j)) (rOr (rI CMulW fun i j => .int (i * j)) rRep)
theorem opr_mulA : OpR X (binaryOp .Mult) rMulA := opr_or op_mul (opr_or op_mulW op_rep)
theorem repL_rep {B : Hp} {vs : List V} {ds : List D} (r : RepL G B vs ds) : ∀ n, RepL G B (List.replicate n vs).flatten (repD ds n)
  | 0 => .nil
  | n + 1 => by
    rw [List.replicate_succ, List.flatten_cons]
    exact r.append (repL_rep r n)
theorem op2_mul : Op2 G rMulA oMul := by
  intro x y z h B H v w hs rx ry Q q
  unfold oMul at h
  split at h
  · split at h
    · rename_i hc
      cases h
      cases rx
      cases ry
      rcases hc with hc | hc
      · exact .inl ⟨_, _, rfl, rfl, hc, q _ B H (Stp.refl hs) .int⟩
      · exact .inr (.inl ⟨_, _, rfl, rfl, hc, q _ B H (Stp.refl hs) .int⟩)
    · cases h
  · split at h
    · rename_i hc
      cases h
      cases ry
      cases rx with
      | lst h1 r1 =>
        refine .inr (.inr ⟨_, _, _, rfl, rfl, hs _ _ h1, by omega, by omega, ?_, fun p hp => q _ B _ (Stp.hid hs hp) (res_new hs hp (repL_rep r1 _))⟩)
        rw [r1.length]
        exact le_line hc.2.2
    · cases h
  · cases h

/-! ### == of data -/
mutual
def D.toP : D → PyData
  | .non => .none
  | .bl b => .bool b
  | .int i => .int i
  | .str x => .str x
  | .lst ds => .list (D.toPs ds)
  | .tup ds => .tuple (D.toPs ds)
  | .scr ns => .list (ns.map .int)
  | .exc _ => .none
  | .fn _ => .none
  | .emp => .dict []
  | .rng _ => .none
  | .ins _ _ => .none
def D.toPs : List D → List PyData
  | [] => []
  | d :: r => D.toP d :: D.toPs r
end
mutual
def D.plain : D → Bool
  | .exc _ | .emp | .fn _ | .rng _ | .ins _ _ => false
  | .lst ds | .tup ds => D.plains ds
  | .non | .bl _ | .int _ | .str _ | .scr _ => true
def D.plains : List D → Bool
  | [] => true
  | d :: r => D.plain d && D.plains r
end
def shp (d : D) : Bool := d.plain && SeqAt.shaped d.toP
theorem dp_ints {K : PySem.W.Frag} {B : Hp} : ∀ ns : List Int, DpAll K B (ns.map V.int) (ns.map PyData.int)
  | [] => .nil
  | n :: r => .cons (.int n) (dp_ints r)
mutual
theorem rep_dp {B : Hp} : ∀ {v d}, Rep G B v d → d.plain = true → Dp G.K B v d.toP
  | _, _, .non, _ => by
    rw [D.toP]
    exact .non
  | _, _, .bl, _ => by
    rw [D.toP]
    exact .bl _
  | _, _, .int, _ => by
    rw [D.toP]
    exact .int _
  | _, _, .str, _ => by
    rw [D.toP]
    exact .str _
  | _, _, .lst h r, p => by
    rw [D.plain] at p
    rw [D.toP]
    exact .lst (SqL.of h) (repL_dp r p)
  | _, _, .tup h r, p => by
    rw [D.plain] at p
    rw [D.toP]
    exact .tup (SqT.of h) (repL_dp r p)
  | _, _, .scr h, _ => by
    rw [D.toP]
    exact .lst h (dp_ints _)
  | _, _, .exc _, p => by
    rw [D.plain] at p
    cases p
  | _, _, .emp _, p => by
    rw [D.plain] at p
    cases p
  | _, _, .rng _, p => by
    rw [D.plain] at p
    cases p
  | _, _, .ins _ _, p => by
    rw [D.plain] at p
    cases p
  | _, _, .fn _ _, p => by
    rw [D.plain] at p
    cases p
theorem repL_dp {B : Hp} : ∀ {vs ds}, RepL G B vs ds → D.plains ds = true → DpAll G.K B vs (D.toPs ds)
  | _, _, .nil, _ => by
    rw [D.toPs]
    exact .nil
  | _, _, .cons h r, p => by
    rw [D.plains, Bool.and_eq_true] at p
    rw [D.toPs]
    exact .cons (rep_dp h p.1) (repL_dp r p.2)
end
def eqD (x y : D) : Bool := PyData.eqv x.toP y.toP
def oEq (x y : D) : Option R := if (shp x && shp y) = true then some (.ok (.bl (eqD x y))) else none
def oNe (x y : D) : Option R := if (shp x && shp y) = true then some (.ok (.bl (!eqD x y))) else none
theorem dp_mono {K : PySem.W.Frag} {B H : Hp} (s : Same B H) : (∀ {v p}, Dp K B v p → Dp K H v p) := by
  intro v p h
  refine Dp.rec (motive_1 := fun v p _ => Dp K H v p) (motive_2 := fun vs ps _ => DpAll K H vs ps) ?_ ?_ ?_ ?_ ?_ ?_ ?_ ?_ h
  · exact .non
  · exact fun b => .bl b
  · exact fun i => .int i
  · exact fun x => .str x
  · exact fun h _ ih => .lst (s.seq h) ih
  · intro a xs ds h _ ih
    refine .tup ?_ ih
    rcases h with (h | ⟨o, h⟩) | h
    · exact .inl (.inl (s _ _ h))
    · exact .inl (.inr ⟨o, s _ _ h⟩)
    · exact .inr h
  · exact .nil
  · exact fun _ _ i1 i2 => .cons i1 i2
theorem op2_eq : Op2 G (rEqD G.K) oEq := by
  intro x y z h B H v w hs rx ry Q q
  unfold oEq at h
  split at h
  · rename_i hc
    cases h
    rw [Bool.and_eq_true] at hc
    obtain ⟨h1, h2⟩ := hc
    unfold shp at h1 h2
    rw [Bool.and_eq_true] at h1 h2
    exact ⟨_, _, dp_mono hs (rep_dp rx h1.1), dp_mono hs (rep_dp ry h2.1), h1.2, h2.2, q _ B H (Stp.refl hs) .bl⟩
  · cases h
theorem op2_ne : Op2 G (rNeD G.K) oNe := by
  intro x y z h B H v w hs rx ry Q q
  unfold oNe at h
  split at h
  · rename_i hc
    cases h
    rw [Bool.and_eq_true] at hc
    obtain ⟨h1, h2⟩ := hc
    unfold shp at h1 h2
    rw [Bool.and_eq_true] at h1 h2
    exact ⟨_, _, dp_mono hs (rep_dp rx h1.1), dp_mono hs (rep_dp ry h2.1), h1.2, h2.2, q _ B H (Stp.refl hs) .bl⟩
  · cases h
theorem pd_eq {a b : Expr} {pos : Pos} {f g : Fx} {k : Nat} (hr : Room k X.A) (ha : PE X a (teD G W f)) (hb : PE X b (teD G W g)) (hm : behindInMarks .Eq b = false := by first | exact nobehind _ (by decide) (by decide) | rfl) (hK : X.K = G.K := by rfl) : PE X (.Compare a [.Eq] [b] pos) (teD G W (f2 oEq f g)) :=
  pd_cmp (by have h := op_eqD (X := X) hr.units; rw [hK] at h; exact h) op2_eq ha hb hm
theorem pd_ne {a b : Expr} {pos : Pos} {f g : Fx} {k : Nat} (hr : Room k X.A) (ha : PE X a (teD G W f)) (hb : PE X b (teD G W g)) (hm : behindInMarks .NotEq b = false := by first | exact nobehind _ (by decide) (by decide) | rfl) (hK : X.K = G.K := by rfl) : PE X (.Compare a [.NotEq] [b] pos) (teD G W (f2 oNe f g)) :=
  pd_cmp (by have h := op_neD (X := X) hr.units; rw [hK] at h; exact h) op2_ne ha hb hm

/-! ### is -/
def D.isNon : D → Bool
  | .non => true
  | _ => false
def oIsN : D → D → Option R
  | x, .non => some (.ok (.bl x.isNon))
  | _, _ => none
def oNotN : D → D → Option R
  | x, .non => some (.ok (.bl (!x.isNon)))
  | _, _ => none
def oIsB : D → D → Option R
  | .bl a, .bl b => some (.ok (.bl (decide (a = b))))
  | _, _ => none
theorem rep_non {B : Hp} {v d} (r : Rep G B v d) : decide (v = V.non) = d.isNon := by
  cases r <;> first | rfl | exact decide_eq_false (fun h => by cases h)
theorem op2_isN : Op2 G (fun x y H Q => y = .non ∧ Q (.bl (decide (x = .non))) H) oIsN := by
  intro x y z h B H v w hs rx ry Q q
  unfold oIsN at h
  split at h
  · cases h
    cases ry
    refine ⟨rfl, ?_⟩
    rw [rep_non rx]
    exact q _ B H (Stp.refl hs) .bl
  · cases h
theorem op2_notN : Op2 G (fun x y H Q => y = .non ∧ Q (.bl (!decide (x = .non))) H) oNotN := by
  intro x y z h B H v w hs rx ry Q q
  unfold oNotN at h
  split at h
  · cases h
    cases ry
    refine ⟨rfl, ?_⟩
    rw [rep_non rx]
    exact q _ B H (Stp.refl hs) .bl
  · cases h
theorem op2_isB : Op2 G rIsB oIsB := by
  intro x y z h B H v w hs rx ry Q q
  unfold oIsB at h
  split at h
  · cases h
    cases rx
    cases ry
    exact ⟨_, _, rfl, rfl, q _ B H (Stp.refl hs) .bl⟩
  · cases h

/-! ### in -/
def D.toV : D → V
  | .bl b => .bl b
  | .int i => .int i
  | .str x => .str x
  | _ => .non
theorem rep_flat {B : Hp} {v d} (r : Rep G B v d) (f : d.flat = true) : v = d.toV ∧ flatV v = true := by
  cases r <;> first | exact ⟨rfl, rfl⟩ | cases f
theorem repL_flat {B : Hp} : ∀ {vs ds}, RepL G B vs ds → ds.all D.flat = true → vs = ds.map D.toV ∧ vs.all flatV = true
  | _, _, .nil, _ => ⟨rfl, rfl⟩
  | _, _, .cons h r, f => by
    rw [List.all_cons, Bool.and_eq_true] at f
    obtain ⟨e1, e2⟩ := rep_flat h f.1
    obtain ⟨e3, e4⟩ := repL_flat r f.2
    refine ⟨by rw [List.map_cons, ← e1, ← e3], ?_⟩
    rw [List.all_cons, e2, e4] <;> rfl
def D.items : D → Option (List D)
  | .lst ds => some ds
  | .tup ds => some ds
  | _ => none
def inD (x : D) (ds : List D) : Bool := inV x.toV (ds.map D.toV)
def oIn (neg : Bool) (x y : D) : Option R := match y.items with
  | some ds => if (x.flat && ds.all D.flat) = true then some (.ok (.bl (if neg then !inD x ds else inD x ds))) else none
  | none => none
theorem rep_items {B : Hp} {v d ds} (r : Rep G B v d) (e : d.items = some ds) : ∃ p vs, v = .ref p ∧ (SqL G.K B p vs ∨ SqT G.K B p vs) ∧ RepL G B vs ds := by
  cases r <;> first | (cases e; done) | skip
  · rename_i h r
    cases e
    exact ⟨_, _, rfl, .inl (SqL.of h), r⟩
  · rename_i h r
    cases e
    exact ⟨_, _, rfl, .inr (SqT.of h), r⟩
theorem sqt_mono {K : PySem.W.Frag} {B H : Hp} {p : Addr} {vs : List V} (s : Same B H) (h : SqT K B p vs) : SqT K H p vs := by
  rcases h with (h | ⟨o, h⟩) | h
  · exact .inl (.inl (s _ _ h))
  · exact .inl (.inr ⟨o, s _ _ h⟩)
  · exact .inr h
theorem op2_in {neg : Bool} : Op2 G (rIn G.K neg) (oIn neg) := by
  intro x y z h B H v w hs rx ry Q q
  unfold oIn at h
  split at h
  · rename_i ds e
    split at h
    · rename_i hc
      cases h
      rw [Bool.and_eq_true] at hc
      obtain ⟨p, vs, rfl, sq, rl⟩ := rep_items ry e
      obtain ⟨e1, e2⟩ := rep_flat rx hc.1
      obtain ⟨e3, e4⟩ := repL_flat rl hc.2
      refine ⟨p, vs, rfl, sq.imp (fun s => hs.seq s) (sqt_mono hs), e2, e4, ?_⟩
      subst e1
      subst e3
      exact q _ B H (Stp.refl hs) .bl
    · cases h
  · cases h
theorem pd_in {a b : Expr} {pos : Pos} {f g : Fx} (ha : PE X a (teD G W f)) (hb : PE X b (teD G W g)) (hm : behindInMarks .In b = false := by rfl) (hK : X.K = G.K := by rfl) : PE X (.Compare a [.In] [b] pos) (teD G W (f2 (oIn false) f g)) :=
  pd_cmp (by have h := op_in_seq (X := X); rw [hK] at h; exact h) op2_in ha hb hm
theorem pd_notin {a b : Expr} {pos : Pos} {f g : Fx} (ha : PE X a (teD G W f)) (hb : PE X b (teD G W g)) (hm : behindInMarks .NotIn b = false := by rfl) (hK : X.K = G.K := by rfl) : PE X (.Compare a [.NotIn] [b] pos) (teD G W (f2 (oIn true) f g)) :=
  pd_cmp (by have h := op_notIn_seq (X := X); rw [hK] at h; exact h) op2_in ha hb hm

/-! ### items, slices -/
def oIx : D → D → Option R
  | .lst ds, .int i => (atI ds i).map R.ok
  | .tup ds, .int i => (atI ds i).map R.ok
  | .scr ns, .int i => (atI ns i).map fun n => R.ok (.int n)
  | _, _ => none
def rIxA (K : PySem.W.Frag) : R2 := fun x y H Q => rIxL K x y H Q ∨ rIxT K x y H Q
theorem repL_at {B : Hp} {vs : List V} {ds : List D} {i : Int} {d : D} (r : RepL G B vs ds) (e : atI ds i = some d) : ∃ v, atI vs i = some v ∧ Rep G B v d := by
  unfold atI at e ⊢
  rw [r.length]
  cases h : ixN ds.length i with
  | none =>
    rw [h] at e
    cases e
  | some j =>
    rw [h, Option.bind_some] at e
    rw [Option.bind_some]
    exact r.get e
theorem atI_map {α β : Type} (f : α → β) (xs : List α) (i : Int) : atI (xs.map f) i = (atI xs i).map f := by
  unfold atI
  rw [List.length_map]
  cases ixN xs.length i with
  | none => rfl
  | some j =>
    rw [Option.bind_some, Option.bind_some, List.getElem?_map]
theorem op2_ix : Op2 G (rIxA G.K) oIx := by
  intro x y z h B H v w hs rx ry Q q
  unfold oIx at h
  split at h
  · cases ry
    cases rx with
    | lst h1 r1 =>
      obtain ⟨d, e, rfl⟩ := Option.map_eq_some_iff.mp h
      obtain ⟨u, e1, r2⟩ := repL_at r1 e
      exact .inl ⟨_, _, _, u, rfl, rfl, SqL.of (hs _ _ h1), e1, q u B H (Stp.refl hs) r2⟩
  · cases ry
    cases rx with
    | tup h1 r1 =>
      obtain ⟨d, e, rfl⟩ := Option.map_eq_some_iff.mp h
      obtain ⟨u, e1, r2⟩ := repL_at r1 e
      exact .inr ⟨_, _, _, u, rfl, rfl, SqT.of (hs _ _ h1), e1, q u B H (Stp.refl hs) r2⟩
  · cases ry
    cases rx with
    | scr h1 =>
      obtain ⟨n, e, rfl⟩ := Option.map_eq_some_iff.mp h
      refine .inl ⟨_, _, _, .int n, rfl, rfl, hs.seq h1, ?_, q _ B H (Stp.refl hs) .int⟩
      rw [atI_map, e] <;> rfl
  · cases h
theorem pd_item {a b : Expr} {pos : Pos} {f g : Fx} (ha : PE X a (teD G W f)) (hb : PE X b (teD G W g)) (hs : PlainIx b := by exact fun _ _ => rfl) (hK : X.K = G.K := by rfl) : PE X (.Subscript a b pos) (teD G W (f2 oIx f g)) :=
  pd_ix (by have h := (ix_list (X := X)).or ix_tup; rw [hK] at h; exact h) op2_ix ha hb hs

def oPart : Option D → Option (Option Int)
  | none => some none
  | some (.int i) => some (some i)
  | _ => none
def cutD (ds : List D) (lo hi : Option Int) : List D := (ds.drop (HT.sIx ds.length 0 lo)).take (HT.sIx ds.length ds.length hi - HT.sIx ds.length 0 lo)
def oSl (x : D) (lo hi : Option Int) : Option R := match x with
  | .lst ds => some (.nw (cutD ds lo hi))
  | .scr ns => some (.nw (cutD (ns.map .int) lo hi))
  | _ => none
/-- the bounds of a slice: none, or an expression -/
def fPart (o : Option Fx) (ε : En) (k : Option Int → Option R) : Option R := match o with
  | none => k none
  | some f => seqR (f ε) fun d => match d with
    | .int i => k (some i)
    | _ => none
def fSl (f : Fx) (lo hi : Option Fx) : Fx := fun ε => seqR (f ε) fun x => fPart lo ε fun l => fPart hi ε fun h => oSl x l h
inductive POd (X : Cx) (G : Gd) (W : WX) : Option Expr → Option Fx → Prop
  | none : POd X G W none none
  | some {e f} : PE X e (teD G W f) → POd X G W (some e) (some f)
def toD (G : Gd) (W : WX) : Option Fx → TO
  | none => tNoPart
  | some f => tPart (teD G W f)
theorem POd.po {e : Option Expr} {f : Option Fx} (h : POd X G W e f) : PO X e (toD G W f) := by
  cases h with
  | none => exact po_none
  | some h => exact po_some h
theorem cut_rep {B : Hp} {vs : List V} {ds : List D} (r : RepL G B vs ds) (lo hi : Option Int) : RepL G B (cutV vs lo hi) (cutD ds lo hi) := by
  unfold cutV cutD
  rw [r.length]
  exact (r.drop _).take _
theorem to_bind {σ : L2.St} {B H : Hp} {ε : En} {o : Option Fx} {k : Option Int → Option R} {z : R} {Q : Option Int → Hp → Prop} (hs : Same B H) (he : EnvD G B σ ε) (hf : fPart o ε k = some z) (hx : ∀ n, z = .ex n → ∀ H', Same H H' → W (.ref (G.A n)) none σ H')
    (hq : ∀ l B' H', Stp B H B' H' → EnvD G B' σ ε → k l = some z → Q l H') : toD G W o σ H Q := by
  cases o with
  | none => exact hq none B H (Stp.refl hs) he hf
  | some f =>
    show teD G W f σ H _
    refine te_bind hs he hf hx fun d v B1 H1 st e1 rp hk => ?_
    cases d <;> first | (cases hk; done) | skip
    cases rp
    exact ⟨_, rfl, hq _ B1 H1 st e1 hk⟩
theorem pd_slice {e : Expr} {lo hi : Option Expr} {p2 pos : Pos} {f : Fx} {l h : Option Fx} (he : PE X e (teD G W f)) (hl : POd X G W lo l) (hh : POd X G W hi h) (hK : X.K = G.K := by rfl) : PE X (.Subscript e (.Slice lo hi none p2) pos) (teD G W (fSl f l h)) :=
  (pe_slice sl_list he hl.po hh.po).impD fun σ H Q ⟨B, ε, z, hs, he, hf, hq, hx⟩ => by
    refine te_bind hs he hf hx fun d v B1 H1 st e1 rp hk => ?_
    refine to_bind st.s e1 hk (fun n q H' s' => hx n q H' (st.h.trans s')) fun l1 B2 H2 st2 e2 hk2 => ?_
    refine to_bind st2.s e2 hk2 (fun n q H' s' => hx n q H' ((st.h.trans st2.h).trans s')) fun l2 B3 H3 st3 e3 hk3 => ?_
    have s3 := (st.trans st2).trans st3
    have rp3 := rp.mono (st2.b.trans st3.b)
    unfold oSl at hk3
    split at hk3
    · cases hk3
      cases rp3 with
      | lst h1 r1 =>
        exact ⟨_, _, rfl, SqL.of (st3.s _ _ h1), fun p hp => hq _ B3 _ (s3.trans (Stp.hid st3.s hp)) ((res_new st3.s hp (cut_rep r1 _ _)).back s3.h)⟩
    · cases hk3
      cases rp3 with
      | scr h1 =>
        rw [← hK] at h1
        exact ⟨_, _, rfl, st3.s.seq h1, fun p hp => hq _ B3 _ (s3.trans (Stp.hid st3.s hp)) ((res_new st3.s hp (cut_rep RepL.ints _ _)).back s3.h)⟩
    · cases hk3
def oRev : D → Option R
  | .lst ds => some (.nw ds.reverse)
  | _ => none
theorem pd_rev {e : Expr} {f : Fx} {k : Nat} {p1 p2 p3 pos : Pos} (he : PE X e (teD G W f)) : PE X (.Subscript e (.Slice none none (some (.UnaryOp .USub (.Constant (.int 1) k p1) p2)) p3) pos) (teD G W (f1 oRev f)) :=
  (pe_revL he).impD fun σ H Q ⟨B, ε, z, hs, he, hf, hq, hx⟩ => by
    refine te_bind hs he hf hx fun d v B1 H1 st e1 rp hk => ?_
    unfold oRev at hk
    split at hk
    · cases hk
      cases rp with
      | lst h1 r1 =>
        exact ⟨_, _, rfl, SqL.of (st.s _ _ h1), fun p hp => hq _ B1 _ (st.trans (Stp.hid st.s hp)) ((res_new st.s hp r1.reverse).back st.h)⟩
    · cases hk
end
end
end DY
namespace DY
open PySem PySem.Spec PyProof.Rows L2
section
variable [NM]
section
variable {G : Gd} {W : WX} {X : Cx}
/-! ### len, list, tuple, int, max, min, sum, all -/
def D.len : D → Option Nat
  | .lst ds => some ds.length
  | .tup ds => some ds.length
  | .scr ns => some ns.length
  | .str x => if x.length ≤ 100000 then some x.length else none
  | _ => none
def oLen : List D → Option R
  | [d] => d.len.map fun (n : Nat) => R.ok (.int (n : Int))
  | _ => none
theorem opA_len : OpA G (fun xs H Q => ∃ x n, xs = [x] ∧ LenV G.K x H n ∧ Q (.int n) H) oLen := by
  intro xs z h B H vs hs r Q q
  unfold oLen at h
  split at h
  · rename_i d
    obtain ⟨n, e, rfl⟩ := Option.map_eq_some_iff.mp h
    cases r with
    | cons r1 r2 =>
      cases r2
      refine ⟨_, n, rfl, ?_, q _ B H (Stp.refl hs) .int⟩
      unfold D.len at e
      cases r1 <;> first | (cases e; done) | skip
      · dsimp only at e
        split at e
        · rename_i hl
          cases e
          exact ⟨le_line hl, rfl⟩
        · cases e
      · rename_i h1 r1
        cases e
        exact .inl ⟨_, SqL.of (hs _ _ h1), r1.length.symm⟩
      · rename_i h1 r1
        cases e
        exact .inr ⟨_, SqT.of (hs _ _ h1), r1.length.symm⟩
      · rename_i h1
        cases e
        exact .inl ⟨_, hs.seq h1, by rw [List.length_map]⟩
  · cases h
theorem pd_len {e : Expr} {p pos : Pos} {f : Fx} (hg : Gl X "len") (hm : X.mg "len" = none) (he : PE X e (teD G W f)) (hs : starEach [e] X.env = (false, eval e X.env) :: starEach [] X.env := by rfl) (hK : X.K = G.K := by rfl) : PE X (.Call (.Name "len" p) [e] [] pos) (teD G W (fA oLen [f])) :=
  pd_callB (by have h := call_len (X := X); rw [hK] at h; exact h) opA_len hg hm PySem.boot_len (pda_cons he pda_nil hs) (by decide) (by decide) hs rfl
def D.seq : D → Option (List D)
  | .lst ds => some ds
  | .tup ds => some ds
  | .scr ns => some (ns.map .int)
  | _ => none
def oList : List D → Option R
  | [d] => d.seq.map R.nw
  | _ => none
def oTuple : List D → Option R
  | [.lst ds] => some (.ok (.tup ds))
  | [.scr ns] => some (.ok (.tup (ns.map .int)))
  | _ => none
theorem opA_list : OpA G (fun xs H Q => ∃ p ys, xs = [.ref p] ∧ (SqL G.K H p ys ∨ SqT G.K H p ys) ∧ ∀ l, H l = none → Q (.ref l) (upd H l (.lst ys))) oList := by
  intro xs z h B H vs hs r Q q
  unfold oList at h
  split at h
  · rename_i d
    obtain ⟨ds, e, rfl⟩ := Option.map_eq_some_iff.mp h
    cases r with
    | cons r1 r2 =>
      cases r2
      unfold D.seq at e
      cases r1 <;> first | (cases e; done) | skip
      · rename_i h1 r1
        cases e
        exact ⟨_, _, rfl, .inl (SqL.of (hs _ _ h1)), fun p hp => q _ B _ (Stp.hid hs hp) (res_new hs hp r1)⟩
      · rename_i h1 r1
        cases e
        exact ⟨_, _, rfl, .inr (SqT.of (hs _ _ h1)), fun p hp => q _ B _ (Stp.hid hs hp) (res_new hs hp r1)⟩
      · rename_i h1
        cases e
        exact ⟨_, _, rfl, .inl (hs.seq h1), fun p hp => q _ B _ (Stp.hid hs hp) (res_new hs hp RepL.ints)⟩
  · cases h
theorem opA_tuple : OpA G (fun xs H Q => ∃ p ys, xs = [.ref p] ∧ ((SqL G.K H p ys ∧ ∀ l, H l = none → Q (.ref l) (upd H l (.tup ys))) ∨ (SqT G.K H p ys ∧ Q (.ref p) H))) oTuple := by
  intro xs z h B H vs hs r Q q
  unfold oTuple at h
  split at h
  · cases h
    cases r with
    | cons r1 r2 =>
      cases r2
      cases r1 with
      | lst h1 r1 => exact ⟨_, _, rfl, .inl ⟨SqL.of (hs _ _ h1), fun p hp => q _ (upd B p (.tup _)) _ (Stp.new hs hp) (Rep.tup upd_same (r1.mono (same_new (hs.free hp))))⟩⟩
  · cases h
    cases r with
    | cons r1 r2 =>
      cases r2
      cases r1 with
      | scr h1 => exact ⟨_, _, rfl, .inl ⟨hs.seq h1, fun p hp => q _ (upd B p (.tup _)) _ (Stp.new hs hp) (Rep.tup upd_same RepL.ints)⟩⟩
  · cases h
theorem pd_list {e : Expr} {p pos : Pos} {f : Fx} (hg : Gl X "list") (hm : X.mg "list" = none) (he : PE X e (teD G W f)) (hs : starEach [e] X.env = (false, eval e X.env) :: starEach [] X.env := by rfl) (hK : X.K = G.K := by rfl) : PE X (.Call (.Name "list" p) [e] [] pos) (teD G W (fA oList [f])) :=
  pd_callTy (by have h := call_list_of (X := X); rw [hK] at h; exact h) opA_list hg hm (by decide +kernel) (pda_cons he pda_nil hs) (by decide) (by decide) hs rfl
theorem pd_tuple {e : Expr} {p pos : Pos} {f : Fx} (hg : Gl X "tuple") (hm : X.mg "tuple" = none) (he : PE X e (teD G W f)) (hs : starEach [e] X.env = (false, eval e X.env) :: starEach [] X.env := by rfl) (hK : X.K = G.K := by rfl) : PE X (.Call (.Name "tuple" p) [e] [] pos) (teD G W (fA oTuple [f])) :=
  pd_callTy (by have h := call_tuple_of (X := X); rw [hK] at h; exact h) opA_tuple hg hm (by decide +kernel) (pda_cons he pda_nil hs) (by decide) (by decide) hs rfl
def oInt : List D → Option R
  | [.int i] => some (.ok (.int i))
  | [.bl b] => some (.ok (.int (if b then 1 else 0)))
  | _ => none
theorem opA_int : OpA G (fun xs H Q => (∃ i, xs = [.int i] ∧ Q (.int i) H) ∨ ∃ k, xs = [.bl k] ∧ Q (.int (if k then 1 else 0)) H) oInt := by
  intro xs z h B H vs hs r Q q
  unfold oInt at h
  split at h
  · cases h
    cases r with
    | cons r1 r2 =>
      cases r2
      cases r1
      exact .inl ⟨_, rfl, q _ B H (Stp.refl hs) .int⟩
  · cases h
    cases r with
    | cons r1 r2 =>
      cases r2
      cases r1
      exact .inr ⟨_, rfl, q _ B H (Stp.refl hs) .int⟩
  · cases h
theorem pd_intc {e : Expr} {p pos : Pos} {f : Fx} (hg : Gl X "int") (hm : X.mg "int" = none) (he : PE X e (teD G W f)) (hs : starEach [e] X.env = (false, eval e X.env) :: starEach [] X.env := by rfl) : PE X (.Call (.Name "int" p) [e] [] pos) (teD G W (fA oInt [f])) :=
  pd_callTy call_int1 opA_int hg hm (by decide +kernel) (pda_cons he pda_nil hs) (by decide) (by decide) hs rfl
def oMax : List D → Option R
  | [.int i, .int j] => some (.ok (.int (if j > i then j else i)))
  | _ => none
def oMin : List D → Option R
  | [.int i, .int j] => some (.ok (.int (if j < i then j else i)))
  | _ => none
theorem opA_max : OpA G (fun xs H Q => ∃ i j, xs = [.int i, .int j] ∧ Q (.int (if j > i then j else i)) H) oMax := by
  intro xs z h B H vs hs r Q q
  unfold oMax at h
  split at h
  · cases h
    cases r with
    | cons r1 r2 =>
      cases r1
      cases r2 with
      | cons r1 r2 =>
        cases r1
        cases r2
        exact ⟨_, _, rfl, q _ B H (Stp.refl hs) .int⟩
  · cases h
theorem opA_min : OpA G (fun xs H Q => ∃ i j, xs = [.int i, .int j] ∧ Q (.int (if j < i then j else i)) H) oMin := by
  intro xs z h B H vs hs r Q q
  unfold oMin at h
  split at h
  · cases h
    cases r with
    | cons r1 r2 =>
      cases r1
      cases r2 with
      | cons r1 r2 =>
        cases r1
        cases r2
        exact ⟨_, _, rfl, q _ B H (Stp.refl hs) .int⟩
  · cases h
theorem pd_max {a b : Expr} {p pos : Pos} {f g : Fx} (hg : Gl X "max") (hm : X.mg "max" = none) (hc : X.calm = true) (ha : PE X a (teD G W f)) (hb : PE X b (teD G W g)) (h1 : starEach [a, b] X.env = (false, eval a X.env) :: starEach [b] X.env := by rfl) (h2 : starEach [b] X.env = (false, eval b X.env) :: starEach [] X.env := by rfl)
    (hpl : (backTo pos (starEach [b] X.env)).any (·.1) = false := by rfl) : PE X (.Call (.Name "max" p) [a, b] [] pos) (teD G W (fA oMax [f, g])) :=
  pd_callB (call_max2 hc) opA_max hg hm (by decide +kernel) (pda_cons ha (pda_cons hb pda_nil h2) h1) (by decide) (by decide) h1 hpl
theorem pd_min {a b : Expr} {p pos : Pos} {f g : Fx} (hg : Gl X "min") (hm : X.mg "min" = none) (hc : X.calm = true) (ha : PE X a (teD G W f)) (hb : PE X b (teD G W g)) (h1 : starEach [a, b] X.env = (false, eval a X.env) :: starEach [b] X.env := by rfl) (h2 : starEach [b] X.env = (false, eval b X.env) :: starEach [] X.env := by rfl)
    (hpl : (backTo pos (starEach [b] X.env)).any (·.1) = false := by rfl) : PE X (.Call (.Name "min" p) [a, b] [] pos) (teD G W (fA oMin [f, g])) :=
  pd_callB (call_min2 hc) opA_min hg hm (by decide +kernel) (pda_cons ha (pda_cons hb pda_nil h2) h1) (by decide) (by decide) h1 hpl
def toInts : List D → Option (List Int)
  | [] => some []
  | .int i :: r => (toInts r).map (i :: ·)
  | _ :: _ => none
def toBls : List D → Option (List Bool)
  | [] => some []
  | .bl i :: r => (toBls r).map (i :: ·)
  | _ :: _ => none
theorem toInts_map : ∀ ns : List Int, toInts (ns.map D.int) = some ns
  | [] => rfl
  | n :: r => by
    show (toInts (r.map D.int)).map (n :: ·) = _
    rw [toInts_map r] <;> rfl
theorem toBls_map : ∀ ns : List Bool, toBls (ns.map D.bl) = some ns
  | [] => rfl
  | n :: r => by
    show (toBls (r.map D.bl)).map (n :: ·) = _
    rw [toBls_map r] <;> rfl
theorem toInts_eq : ∀ {ds : List D} {ns}, toInts ds = some ns → ds = ns.map D.int
  | [], ns, h => by
    cases h
    rfl
  | .int i :: r, ns, h => by
    obtain ⟨m, e, rfl⟩ := Option.map_eq_some_iff.mp h
    rw [toInts_eq e] <;> rfl
  | .non :: _, _, h => by cases h
  | .bl _ :: _, _, h => by cases h
  | .str _ :: _, _, h => by cases h
  | .lst _ :: _, _, h => by cases h
  | .tup _ :: _, _, h => by cases h
  | .scr _ :: _, _, h => by cases h
  | .exc _ :: _, _, h => by cases h
  | .emp :: _, _, h => by cases h
  | .rng _ :: _, _, h => by cases h
  | .ins _ _ :: _, _, h => by cases h
theorem toBls_eq : ∀ {ds : List D} {ns}, toBls ds = some ns → ds = ns.map D.bl
  | [], ns, h => by
    cases h
    rfl
  | .bl i :: r, ns, h => by
    obtain ⟨m, e, rfl⟩ := Option.map_eq_some_iff.mp h
    rw [toBls_eq e] <;> rfl
  | .non :: _, _, h => by cases h
  | .int _ :: _, _, h => by cases h
  | .str _ :: _, _, h => by cases h
  | .lst _ :: _, _, h => by cases h
  | .tup _ :: _, _, h => by cases h
  | .scr _ :: _, _, h => by cases h
  | .exc _ :: _, _, h => by cases h
  | .emp :: _, _, h => by cases h
  | .rng _ :: _, _, h => by cases h
  | .ins _ _ :: _, _, h => by cases h
def oSum : List D → Option R
  | [.lst ds] => (toInts ds).map fun ns => .ok (.int ns.sum)
  | [.scr ns] => some (.ok (.int ns.sum))
  | _ => none
def oAll : List D → Option R
  | [.lst ds] => (toBls ds).map fun ns => .ok (.bl (ns.all id))
  | _ => none
def oAny : List D → Option R
  | [.lst ds] => (toBls ds).map fun ns => .ok (.bl (ns.any id))
  | _ => none
theorem opA_sum : OpA G (rSum G.K) oSum := by
  intro xs z h B H vs hs r Q q
  unfold oSum at h
  split at h
  · obtain ⟨ns, e, rfl⟩ := Option.map_eq_some_iff.mp h
    cases r with
    | cons r1 r2 =>
      cases r2
      cases r1 with
      | lst h1 r1 =>
        rw [toInts_eq e] at r1
        cases r1.intsV
        exact ⟨_, ns, rfl, SqL.of (hs _ _ h1), q _ B H (Stp.refl hs) .int⟩
  · cases h
    cases r with
    | cons r1 r2 =>
      cases r2
      cases r1 with
      | scr h1 => exact ⟨_, _, rfl, hs.seq h1, q _ B H (Stp.refl hs) .int⟩
  · cases h
theorem opA_all : OpA G (rAll G.K) oAll := by
  intro xs z h B H vs hs r Q q
  unfold oAll at h
  split at h
  · obtain ⟨ns, e, rfl⟩ := Option.map_eq_some_iff.mp h
    cases r with
    | cons r1 r2 =>
      cases r2
      cases r1 with
      | lst h1 r1 =>
        rw [toBls_eq e] at r1
        cases r1.bls
        exact ⟨_, ns, rfl, SqL.of (hs _ _ h1), q _ B H (Stp.refl hs) .bl⟩
  · cases h
theorem opA_any : OpA G (rAny G.K) oAny := by
  intro xs z h B H vs hs r Q q
  unfold oAny at h
  split at h
  · obtain ⟨ns, e, rfl⟩ := Option.map_eq_some_iff.mp h
    cases r with
    | cons r1 r2 =>
      cases r2
      cases r1 with
      | lst h1 r1 =>
        rw [toBls_eq e] at r1
        cases r1.bls
        exact ⟨_, ns, rfl, SqL.of (hs _ _ h1), q _ B H (Stp.refl hs) .bl⟩
  · cases h
theorem pd_sum {e : Expr} {p pos : Pos} {f : Fx} (hg : Gl X "sum") (hm : X.mg "sum" = none) (hc : X.calm = true) (he : PE X e (teD G W f)) (hs : starEach [e] X.env = (false, eval e X.env) :: starEach [] X.env := by rfl) (hK : X.K = G.K := by rfl) : PE X (.Call (.Name "sum" p) [e] [] pos) (teD G W (fA oSum [f])) :=
  pd_callB (by have h := cr_sum (X := X) hc; rw [hK] at h; exact h) opA_sum hg hm (by decide +kernel) (pda_cons he pda_nil hs) (by decide) (by decide) hs rfl
theorem pd_all {e : Expr} {p pos : Pos} {f : Fx} (hg : Gl X "all") (hm : X.mg "all" = none) (hc : X.calm = true) (he : PE X e (teD G W f)) (hs : starEach [e] X.env = (false, eval e X.env) :: starEach [] X.env := by rfl) (hK : X.K = G.K := by rfl) : PE X (.Call (.Name "all" p) [e] [] pos) (teD G W (fA oAll [f])) :=
  pd_callB (by have h := cr_all (X := X) hc; rw [hK] at h; exact h) opA_all hg hm (by decide +kernel) (pda_cons he pda_nil hs) (by decide) (by decide) hs rfl
theorem pd_any {e : Expr} {p pos : Pos} {f : Fx} (hg : Gl X "any") (hm : X.mg "any" = none) (hc : X.calm = true) (he : PE X e (teD G W f)) (hs : starEach [e] X.env = (false, eval e X.env) :: starEach [] X.env := by rfl) (hK : X.K = G.K := by rfl) : PE X (.Call (.Name "any" p) [e] [] pos) (teD G W (fA oAny [f])) :=
  pd_callB (by have h := cr_any (X := X) hc; rw [hK] at h; exact h) opA_any hg hm (by decide +kernel) (pda_cons he pda_nil hs) (by decide) (by decide) hs rfl
def oBits : D → Option R
  | .int i => some (.ok (.int (Builtin.Int.intBits i)))
  | _ => none
theorem pd_bits {e : Expr} {apos pos : Pos} {f : Fx} (he : PE X e (teD G W f)) (hbase : attributeBase e "bit_length" X.env (eval e X.env) = eval e X.env := by rfl) (hline : (apos.endLine == pos.line) = true := by rfl) : PE X (.Call (.Attribute e "bit_length" apos) [] [] pos) (teD G W (f1 oBits f)) :=
  (pe_bits he hbase hline).impD fun σ H Q ⟨B, ε, z, hs, he, hf, hq, hx⟩ => by
    refine te_bind hs he hf hx fun d v B1 H1 st e1 rp hk => ?_
    unfold oBits at hk
    split at hk
    · cases hk
      cases rp
      exact ⟨_, rfl, hq _ B1 H1 st .int⟩
    · cases hk

/-! ### isinstance with a built-in class -/
def D.ty : D → Option String
  | .non => some "NoneType"
  | .bl _ => some "bool"
  | .int _ => some "int"
  | .str _ => some "str"
  | .lst _ => some "list"
  | .tup _ => some "tuple"
  | .scr _ => some "list"
  | .exc _ => none
  | .fn _ => none
  | .emp => some "dict"
  | .rng _ => none
  | .ins _ _ => none
theorem rep_ty {B H : Hp} {v d t} (hs : Same B H) (r : Rep G B v d) (e : d.ty = some t) : TyX G.K H v (.type t) := by
  cases r <;> cases e
  · exact .base .non
  · exact .base (.bl _)
  · exact .base (.int _)
  · exact .base (.str _)
  · rename_i h r
    exact .base (.lst (hs _ _ h))
  · rename_i h r
    exact .base (.tup (hs _ _ h))
  · rename_i h
    rcases hs.seq h with (h | ⟨o, h⟩) | ⟨o, its, n, h, hc, _⟩
    · exact .base (.lst h)
    · exact .base (.frz h)
    · exact .kList h hc
  · rename_i h
    exact .base (.dK (hs _ _ h))
def oIsTy (T : String) (d : D) : Option R := (d.ty.bind fun t => kitB t T).map fun b => .ok (.bl b)
theorem pd_isTy {e : Expr} {T : String} {y : Str} {p p2 pos : Pos} {f : Fx} (hg : Gl X "isinstance") (hm : X.mg "isinstance" = none) (he : PE X e (teD G W f)) (hgT : Gl X y) (hmT : X.mg y = none) (hvT : bootBuiltins y = some (.type T)) (hnT : y ≠ "__name__" := by decide) (hdT : (y == ("__debug__" : Str)) = false := by decide)
    (hs : starEach [e, .Name y p2] X.env = (false, eval e X.env) :: starEach [.Name y p2] X.env := by rfl) (hs2 : starEach [.Name y p2] X.env = (false, eval (.Name y p2) X.env) :: starEach [] X.env := by rfl) (hpl : (backTo pos (starEach [.Name y p2] X.env)).any (·.1) = false := by rfl) (hK : X.K = G.K := by rfl) :
    PE X (.Call (.Name "isinstance" p) [e, .Name y p2] [] pos) (teD G W (f1 (oIsTy T) f)) :=
  (pe_callB (call_isi (X := X)) hg hm (by decide +kernel) (pa_cons he (pa_cons (pe_bltn hgT hmT hvT (v := .ty T) rfl hnT hdT) pa_nil hs2) hs) (by decide) (by decide) hs hpl).impD fun σ H Q ⟨B, ε, z, hs, he, hf, hq, hx⟩ => by
    refine te_bind hs he hf hx fun d v B1 H1 st e1 rp hk => ?_
    obtain ⟨b, e, rfl⟩ := Option.map_eq_some_iff.mp hk
    obtain ⟨t, et, eb⟩ := Option.bind_eq_some_iff.mp e
    refine ⟨v, .ty T, .type t, .type T, b, rfl, .ty T, ?_, kit_ty eb, hq _ B1 H1 st .bl⟩
    rw [hK]
    exact rep_ty st.s rp et

/-! ### and, or, not, if; tests -/
def fAnd (f g : Fx) : Fx := fun ε => seqR (f ε) fun x => match x with
  | .bl true => g ε
  | .bl false => some (.ok (.bl false))
  | _ => none
def fOr (f g : Fx) : Fx := fun ε => seqR (f ε) fun x => match x with
  | .bl true => some (.ok (.bl true))
  | .bl false => g ε
  | _ => none
def oNot : D → Option R
  | .bl b => some (.ok (.bl !b))
  | _ => none
def fNot (f : Fx) : Fx := f1 oNot f
def fIf (c f g : Fx) : Fx := fun ε => seqR (c ε) fun x => match x with
  | .bl true => f ε
  | .bl false => g ε
  | _ => none
theorem ite_tru {A B : Prop} (h : A) : if true = true then A else B := by rw [if_pos rfl]; exact h
theorem ite_fal {A B : Prop} (h : B) : if false = true then A else B := by rw [if_neg Bool.false_ne_true]; exact h
theorem te_go {σ : L2.St} {B H B1 H1 : Hp} {ε : En} {f : Fx} {z : R} {Q : VK} (st : Stp B H B1 H1) (e1 : EnvD G B1 σ ε) (hk : f ε = some z) (hq : ∀ v B' H', Stp B H B' H' → Res G H B' H' v z → Q v H') (hx : ∀ n, z = .ex n → ∀ H', Same H H' → W (.ref (G.A n)) none σ H') : teD G W f σ H1 Q :=
  ⟨B1, ε, z, st.s, e1, hk, fun v B2 H2 st2 res => hq v B2 H2 (st.trans st2) (res.back st.h), fun n q H' s' => hx n q H' (st.h.trans s')⟩
theorem pd_one {op : BoolOp} {a : Expr} {pos : Pos} {f : Fx} (h : PE X a (teD G W f)) : PE X (.BoolOp op [a] pos) (teD G W f) := pe_one h
theorem pd_and {a b : Expr} {rest : List Expr} {pos : Pos} {f g : Fx} (ha : PE X a (teD G W f)) (hb : PE X (.BoolOp .And (b :: rest) pos) (teD G W g)) : PE X (.BoolOp .And (a :: b :: rest) pos) (teD G W (fAnd f g)) :=
  (pe_and ha hb).impD fun σ H Q ⟨B, ε, z, hs, he, hf, hq, hx⟩ => by
    refine te_bind hs he hf hx fun d v B1 H1 st e1 rp hk => ?_
    split at hk
    · cases rp
      exact ⟨true, rfl, ite_tru (te_go st e1 hk hq hx)⟩
    · cases hk
      cases rp
      exact ⟨false, rfl, ite_fal (hq _ B1 H1 st .bl)⟩
    · cases hk
theorem pd_or {a b : Expr} {rest : List Expr} {pos : Pos} {f g : Fx} (ha : PE X a (teD G W f)) (hb : PE X (.BoolOp .Or (b :: rest) pos) (teD G W g)) : PE X (.BoolOp .Or (a :: b :: rest) pos) (teD G W (fOr f g)) :=
  (pe_or ha hb).impD fun σ H Q ⟨B, ε, z, hs, he, hf, hq, hx⟩ => by
    refine te_bind hs he hf hx fun d v B1 H1 st e1 rp hk => ?_
    split at hk
    · cases hk
      cases rp
      exact ⟨true, rfl, ite_tru (hq _ B1 H1 st .bl)⟩
    · cases rp
      exact ⟨false, rfl, ite_fal (te_go st e1 hk hq hx)⟩
    · cases hk
theorem pd_not {a : Expr} {pos : Pos} {f : Fx} (ha : PE X a (teD G W f)) : PE X (.UnaryOp .Not a pos) (teD G W (fNot f)) :=
  (pe_not ha).impD fun σ H Q ⟨B, ε, z, hs, he, hf, hq, hx⟩ => by
    refine te_bind hs he hf hx fun d v B1 H1 st e1 rp hk => ?_
    unfold oNot at hk
    split at hk
    · cases hk
      cases rp
      exact ⟨_, rfl, hq _ B1 H1 st .bl⟩
    · cases hk
/-- the value of a test -/
theorem tt_bind {σ : L2.St} {B H : Hp} {ε : En} {f : Fx} {k : D → Option R} {z : R} {Q : Bool → Hp → Prop} (hs : Same B H) (he : EnvD G B σ ε) (hf : seqR (f ε) k = some z) (hb : (∀ d r, f ε = some r → r.val = some d → ∃ b, d = .bl b) ∧ ∀ ds, f ε ≠ some (.nw ds)) (hx : ∀ n, z = .ex n → ∀ H', Same H H' → W (.ref (G.A n)) none σ H')
    (hq : ∀ b B' H', Stp B H B' H' → EnvD G B' σ ε → k (.bl b) = some z → Q b H') : ttD G W f σ H Q := by
  rcases seqR_inv hf with ⟨r0, d, e0, e1, e2⟩ | ⟨n, e0, rfl⟩
  · obtain ⟨b, rfl⟩ := hb.1 d r0 e0 e1
    have er : r0 = .ok (.bl b) := by
      cases r0 with
      | ok d =>
        cases e1
        rfl
      | nw ds => exact absurd e0 (hb.2 ds)
      | nn t ps => cases t <;> cases e1
      | ex n => cases e1
    subst er
    refine ⟨B, ε, _, hs, he, e0, fun b' B' H' st eb => ?_, fun n q => (by cases q), .inl ⟨b, rfl⟩⟩
    cases eb
    exact hq b B' H' st (he.mono st.b) e2
  · exact ⟨B, ε, .ex n, hs, he, e0, fun b' B' H' st eb => (by cases eb), hx, .inr ⟨n, rfl⟩⟩
def D.tru : D → Option Bool
  | .non => some false
  | .bl b => some b
  | .int i => some (i != 0)
  | .lst ds => some (!ds.isEmpty)
  | .tup ds => some (!ds.isEmpty)
  | _ => none
def oTru (d : D) : Option R := d.tru.map fun b => .ok (.bl b)
def fTru (f : Fx) : Fx := f1 oTru f
theorem rep_tru {B H : Hp} {v d b} (hs : Same B H) (r : Rep G B v d) (e : d.tru = some b) : TruV G.K v H b := by
  cases r <;> cases e
  · rfl
  · rfl
  · rfl
  · rename_i h r
    refine .inl ⟨_, SqL.of (hs _ _ h), ?_⟩
    cases r <;> rfl
  · rename_i h r
    refine .inr (.inl ⟨_, SqT.of (hs _ _ h), ?_⟩)
    cases r <;> rfl
/-- any expression as a test -/
theorem pt_t {a : Expr} {f : Fx} (ha : PE X a (teD G W f)) (he : ∀ whole, isTrue a X.env whole = (do let v ← whole; standAt a.pos; holding [v] (truthy v)) := by intro _; rfl) (hK : X.K = G.K := by rfl) : PT X a (ttD G W (fTru f)) :=
  (pt_truth ha he).impD fun σ H Q ⟨B, ε, z, hs, he, hf, hq, hx, _⟩ => by
    refine te_bind hs he hf hx fun d v B1 H1 st e1 rp hk => ?_
    obtain ⟨b, e, rfl⟩ := Option.map_eq_some_iff.mp hk
    refine ⟨b, ?_, hq b B1 H1 st rfl⟩
    rw [hK]
    exact rep_tru st.s rp e
theorem tru_bl {f : Fx} {ε : En} : (∀ d r, fTru f ε = some r → r.val = some d → ∃ b, d = .bl b) ∧ ∀ ds, fTru f ε ≠ some (.nw ds) := by
  refine ⟨fun d r h e => ?_, fun ds h => ?_⟩
  · rcases seqR_inv h with ⟨r0, d0, _, _, e2⟩ | ⟨n, _, rfl⟩
    · obtain ⟨b, _, rfl⟩ := Option.map_eq_some_iff.mp e2
      cases e
      exact ⟨b, rfl⟩
    · cases e
  · rcases seqR_inv h with ⟨r0, d0, _, _, e2⟩ | ⟨n, _, q⟩
    · obtain ⟨b, _, q⟩ := Option.map_eq_some_iff.mp e2
      cases q
    · cases q
/-- a test's functions: always a truth or an error -/
def BlF (f : Fx) : Prop := ∀ ε r, f ε = some r → (∃ b, r = .ok (.bl b)) ∨ ∃ n, r = .ex n
theorem BlF.use {f : Fx} (h : BlF f) (ε : En) : (∀ d r, f ε = some r → r.val = some d → ∃ b, d = .bl b) ∧ ∀ ds, f ε ≠ some (.nw ds) := by
  refine ⟨fun d r e e2 => ?_, fun ds e => ?_⟩
  · rcases h ε r e with ⟨b, rfl⟩ | ⟨n, rfl⟩
    · cases e2
      exact ⟨b, rfl⟩
    · cases e2
  · rcases h ε _ e with ⟨b, q⟩ | ⟨n, q⟩ <;> cases q
structure Tst (X : Cx) (G : Gd) (W : WX) (e : Expr) (f : Fx) : Prop where
  pt : PT X e (ttD G W f)
  bl : BlF f
structure TsW (X : Cx) (G : Gd) (W : WX) (e : Expr) (f : Fx) : Prop where
  pw : PW X e (ttD G W f)
  bl : BlF f
theorem blf_tru {f : Fx} : BlF (fTru f) := fun ε r h => by
  rcases seqR_inv h with ⟨r0, d0, _, _, e2⟩ | ⟨n, _, rfl⟩
  · obtain ⟨b, _, rfl⟩ := Option.map_eq_some_iff.mp e2
    exact .inl ⟨b, rfl⟩
  · exact .inr ⟨n, rfl⟩
theorem ts_e {a : Expr} {f : Fx} (ha : PE X a (teD G W f)) (he : ∀ whole, isTrue a X.env whole = (do let v ← whole; standAt a.pos; holding [v] (truthy v)) := by intro _; rfl) (hK : X.K = G.K := by rfl) : Tst X G W a (fTru f) := ⟨pt_t ha he hK, blf_tru⟩
theorem blf_seq {f : Fx} {k : D → Fx} (h : ∀ b, BlF (k (.bl b))) (h0 : BlF f) : BlF (fun ε => seqR (f ε) fun x => k x ε) := fun ε r e => by
  rcases seqR_inv e with ⟨r0, d0, e0, e1, e2⟩ | ⟨n, _, rfl⟩
  · rcases h0 ε r0 e0 with ⟨b, rfl⟩ | ⟨n, rfl⟩
    · cases e1
      exact h b ε r e2
    · cases e1
  · exact .inr ⟨n, rfl⟩
theorem blf_and {f g : Fx} (h : BlF f) (h2 : BlF g) : BlF (fAnd f g) := blf_seq (k := fun x ε => match x with | .bl true => g ε | .bl false => some (.ok (.bl false)) | _ => none) (fun b => by
  cases b with
  | true => exact h2
  | false => exact fun ε r e => by cases e; exact .inl ⟨false, rfl⟩) h
theorem blf_or {f g : Fx} (h : BlF f) (h2 : BlF g) : BlF (fOr f g) := blf_seq (k := fun x ε => match x with | .bl true => some (.ok (.bl true)) | .bl false => g ε | _ => none) (fun b => by
  cases b with
  | false => exact h2
  | true => exact fun ε r e => by cases e; exact .inl ⟨true, rfl⟩) h
theorem tt_go {σ : L2.St} {B H B1 H1 : Hp} {ε : En} {f : Fx} {z : R} {Q : Bool → Hp → Prop} (bl : BlF f) (st : Stp B H B1 H1) (e1 : EnvD G B1 σ ε) (hk : f ε = some z) (hq : ∀ b B' H', Stp B H B' H' → z = .ok (.bl b) → Q b H') (hx : ∀ n, z = .ex n → ∀ H', Same H H' → W (.ref (G.A n)) none σ H') : ttD G W f σ H1 Q :=
  ⟨B1, ε, z, st.s, e1, hk, fun b B2 H2 st2 e => hq b B2 H2 (st.trans st2) e, fun n q H' s' => hx n q H' (st.h.trans s'), bl ε z hk⟩
theorem tw_and1 {a : Expr} {pos : Pos} {f : Fx} (h : Tst X G W a f) : TsW X G W (.BoolOp .And [a] pos) f := ⟨pw_and1 h.pt, h.bl⟩
theorem tw_or1 {a : Expr} {pos : Pos} {f : Fx} (h : Tst X G W a f) : TsW X G W (.BoolOp .Or [a] pos) f := ⟨pw_or1 h.pt, h.bl⟩
theorem tw_and {a b : Expr} {rest : List Expr} {pos : Pos} {f g : Fx} (ha : Tst X G W a f) (hb : TsW X G W (.BoolOp .And (b :: rest) pos) g) : TsW X G W (.BoolOp .And (a :: b :: rest) pos) (fAnd f g) :=
  ⟨(pw_and ha.pt hb.pw).impD fun σ H Q ⟨B, ε, z, hs, he, hf, hq, hx, _⟩ => by
    refine tt_bind hs he hf (ha.bl.use ε) hx fun b B1 H1 st e1 hk => ?_
    cases b with
    | true => exact ite_tru (tt_go hb.bl st e1 hk hq hx)
    | false =>
      cases hk
      exact ite_fal (hq _ B1 H1 st rfl), blf_and ha.bl hb.bl⟩
theorem tw_or {a b : Expr} {rest : List Expr} {pos : Pos} {f g : Fx} (ha : Tst X G W a f) (hb : TsW X G W (.BoolOp .Or (b :: rest) pos) g) : TsW X G W (.BoolOp .Or (a :: b :: rest) pos) (fOr f g) :=
  ⟨(pw_or ha.pt hb.pw).impD fun σ H Q ⟨B, ε, z, hs, he, hf, hq, hx, _⟩ => by
    refine tt_bind hs he hf (ha.bl.use ε) hx fun b B1 H1 st e1 hk => ?_
    cases b with
    | false => exact ite_fal (tt_go hb.bl st e1 hk hq hx)
    | true =>
      cases hk
      exact ite_tru (hq _ B1 H1 st rfl), blf_or ha.bl hb.bl⟩
theorem TsW.t {e : Expr} {f : Fx} (h : TsW X G W e f) : Tst X G W e f := ⟨h.pw.pt, h.bl⟩
theorem ts_not {a : Expr} {pos : Pos} {f : Fx} (ha : Tst X G W a f) : Tst X G W (.UnaryOp .Not a pos) (fNot f) :=
  ⟨(pt_not ha.pt).impD fun σ H Q ⟨B, ε, z, hs, he, hf, hq, hx, _⟩ => by
    refine tt_bind hs he hf (ha.bl.use ε) hx fun b B1 H1 st e1 hk => ?_
    cases hk
    exact hq _ B1 H1 st rfl, fun ε r h => by
    rcases seqR_inv h with ⟨r0, d0, e0, e1, e2⟩ | ⟨n, _, rfl⟩
    · unfold oNot at e2
      split at e2
      · cases e2
        exact .inl ⟨_, rfl⟩
      · cases e2
    · exact .inr ⟨n, rfl⟩⟩
theorem pd_if {c a b : Expr} {pos : Pos} {t f g : Fx} (hc : Tst X G W c t) (ha : PE X a (teD G W f)) (hb : PE X b (teD G W g)) : PE X (.IfExp c a b pos) (teD G W (fIf t f g)) :=
  (pe_ifExp hc.pt ha hb).impD fun σ H Q ⟨B, ε, z, hs, he, hf, hq, hx⟩ => by
    refine tt_bind hs he hf (hc.bl.use ε) hx fun b B1 H1 st e1 hk => ?_
    cases b with
    | true => exact ite_tru (te_go st e1 hk hq hx)
    | false => exact ite_fal (te_go st e1 hk hq hx)
/-- a < b < c -/
def fChain (op op' : D → D → Option R) (f g h : Fx) : Fx := fun ε => seqR (f ε) fun x => seqR (g ε) fun y => seqR (op x y) fun k => match k with
  | .bl true => seqR (h ε) fun w => op' y w
  | .bl false => some (.ok (.bl false))
  | _ => none
theorem te_chain {rr rr' : R2} {op op' : D → D → Option R} {f g h : Fx} (ho : Op2 G rr op) (ho' : Op2 G rr' op') (hb0 : ∀ x y r, op x y = some r → ∃ b, r = .ok (.bl b)) (σ : L2.St) (H : Hp) (Q : VK) (h0 : teD G W (fChain op op' f g h) σ H Q) : tChain rr rr' (teD G W f) (teD G W g) (teD G W h) σ H Q := by
    obtain ⟨B, ε, z, hs, he, hf, hq, hx⟩ := h0
    refine te_bind hs he hf hx fun d v B1 H1 st e1 rp hk => ?_
    refine te_bind st.s e1 hk (fun n q H' s' => hx n q H' (st.h.trans s')) fun d2 v2 B2 H2 st2 e2 rp2 hk2 => ?_
    have st12 := st.trans st2
    rcases seqR_inv hk2 with ⟨r0, d0, e0, e3, e4⟩ | ⟨n, e0, _⟩
    · obtain ⟨b, rfl⟩ := hb0 _ _ _ e0
      cases e3
      refine ho e0 st2.s (rp.mono st2.b) rp2 _ fun u B3 H3 st3 res => ?_
      cases res
      refine ⟨b, rfl, ?_⟩
      have st13 := st12.trans st3
      cases b with
      | false =>
        cases e4
        exact ite_fal (hq _ B3 H3 st13 .bl)
      | true =>
        refine ite_tru ?_
        have e4' : seqR (h ε) (fun w => op' d2 w) = some z := e4
        refine te_bind st3.s (e2.mono st3.b) e4' (fun n q H' s' => hx n q H' (st13.h.trans s')) fun d4 v4 B4 H4 st4 e5 rp4 hk4 => ?_
        exact ho' hk4 st4.s (rp2.mono (st3.b.trans st4.b)) rp4 Q fun u B5 H5 st5 res5 => hq u B5 H5 ((st13.trans st4).trans st5) (res5.back (st13.trans st4).h)
    · obtain ⟨b, q⟩ := hb0 _ _ _ e0
      cases q
theorem pd_chain {o o' : CmpOp} {rr rr' : R2} {op op' : D → D → Option R} {a b c : Expr} {pos : Pos} {f g h : Fx} (hr : OpR X (compareOp o) rr) (hr' : OpR X (compareOp o') rr') (ho : Op2 G rr op) (ho' : Op2 G rr' op') (hb0 : ∀ x y r, op x y = some r → ∃ b, r = .ok (.bl b)) (ha : PE X a (teD G W f)) (hb : PE X b (teD G W g)) (hc : PE X c (teD G W h))
    (hm : lastMarks [o, o'] [b, c] = false := by with_unfolding_all rfl) : PE X (.Compare a [o, o'] [b, c] pos) (teD G W (fChain op op' f g h)) :=
  (pe_chain hr hr' ha hb hc hm).impD fun σ H Q h => te_chain ho ho' hb0 σ H Q h
/-- a comparison as a test -/
def BlOp (op : D → D → Option R) : Prop := ∀ x y r, op x y = some r → ∃ b, r = .ok (.bl b)
theorem blf_f2 {op : D → D → Option R} {f g : Fx} (h : BlOp op) : BlF (f2 op f g) := fun ε r e => by
  rcases seqR_inv e with ⟨r0, d0, _, _, e2⟩ | ⟨n, _, rfl⟩
  · rcases seqR_inv e2 with ⟨r1, d1, _, _, e3⟩ | ⟨n, _, rfl⟩
    · exact .inl (h _ _ _ e3)
    · exact .inr ⟨n, rfl⟩
  · exact .inr ⟨n, rfl⟩
theorem blf_chain {op op' : D → D → Option R} {f g k : Fx} (h' : BlOp op') (h : BlOp op) : BlF (fChain op op' f g k) := fun ε r e => by
  rcases seqR_inv e with ⟨r0, d0, _, _, e2⟩ | ⟨n, _, rfl⟩
  · rcases seqR_inv e2 with ⟨r1, d1, _, _, e3⟩ | ⟨n, _, rfl⟩
    · rcases seqR_inv e3 with ⟨r2, d2, e4, e5, e6⟩ | ⟨n, _, rfl⟩
      · obtain ⟨b, rfl⟩ := h _ _ _ e4
        cases e5
        cases b with
        | false =>
          cases e6
          exact .inl ⟨false, rfl⟩
        | true =>
          have e6' : seqR (k ε) (fun w => op' d1 w) = some r := e6
          rcases seqR_inv e6' with ⟨r3, d3, _, _, e7⟩ | ⟨n, _, rfl⟩
          · exact .inl (h' _ _ _ e7)
          · exact .inr ⟨n, rfl⟩
      · exact .inr ⟨n, rfl⟩
    · exact .inr ⟨n, rfl⟩
  · exact .inr ⟨n, rfl⟩
theorem tt_te {f : Fx} {σ : L2.St} {H : Hp} {Q : Bool → Hp → Prop} (h : ttD G W f σ H Q) : teD G W f σ H fun x H' => ∃ k, x = .bl k ∧ Q k H' := by
  obtain ⟨B, ε, r, hs, he, hf, hq, hx, hb⟩ := h
  refine ⟨B, ε, r, hs, he, hf, fun v B' H' st res => ?_, hx⟩
  rcases hb with ⟨b, rfl⟩ | ⟨n, rfl⟩
  · cases res
    exact ⟨b, rfl, hq b B' H' st rfl⟩
  · exact res.elim
theorem ts_cmp {o : CmpOp} {rr : R2} {op : D → D → Option R} {a b : Expr} {pos : Pos} {f g : Fx} (hr : OpR X (compareOp o) rr) (ho : Op2 G rr op) (hb0 : BlOp op) (ha : PE X a (teD G W f)) (hb : PE X b (teD G W g)) (hm : behindInMarks o b = false) : Tst X G W (.Compare a [o] [b] pos) (f2 op f g) :=
  ⟨(pt_cmpR hr ha hb hm).impD fun σ H Q h => te_f2 ho σ H _ (tt_te h), blf_f2 hb0⟩
theorem ts_chain {o o' : CmpOp} {rr rr' : R2} {op op' : D → D → Option R} {a b c : Expr} {pos : Pos} {f g h : Fx} (hr : OpR X (compareOp o) rr) (hr' : OpR X (compareOp o') rr') (ho : Op2 G rr op) (ho' : Op2 G rr' op') (hb0 : BlOp op) (hb1 : BlOp op') (ha : PE X a (teD G W f)) (hb : PE X b (teD G W g)) (hc : PE X c (teD G W h))
    (hm : lastMarks [o, o'] [b, c] = false := by with_unfolding_all rfl) : Tst X G W (.Compare a [o, o'] [b, c] pos) (fChain op op' f g h) :=
  ⟨(pt_chain hr hr' ha hb hc hm).impD fun σ H Q h => te_chain ho ho' hb0 σ H _ (tt_te h), blf_chain hb1 hb0⟩
theorem bl_eq : BlOp oEq := fun x y r h => by
  unfold oEq at h
  split at h
  · cases h
    exact ⟨_, rfl⟩
  · cases h
theorem bl_ne : BlOp oNe := fun x y r h => by
  unfold oNe at h
  split at h
  · cases h
    exact ⟨_, rfl⟩
  · cases h
theorem bl_in {neg : Bool} : BlOp (oIn neg) := fun x y r h => by
  unfold oIn at h
  split at h
  · split at h
    · cases h
      exact ⟨_, rfl⟩
    · cases h
  · cases h
theorem bl_isN : BlOp oIsN := fun x y r h => by
  unfold oIsN at h
  split at h
  · cases h
    exact ⟨_, rfl⟩
  · cases h
theorem bl_notN : BlOp oNotN := fun x y r h => by
  unfold oNotN at h
  split at h
  · cases h
    exact ⟨_, rfl⟩
  · cases h
theorem bl_isB : BlOp oIsB := fun x y r h => by
  unfold oIsB at h
  split at h
  · cases h
    exact ⟨_, rfl⟩
  · cases h
theorem ts_eq {a b : Expr} {pos : Pos} {f g : Fx} {k : Nat} (hr : Room k X.A) (ha : PE X a (teD G W f)) (hb : PE X b (teD G W g)) (hm : behindInMarks .Eq b = false := by first | exact nobehind _ (by decide) (by decide) | rfl) (hK : X.K = G.K := by rfl) : Tst X G W (.Compare a [.Eq] [b] pos) (f2 oEq f g) :=
  ts_cmp (by have h := op_eqD (X := X) hr.units; rw [hK] at h; exact h) op2_eq bl_eq ha hb hm
theorem ts_ne {a b : Expr} {pos : Pos} {f g : Fx} {k : Nat} (hr : Room k X.A) (ha : PE X a (teD G W f)) (hb : PE X b (teD G W g)) (hm : behindInMarks .NotEq b = false := by first | exact nobehind _ (by decide) (by decide) | rfl) (hK : X.K = G.K := by rfl) : Tst X G W (.Compare a [.NotEq] [b] pos) (f2 oNe f g) :=
  ts_cmp (by have h := op_neD (X := X) hr.units; rw [hK] at h; exact h) op2_ne bl_ne ha hb hm
theorem ts_in {a b : Expr} {pos : Pos} {f g : Fx} (ha : PE X a (teD G W f)) (hb : PE X b (teD G W g)) (hm : behindInMarks .In b = false := by rfl) (hK : X.K = G.K := by rfl) : Tst X G W (.Compare a [.In] [b] pos) (f2 (oIn false) f g) :=
  ts_cmp (by have h := op_in_seq (X := X); rw [hK] at h; exact h) op2_in bl_in ha hb hm
theorem ts_notin {a b : Expr} {pos : Pos} {f g : Fx} (ha : PE X a (teD G W f)) (hb : PE X b (teD G W g)) (hm : behindInMarks .NotIn b = false := by rfl) (hK : X.K = G.K := by rfl) : Tst X G W (.Compare a [.NotIn] [b] pos) (f2 (oIn true) f g) :=
  ts_cmp (by have h := op_notIn_seq (X := X); rw [hK] at h; exact h) op2_in bl_in ha hb hm
theorem blII {g : Int → Int → Bool} : ∀ x y r, oII (fun i j => .bl (g i j)) x y = some r → ∃ b, r = .ok (.bl b) := by
  intro x y r h
  unfold oII at h
  split at h
  · cases h
    exact ⟨_, rfl⟩
  · cases h
end
end
end DY
namespace DY
open PySem PySem.Spec PyProof.Rows L2
section
variable [NM]

/-! ### what is walked -/
inductive IR where
  | it (xs : List D) (fresh : Bool) | ex (n : Nat)
abbrev Ix := En → Option IR
def Wlk (G : Gd) (Bw : Hp) (J : It) (xs : List D) : Prop := ∀ i H, Same Bw H →
  (∀ x, xs[i]? = some x → J.go i H ∧ ∀ v H1, J.yld i H v H1 → ∀ B1, Same Bw B1 → Same B1 H → ∃ B2, Stp B1 H B2 H1 ∧ Rep G B2 v x) ∧ (xs.length ≤ i → J.stop i H)
def tiD (G : Gd) (W : WX) (fi : Ix) : TI := fun σ H Rk => ∃ (B : Hp) (ε : En) (r : IR), Same B H ∧ EnvD G B σ ε ∧ fi ε = some r ∧
  (∀ xs fr J Bw B' H', r = .it xs fr → Stp B H B' H' → Same Bw B' → Wlk G Bw J xs → (fr = true → ∀ a o, Bw a = some o → H a = none) → Rk J H') ∧ (∀ n, r = .ex n → ∀ H', Same H H' → W (.ref (G.A n)) none σ H')
def noH : Hp := fun _ => none
theorem no_same {B : Hp} : Same noH B := fun _ _ e => by cases e

section
variable {G : Gd} {W : WX} {X : Cx} {tg : Expr}
theorem _root_.L2.PI.impD {e : Expr} {t t' : TI} (h : PI X tg e t) (i : ∀ σ H Q, t' σ H Q → t σ H Q) : PI X tg e t' := ⟨fun pins s σ H Q I q => h.run pins s σ H Q I (i σ H Q q)⟩
def fItL (f : Fx) : Ix := fun ε => match f ε with
  | some (.ok (.lst ds)) => some (.it ds false)
  | some (.ok (.scr ns)) => some (.it (ns.map .int) false)
  | some (.nw ds) => some (.it ds (ds.all D.flat))
  | some (.ex n) => some (.ex n)
  | _ => none
theorem te_list {σ : L2.St} {B H : Hp} {ε : En} {f : Fx} {r0 : IR} {Q : VK} (hs : Same B H) (he : EnvD G B σ ε) (hf : fItL f ε = some r0) (hx : ∀ n, r0 = .ex n → ∀ H', Same H H' → W (.ref (G.A n)) none σ H')
    (hq : ∀ a vs ds fr Bw B' H', r0 = .it ds fr → Stp B H B' H' → Same Bw B' → SqL G.K Bw a vs → RepL G Bw vs ds → (fr = true → ∀ a o, Bw a = some o → H a = none) → Q (.ref a) H') : teD G W f σ H Q := by
  unfold fItL at hf
  split at hf
  · rename_i ds e1
    cases hf
    refine ⟨B, ε, _, hs, he, e1, fun v B' H' st res => ?_, fun n q => by cases q⟩
    cases res with
    | lst h1 r1 => exact hq _ _ _ _ B' B' H' rfl st (Same.refl _) (SqL.of h1) r1 (fun q => by cases q)
  · rename_i ns e1
    cases hf
    refine ⟨B, ε, _, hs, he, e1, fun v B' H' st res => ?_, fun n q => by cases q⟩
    cases res with
    | scr h1 => exact hq _ _ _ _ B' B' H' rfl st (Same.refl _) h1 RepL.ints (fun q => by cases q)
  · rename_i ds e1
    cases hf
    refine ⟨B, ε, _, hs, he, e1, fun v B' H' st res => ?_, fun n q => by cases q⟩
    obtain ⟨B2, st2, s2, rp⟩ := Res.use (d := .lst ds) st res rfl
    obtain ⟨p, vs, rfl, hp, bp, h1, r1⟩ := res
    cases rp with
    | lst h3 r3 =>
      cases hfl : ds.all D.flat with
      | false => exact hq p _ _ _ B2 B2 H' (by rw [hfl]) st2 (Same.refl _) (SqL.of h3) r3 (fun q => by cases q)
      | true =>
        have sb : Same (upd noH p (.lst vs)) B2 := fun b o e => by
          by_cases hb : b = p
          · subst hb
            rw [upd_same] at e
            cases e
            have z : H' b = some _ := st2.s _ _ h3
            rw [h1] at z
            cases z
            exact h3
          · rw [upd_ne hb] at e
            cases e
        refine hq p _ _ _ (upd noH p (.lst vs)) B2 H' (by rw [hfl]) st2 sb (SqL.of upd_same) (r1.any hfl) (fun _ b o e => ?_)
        by_cases hb : b = p
        · exact hb ▸ hp
        · rw [upd_ne hb] at e
          cases e
  · rename_i n e1
    cases hf
    exact ⟨B, ε, .ex n, hs, he, e1, fun v B' H' st res => res.elim, fun m q => by cases q; exact hx n rfl⟩
  · cases hf
theorem wlk_list {Bw : Hp} {a : Addr} {vs : List V} {ds : List D} (h : SqL G.K Bw a vs) (r : RepL G Bw vs ds) : Wlk G Bw (Itl G.K a) ds := fun i H s =>
  ⟨fun x hx => by
    obtain ⟨v, h1, h2⟩ := r.get hx
    refine ⟨⟨vs, v, s.seq h, h1⟩, fun v' H1 y B1 s1 s2 => ?_⟩
    obtain ⟨rfl, y2⟩ := y
    have e := y2 vs (s.seq h)
    rw [h1] at e
    cases e
    exact ⟨B1, Stp.refl s2, h2.mono s1⟩, fun hi => ⟨vs, s.seq h, by rw [r.length]; exact hi⟩⟩
theorem pdi_list {e : Expr} {f : Fx} (he : PE X e (teD G W f)) (hK : X.K = G.K := by rfl) : PI X tg e (tiD G W (fItL f)) :=
  (pi_list he).impD fun σ H Rk ⟨B, ε, r, hs, he, hf, hq, hx⟩ => by
    refine te_list hs he hf hx fun a vs ds fr Bw B' H' er st sw sq rl fn => ⟨a, rfl, ⟨vs, ?_⟩, ?_⟩
    · rw [hK]
      exact st.s.seq (sw.seq sq)
    · rw [hK]
      exact hq _ _ _ Bw B' H' er st sw (wlk_list sq rl) fn
def fItT (f : Fx) : Ix := fun ε => match f ε with
  | some (.ok (.tup ds)) => some (.it ds false)
  | some (.ex n) => some (.ex n)
  | _ => none
theorem pdi_tup {e : Expr} {f : Fx} (he : PE X e (teD G W f)) (hK : X.K = G.K := by rfl) : PI X tg e (tiD G W (fItT f)) :=
  (pi_tup he).impD fun σ H Rk ⟨B, ε, r, hs, he, hf, hq, hx⟩ => by
    unfold fItT at hf
    split at hf
    · rename_i ds e1
      cases hf
      refine ⟨B, ε, _, hs, he, e1, fun v B' H' st res => ?_, fun n q => by cases q⟩
      cases res with
      | tup h1 r1 =>
        refine ⟨_, rfl, ⟨_, SqT.of (st.s _ _ h1)⟩, hq _ _ _ B' B' H' rfl st (Same.refl _) (fun i H2 s => ⟨fun x hx => ?_, fun hi => ⟨_, SqT.of (s _ _ h1), by rw [r1.length]; exact hi⟩⟩) (fun q => by cases q)⟩
        obtain ⟨v, h2, h3⟩ := r1.get hx
        refine ⟨⟨_, v, SqT.of (s _ _ h1), h2⟩, fun v' H1 y B1 s1 s2 => ?_⟩
        obtain ⟨rfl, y2⟩ := y
        have e := y2 _ (SqT.of (s _ _ h1))
        rw [h2] at e
        cases e
        exact ⟨B1, Stp.refl s2, h3.mono s1⟩
    · rename_i n e1
      cases hf
      exact ⟨B, ε, .ex n, hs, he, e1, fun v B' H' st res => res.elim, fun m q => by cases q; exact hx n rfl⟩
    · cases hf
def rngD (lo : Int) (n : Nat) : List D := (List.range n).map fun i => .int (lo + (i : Nat))
theorem rngD_len (lo : Int) (n : Nat) : (rngD lo n).length = n := by simp [rngD]
theorem rngD_get {lo : Int} {n i : Nat} {x : D} (h : (rngD lo n)[i]? = some x) : i < n ∧ x = .int (lo + (i : Nat)) := by
  unfold rngD at h
  rw [List.getElem?_map] at h
  obtain ⟨j, h1, h2⟩ := Option.map_eq_some_iff.mp h
  obtain ⟨h3, h4⟩ := List.getElem?_eq_some_iff.mp h1
  rw [List.length_range] at h3
  rw [List.getElem_range] at h4
  subst h4
  exact ⟨h3, h2.symm⟩
theorem wlk_range {lo : Int} {n : Nat} : Wlk G noH (Itr lo n) (rngD lo n) := fun i H s =>
  ⟨fun x hx => by
    obtain ⟨h1, rfl⟩ := rngD_get hx
    refine ⟨h1, fun v H1 y B1 s1 s2 => ?_⟩
    obtain ⟨rfl, rfl⟩ := y
    exact ⟨B1, Stp.refl s2, .int⟩, fun hi => by
    rw [rngD_len] at hi
    exact hi⟩
def fItR (f : Fx) : Ix := fun ε => match f ε with
  | some (.ok (.int n)) => if -1000000000 ≤ n ∧ n ≤ 1000000000 then some (.it (rngD 0 n.toNat) true) else none
  | some (.ex n) => some (.ex n)
  | _ => none
theorem pdi_range1 {a : Expr} {f : Fx} {p pos : Pos} (hg : Gl X "range") (hm : X.mg "range" = none) (ha : PE X a (teD G W f)) (hs : starEach [a] X.env = [(false, eval a X.env)] := by rfl) : PI X tg (.Call (.Name "range" p) [a] [] pos) (tiD G W (fItR f)) :=
  (pi_range1 hg hm (pa_cons ha pa_nil hs) hs).impD fun σ H Rk ⟨B, ε, r, hs, he, hf, hq, hx⟩ => by
    unfold fItR at hf
    split at hf
    · rename_i n e1
      split at hf
      · rename_i hn
        cases hf
        refine ⟨B, ε, _, hs, he, e1, fun v B' H' st res => ?_, fun n q => by cases q⟩
        cases res
        exact ⟨n, rfl, by omega, by omega, hq _ _ _ noH B' H' rfl st no_same wlk_range (fun _ _ _ e => by cases e)⟩
      · cases hf
    · rename_i n e1
      cases hf
      exact ⟨B, ε, .ex n, hs, he, e1, fun v B' H' st res => res.elim, fun m q => by cases q; exact hx n rfl⟩
    · cases hf
def fItR2 (f g : Fx) : Ix := fun ε => match f ε with
  | some (.ok (.int lo)) => match g ε with
    | some (.ok (.int n)) => if (-1000000000 ≤ n ∧ n ≤ 1000000000) ∧ -1000000000 ≤ lo ∧ lo ≤ 1000000000 then some (.it (rngD lo (n - lo).toNat) true) else none
    | some (.ex n) => some (.ex n)
    | _ => none
  | some (.ex n) => some (.ex n)
  | _ => none
theorem pdi_range2 {a b : Expr} {f g : Fx} {p pos : Pos} (hg : Gl X "range") (hm : X.mg "range" = none) (ha : PE X a (teD G W f)) (hb : PE X b (teD G W g)) (hs : starEach [a, b] X.env = [(false, eval a X.env), (false, eval b X.env)] := by rfl) (hs2 : starEach [b] X.env = [(false, eval b X.env)] := by rfl) :
    PI X tg (.Call (.Name "range" p) [a, b] [] pos) (tiD G W (fItR2 f g)) :=
  (pi_range2 hg hm (pa_cons ha (pa_cons hb pa_nil hs2) (by rw [hs, hs2])) hs hs2).impD fun σ H Rk ⟨B, ε, r, hs, he, hf, hq, hx⟩ => by
    unfold fItR2 at hf
    split at hf
    · rename_i lo e1
      refine ⟨B, ε, _, hs, he, e1, fun v B' H' st res => ?_, fun n q => by cases q⟩
      cases res
      split at hf
      · rename_i n e2
        split at hf
        · rename_i hn
          cases hf
          refine ⟨B', ε, _, st.s, he.mono st.b, e2, fun v B2 H2 st2 res => ?_, fun n q => by cases q⟩
          cases res
          exact ⟨lo, n, rfl, ⟨by omega, by omega, by omega, by omega⟩, hq _ _ _ noH B2 H2 rfl (st.trans st2) no_same wlk_range (fun _ _ _ e => by cases e)⟩
        · cases hf
      · rename_i n e2
        cases hf
        exact ⟨B', ε, .ex n, st.s, he.mono st.b, e2, fun v B' H' st res => res.elim, fun m q H2 s2 => by cases q; exact hx n rfl H2 (st.h.trans s2)⟩
      · cases hf
    · rename_i n e1
      cases hf
      exact ⟨B, ε, .ex n, hs, he, e1, fun v B' H' st res => res.elim, fun m q => by cases q; exact hx n rfl⟩
    · cases hf
def pairs (xs : List D) : Nat → List D
  | k => match xs with
    | [] => []
    | x :: r => .tup [.int (k : Nat), x] :: pairs r (k + 1)
theorem pairs_len : ∀ (xs : List D) k, (pairs xs k).length = xs.length
  | [], _ => rfl
  | x :: r, k => by
    show (pairs r (k + 1)).length + 1 = _
    rw [pairs_len r (k + 1)] <;> rfl
theorem pairs_get : ∀ (xs : List D) (k i : Nat) (x : D), (pairs xs k)[i]? = some x → ∃ y, xs[i]? = some y ∧ x = .tup [.int ((k + i : Nat) : Int), y]
  | [], _, i, x, h => by
    cases i <;> cases h
  | y :: r, k, 0, x, h => by
    have e : D.tup [.int (k : Nat), y] = x := Option.some.inj h
    exact ⟨y, rfl, e.symm⟩
  | y :: r, k, i + 1, x, h => by
    obtain ⟨z, h1, h2⟩ := pairs_get r (k + 1) i x h
    refine ⟨z, h1, ?_⟩
    rw [h2, show k + 1 + i = k + (i + 1) by omega]
def fItE (f : Fx) : Ix := fun ε => match fItL f ε with
  | some (.it xs fr) => some (.it (pairs xs 0) fr)
  | some (.ex n) => some (.ex n)
  | none => none
theorem wlk_enum {Bw : Hp} {a : Addr} {vs : List V} {ds : List D} (h : SqL G.K Bw a vs) (r : RepL G Bw vs ds) : Wlk G Bw (Ite G.K a) (pairs ds 0) := fun i H s => by
  refine ⟨fun x hx => ?_, fun hi => ⟨vs, s.seq h, by rw [pairs_len] at hi; rw [r.length]; exact hi⟩⟩
  obtain ⟨y, h1, rfl⟩ := pairs_get ds 0 i x hx
  obtain ⟨v, h2, h3⟩ := r.get h1
  refine ⟨⟨vs, v, s.seq h, h2⟩, fun v' H1 yl B1 s1 s2 => ?_⟩
  obtain ⟨T, z, rfl, hT, rfl, hz⟩ := yl
  have e := hz vs (s.seq h)
  rw [h2] at e
  cases e
  refine ⟨upd B1 T (.tup [.int (i : Nat), v]), Stp.new s2 hT, .tup upd_same ?_⟩
  rw [Nat.zero_add]
  exact .cons .int (.cons ((h3.mono s1).mono (same_new (s2.free hT))) .nil)
theorem pdi_enum {e : Expr} {f : Fx} {p pos tpos : Pos} {elts : List Expr} {kk : Nat} (hg : Gl X "enumerate") (hm : X.mg "enumerate" = none) (he : PE X e (teD G W f)) (hs : starEach [e] X.env = [(false, eval e X.env)] := by rfl) (hK : X.K = G.K := by rfl) :
    PI X (.Tuple elts kk tpos) (.Call (.Name "enumerate" p) [e] [] pos) (tiD G W (fItE f)) :=
  (pi_enum hg hm (pa_cons he pa_nil hs) hs).impD fun σ H Rk ⟨B, ε, r, hs, he, hf, hq, hx⟩ => by
    unfold fItE at hf
    split at hf
    · rename_i xs fr e1
      cases hf
      refine te_list hs he e1 (fun n q => by cases q) fun a vs ds fr Bw B' H' er st sw sq rl fn => ⟨a, vs, rfl, ?_, ?_⟩
      · rw [hK]
        exact st.s.seq (sw.seq sq)
      · cases er
        rw [hK]
        exact hq _ _ _ Bw B' H' rfl st sw (wlk_enum sq rl) fn
    · rename_i n e1
      cases hf
      exact te_list hs he e1 (fun m q => by cases q; exact hx n rfl) fun a vs ds fr Bw B' H' er => by cases er
    · cases hf
def zipD : List D → List D → List D
  | x :: xs, y :: ys => .tup [x, y] :: zipD xs ys
  | _, _ => []
theorem zipD_len : ∀ xs ys : List D, (zipD xs ys).length = min xs.length ys.length
  | [], ys => by simp [zipD]
  | x :: xs, [] => by simp [zipD]
  | x :: xs, y :: ys => by
    rw [zipD, List.length_cons, zipD_len xs ys, List.length_cons, List.length_cons]
    omega
theorem zipD_get : ∀ (xs ys : List D) (i : Nat) (z : D), (zipD xs ys)[i]? = some z → ∃ x y, xs[i]? = some x ∧ ys[i]? = some y ∧ z = .tup [x, y]
  | [], ys, i, z, h => by simp [zipD] at h
  | x :: xs, [], i, z, h => by simp [zipD] at h
  | x :: xs, y :: ys, 0, z, h => by
    rw [zipD] at h
    have e : D.tup [x, y] = z := Option.some.inj h
    exact ⟨x, y, rfl, rfl, e.symm⟩
  | x :: xs, y :: ys, i + 1, z, h => zipD_get xs ys i z h
def fItZ (f g : Fx) : Ix := fun ε => match fItL f ε with
  | some (.it xs _) => match fItL g ε with
    | some (.it ys _) => some (.it (zipD xs ys) false)
    | some (.ex n) => some (.ex n)
    | none => none
  | some (.ex n) => some (.ex n)
  | none => none
theorem wlk_zip {Bw : Hp} {a b : Addr} {vs ws : List V} {ds es : List D} (h : SqL G.K Bw a vs) (r : RepL G Bw vs ds) (h' : SqL G.K Bw b ws) (r' : RepL G Bw ws es) : Wlk G Bw (Itz G.K a b) (zipD ds es) := fun i H s => by
  refine ⟨fun x hx => ?_, fun hi => ⟨vs, ws, s.seq h, s.seq h', ?_⟩⟩
  · obtain ⟨y, z, h1, h2, rfl⟩ := zipD_get ds es i x hx
    obtain ⟨v, h3, h4⟩ := r.get h1
    obtain ⟨w, h5, h6⟩ := r'.get h2
    refine ⟨⟨vs, ws, v, w, s.seq h, s.seq h', h3, h5⟩, fun v' H1 yl B1 s1 s2 => ?_⟩
    obtain ⟨T, x1, x2, rfl, hT, rfl, z1, z2⟩ := yl
    have e1 := z1 vs (s.seq h)
    rw [h3] at e1
    cases e1
    have e2 := z2 ws (s.seq h')
    rw [h5] at e2
    cases e2
    have sn : Same B1 (upd B1 T (.tup [v, w])) := same_new (s2.free hT)
    exact ⟨upd B1 T (.tup [v, w]), Stp.new s2 hT, .tup upd_same (.cons ((h4.mono s1).mono sn) (.cons ((h6.mono s1).mono sn) .nil))⟩
  · rw [zipD_len] at hi
    rw [r.length, r'.length]
    omega
theorem pdi_zip {e e2 : Expr} {f g : Fx} {p pos tpos : Pos} {elts : List Expr} {kk : Nat} (hg : Gl X "zip") (hm : X.mg "zip" = none) (he : PE X e (teD G W f)) (he2 : PE X e2 (teD G W g)) (hs : starEach [e, e2] X.env = (false, eval e X.env) :: starEach [e2] X.env := by rfl) (hs2 : starEach [e2] X.env = (false, eval e2 X.env) :: starEach [] X.env := by rfl) (hpl : (backTo pos (starEach [e2] X.env)).any (·.1) = false := by rfl) (hK : X.K = G.K := by rfl) :
    PI X (.Tuple elts kk tpos) (.Call (.Name "zip" p) [e, e2] [] pos) (tiD G W (fItZ f g)) :=
  (pi_zip hg hm (pa_cons he (pa_cons he2 pa_nil hs2) hs) hs hpl).impD fun σ H Rk ⟨B, ε, r, hs, he, hf, hq, hx⟩ => by
    unfold fItZ at hf
    split at hf
    · rename_i xs fr e1
      refine te_list hs he e1 (fun n q => by cases q) fun a vs ds fr Bw B' H' er st sw sq rl fn => ?_
      cases er
      split at hf
      · rename_i ys fr2 e2
        cases hf
        refine te_list st.s (he.mono st.b) e2 (fun n q => by cases q) fun b ws es fr2 Bw2 B2 H2 er2 st2 sw2 sq2 rl2 fn2 => ?_
        cases er2
        have s1 : Same Bw B2 := sw.trans st2.b
        have q1 : SqL G.K B2 a vs := s1.seq sq
        have q2 : SqL G.K B2 b ws := sw2.seq sq2
        refine ⟨a, b, vs, ws, rfl, ?_, ?_, ?_⟩
        · rw [hK]
          exact st2.s.seq q1
        · rw [hK]
          exact st2.s.seq q2
        · rw [hK]
          exact hq _ _ _ B2 B2 H2 rfl (st.trans st2) (Same.refl _) (wlk_zip q1 (rl.mono s1) q2 (rl2.mono sw2)) (fun q => by cases q)
      · rename_i n e2
        cases hf
        exact te_list st.s (he.mono st.b) e2 (fun m q H2 s2 => by cases q; exact hx n rfl H2 (st.h.trans s2)) fun a vs ds fr Bw B' H' er => by cases er
      · cases hf
    · rename_i n e1
      cases hf
      exact te_list hs he e1 (fun m q => by cases q; exact hx n rfl) fun a vs ds fr Bw B' H' er => by cases er
    · cases hf
end
end
end DY
namespace DY
open PySem PySem.Spec PyProof.Rows L2
section
variable [NM]

/-! ### targets -/
def setsV : L2.St → List Nat → List V → L2.St
  | σ, i :: is, v :: vs => setsV (σ.set i (some v)) is vs
  | σ, _, _ => σ
inductive Tg where
  | nm (i : Nat) | tp (is : List Nat)
def gNs : List Nat → TGs
  | [] => gNil
  | i :: is => gCons (gName i) (gNs is)
def Tg.g (K : PySem.W.Frag) : Tg → TG
  | .nm i => gName i
  | .tp is => gTup K is.length (gNs is)
def Tg.ix : Tg → List Nat
  | .nm i => [i]
  | .tp is => is
/-- what is put into the slots -/
def putT (n : Nat) : D → Option (List D)
  | .tup ds => if ds.length = n then some ds else none
  | _ => none
def Tg.put : Tg → D → Option (List D)
  | .nm _, d => some [d]
  | .tp is, d => putT is.length d
theorem gNs_ok : ∀ (is : List Nat) (vs : List V) (σ : L2.St) (H : Hp) (Q : L2.St → Hp → Prop), vs.length = is.length → Q (setsV σ is vs) H → gNs is vs σ H Q
  | [], [], σ, H, Q, _, q => ⟨rfl, q⟩
  | [], _ :: _, _, _, _, h, _ => by cases h
  | _ :: _, [], _, _, _, h, _ => by cases h
  | i :: is, v :: vs, σ, H, Q, h, q => ⟨v, vs, rfl, gNs_ok is vs _ H Q (by simpa using h) q⟩
theorem tg_ok {G : Gd} {B H : Hp} {t : Tg} {v : V} {d : D} {ds : List D} {σ : L2.St} {Q : L2.St → Hp → Prop} (s : Same B H) (r : Rep G B v d) (e : t.put d = some ds) (q : ∀ vs, RepL G B vs ds → vs.length = t.ix.length → Q (setsV σ t.ix vs) H) : t.g G.K v σ H Q := by
  cases t with
  | nm i =>
    cases e
    exact q [v] (.cons r .nil) rfl
  | tp is =>
    have e : putT is.length d = some ds := e
    unfold putT at e
    split at e
    · split at e
      · rename_i hl
        cases e
        cases r with
        | tup h2 r2 =>
          exact ⟨_, _, rfl, SqT.of (s _ _ h2), by rw [r2.length]; exact hl, gNs_ok _ _ _ _ _ (by rw [r2.length]; exact hl) (q _ r2 (by rw [r2.length]; exact hl))⟩
      · cases e
    · cases e
inductive PGd (X : Cx) (G : Gd) : Expr → Tg → Prop
  | nm {e i} : PG X e (gName i) → PGd X G e (.nm i)
  | tp {e is} : PG X e (gTup X.K is.length (gNs is)) → PGd X G e (.tp is)
theorem PGd.pg {X : Cx} {G : Gd} {e : Expr} {t : Tg} (h : PGd X G e t) (hK : X.K = G.K) : PG X e (t.g G.K) := by
  cases h with
  | nm h => exact h
  | tp h =>
    rw [← hK]
    exact h
def setsE : En → List Nat → List D → En
  | ε, i :: is, d :: ds => setsE (ε.set i (some d)) is ds
  | ε, _, _ => ε
theorem EnvD.sets {G : Gd} {B : Hp} : ∀ {is : List Nat} {vs : List V} {ds : List D} {σ : L2.St} {ε : En}, EnvD G B σ ε → RepL G B vs ds → EnvD G B (setsV σ is vs) (setsE ε is ds)
  | [], [], _, _, _, e, .nil => e
  | [], _ :: _, _, _, _, e, .cons _ _ => e
  | _ :: _, [], _, _, _, e, .nil => e
  | i :: is, v :: vs, _, _, _, e, .cons h r => EnvD.sets (is := is) (e.set i h) r

/-! ### comprehensions -/
def wipeE (ε : En) : List Nat → En
  | [] => ε
  | v :: vs => (wipeE ε vs).set v none
theorem wipeE_some {ε : En} {i : Nat} {x : D} : ∀ {vs : List Nat}, (wipeE ε vs)[i]? = some (some x) → ε[i]? = some (some x) ∧ i ∉ vs
  | [], h => ⟨h, by simp⟩
  | v :: vs, h => by
    unfold wipeE at h
    by_cases hi : v = i
    · subst hi
      by_cases hl : v < (wipeE ε vs).length
      · rw [List.getElem?_set_self hl] at h
        cases h
      · rw [List.getElem?_eq_none (by rw [List.length_set]; omega)] at h
        cases h
    · rw [List.getElem?_set_ne hi] at h
      obtain ⟨h1, h2⟩ := wipeE_some h
      refine ⟨h1, fun z => ?_⟩
      rcases List.mem_cons.mp z with z | z
      · exact hi z.symm
      · exact h2 z
theorem wipeE_len (ε : En) : ∀ vs, (wipeE ε vs).length = ε.length
  | [] => rfl
  | v :: vs => by
    unfold wipeE
    rw [List.length_set, wipeE_len ε vs]
theorem wipe_get {σ : L2.St} {i : Nat} : ∀ {vs : List Nat}, i ∉ vs → (wipe σ vs)[i]? = σ[i]?
  | [], _ => rfl
  | v :: vs, h => by
    have h1 : v ≠ i := fun e => h (e ▸ List.mem_cons_self)
    unfold wipe
    rw [List.getElem?_set_ne h1]
    exact wipe_get fun z => h (List.mem_cons_of_mem _ z)
theorem EnvD.wipe {G : Gd} {B : Hp} {σ : L2.St} {ε : En} (e : EnvD G B σ ε) (vs : List Nat) : EnvD G B (L2.wipe σ vs) (wipeE ε vs) :=
  ⟨e.tab, by rw [wipeE_len, wipe_length]; exact e.len, fun i d h => by
    obtain ⟨h1, h2⟩ := wipeE_some h
    rw [wipe_get h2]
    exact e.has i d h1⟩
/-- slots outside of the wiped ones are the same -/
theorem wipe_eq : ∀ {vs : List Nat} {σ τ : L2.St}, σ.length = τ.length → (∀ i, i ∉ vs → σ[i]? = τ[i]?) → L2.wipe σ vs = L2.wipe τ vs
  | vs, σ, τ, hl, h => by
    refine List.ext_getElem? fun i => ?_
    by_cases hi : i ∈ vs
    · have z : ∀ {ρ : L2.St} {us : List Nat}, i ∈ us → (L2.wipe ρ us)[i]? = if i < ρ.length then some none else none := by
        intro ρ us
        induction us with
        | nil => intro m; cases m
        | cons u us ih =>
          intro m
          unfold L2.wipe
          by_cases hu : u = i
          · subst hu
            by_cases hlt : u < ρ.length
            · rw [List.getElem?_set_self (by rw [wipe_length]; exact hlt), if_pos hlt]
            · rw [List.getElem?_eq_none (by rw [List.length_set, wipe_length]; omega), if_neg hlt]
          · rw [List.getElem?_set_ne hu]
            exact ih ((List.mem_cons.mp m).resolve_left fun q => hu q.symm)
      rw [z hi, z hi, hl]
    · rw [wipe_get hi, wipe_get hi]
      exact h i hi
theorem setsV_len : ∀ (is : List Nat) (vs : List V) (σ : L2.St), (setsV σ is vs).length = σ.length
  | [], _, _ => by unfold setsV; rfl
  | _ :: _, [], _ => by unfold setsV; rfl
  | i :: is, v :: vs, σ => by
    unfold setsV
    rw [setsV_len is vs, List.length_set]
theorem setsV_ne : ∀ (is : List Nat) (vs : List V) (σ : L2.St) (j : Nat), j ∉ is → (setsV σ is vs)[j]? = σ[j]?
  | [], _, _, _, _ => by unfold setsV; rfl
  | _ :: _, [], _, _, _ => by unfold setsV; rfl
  | i :: is, v :: vs, σ, j, h => by
    unfold setsV
    rw [setsV_ne is vs _ j (fun z => h (List.mem_cons_of_mem _ z)), List.getElem?_set_ne (fun e => h (by rw [e]; exact List.mem_cons_self))]
def lcR (t : Tg) (ft fe : Fx) (ε : En) : List D → Option (List D)
  | [] => some []
  | x :: xs => match t.put x with
    | none => none
    | some ds => match ft (setsE ε t.ix ds) with
      | some (.ok (.bl true)) => match fe (setsE ε t.ix ds) with
        | some r => match r.val with
          | some d => (lcR t ft fe ε xs).map (d :: ·)
          | none => none
        | none => none
      | some (.ok (.bl false)) => lcR t ft fe ε xs
      | _ => none
def fLc (fi : Ix) (t : Tg) (ft fe : Fx) (own : List Nat) : Fx := fun ε => match fi ε with
  | some (.it xs _) => if xs.length ≤ 90000 then (lcR t ft fe (wipeE ε own) xs).map R.nw else none
  | some (.ex n) => some (.ex n)
  | none => none
def fYes : Fx := fun _ => some (.ok (.bl true))
section
variable {G : Gd} {W : WX} {X : Cx}
abbrev W0 : WX := fun _ _ _ _ => False
structure PTd (X : Cx) (G : Gd) (ifs : List Expr) (f : Fx) : Prop where
  ts : PTs X ifs (ttD G W0 f)
theorem ptd_nil : PTd X G [] fYes := ⟨⟨fun pins s σ H Q I hw => by
  obtain ⟨B, ε, r, hs, he, hf, hq, _⟩ := hw
  cases hf
  exact pts_nil.run pins s σ H Q I (hq true B H (Stp.refl hs) rfl)⟩⟩
theorem ptd_one {c : Expr} {f : Fx} (h : Tst X G W0 c f) : PTd X G [c] f := ⟨pts_one h.pt⟩
theorem tt_w0 {σ : L2.St} {B H : Hp} {ε : En} {f : Fx} {b : Bool} {Q : Bool → Hp → Prop} (hs : Same B H) (he : EnvD G B σ ε) (hf : f ε = some (.ok (.bl b))) (hq : ∀ B' H', Stp B H B' H' → Q b H') : ttD G W0 f σ H Q :=
  ⟨B, ε, _, hs, he, hf, fun b' B' H' st e => (by cases e; exact hq B' H' st), fun n q => (by cases q), .inl ⟨b, rfl⟩⟩
theorem te_w0 {σ : L2.St} {B H : Hp} {ε : En} {f : Fx} {r : R} {d : D} {Q : VK} (hs : Same B H) (he : EnvD G B σ ε) (hf : f ε = some r) (hd : r.val = some d) (hq : ∀ v B' H', Stp B H B' H' → Rep G B' v d → Q v H') : teD G W0 f σ H Q :=
  ⟨B, ε, r, hs, he, hf, fun v B' H' st res => (by
    obtain ⟨B2, st2, s2, rp⟩ := res.use st hd
    exact hq v B2 H' st2 rp), fun n q => (by subst q; cases hd)⟩
theorem lc_go {J : It} {t : Tg} {ft fe : Fx} {own : List Nat} {σ : L2.St} {ε : En} {H : Hp} {Q : VK} {xs : List D} {B Bw : Hp} {ds : List D} (hs : Same B H) (he : EnvD G B σ ε) (sw : Same Bw B) (wk : Wlk G Bw J xs) (hl : xs.length ≤ 90000) (ho : ∀ i ∈ t.ix, i ∈ own)
    (hr : lcR t ft fe (wipeE ε own) xs = some ds) (hq : ∀ v B' H', Stp B H B' H' → Res G H B' H' v (.nw ds) → Q v H') :
    ∀ Dl, H Dl = none → ∃ Wd : Nat → Nat → Hp → Prop, (∃ m, Wd 0 m (upd H Dl (.lst []))) ∧ ∀ i m H', Wd i m H' →
      (J.stop i H' ∧ Q (.ref Dl) H') ∨ (J.go i H' ∧ ∃ Nx : Hp → Prop, (∀ H'', Nx H'' → ∃ m', m' < m ∧ Wd (i + 1) m' H'') ∧ ∀ x H'', J.yld i H' x H'' → (t.g G.K) x (L2.wipe σ own) H'' fun σ2 H2 => L2.wipe σ2 own = L2.wipe σ own ∧ ttD G W0 ft σ2 H2 fun b H3 =>
        if b = true then teD G W0 fe σ2 H3 fun y H4 => ∃ acc, H4 Dl = some (.lst acc) ∧ acc.length < sizeLine ∧ Nx (upd H4 Dl (.lst (acc ++ [y]))) else Nx H3) := by
  intro Dl hD
  have bD : B Dl = none := hs.free hD
  -- what holds ahead of turn i: some are told, the others are still to come
  let Inv1 : Nat → Hp → Prop := fun i H' => ∃ (B' : Hp) (vs : List V) (es fs : List D), Same B B' ∧ Same B' H' ∧ (∀ a o, B' a = some o → (∃ o', B a = some o') ∨ Fre H a) ∧ Same H H' ∧ B' Dl = none ∧ H' Dl = some (.lst vs) ∧ RepL G B' vs es ∧ es.length ≤ i ∧ ds = es ++ fs ∧ lcR t ft fe (wipeE ε own) (xs.drop i) = some fs
  refine ⟨fun i m H' => i + m = xs.length ∧ Inv1 i H', ⟨xs.length, by omega, B, [], [], ds, Same.refl _, hs.trans (same_new hD), fun a o e => .inl ⟨o, e⟩, same_new hD, bD, upd_same, .nil, Nat.le_refl _, rfl, hr⟩, fun i m H' hw => ?_⟩
  obtain ⟨hm, B', vs, es, fs, sB, sH, nB, sHH, nD, eD, rl, le, ed, hlc⟩ := hw
  by_cases hi : i < xs.length
  · have hx : xs[i]? = some xs[i] := List.getElem?_eq_getElem hi
    obtain ⟨go, yl⟩ := (wk i H' ((sw.trans sB).trans sH)).1 _ hx
    have hdr : xs.drop i = xs[i] :: xs.drop (i + 1) := List.drop_eq_getElem_cons hi
    rw [hdr] at hlc
    refine .inr ⟨go, Inv1 (i + 1), fun H'' h => ⟨m - 1, by omega, by omega, h⟩, fun v H1 yy => ?_⟩
    obtain ⟨B2, st, rp⟩ := yl v H1 yy B' (sw.trans sB) sH
    have n2D : B2 Dl = none := by
      cases e : B2 Dl with
      | none => rfl
      | some o =>
        rcases st.n Dl o e with ⟨o', q⟩ | q
        · rw [nD] at q
          cases q
        · exact (q.no eD rfl).elim
    have keep : ∀ {B3 H3 : Hp}, Stp B2 H1 B3 H3 → B3 Dl = none := fun {B3 H3} st3 => by
      cases e : B3 Dl with
      | none => rfl
      | some o =>
        rcases st3.n Dl o e with ⟨o', q⟩ | q
        · rw [n2D] at q
          cases q
        · exact (q.no (o := .lst vs) (st.h _ _ eD) rfl).elim
    have news : ∀ {B3 H3 : Hp}, Stp B2 H1 B3 H3 → ∀ a o, B3 a = some o → (∃ o', B a = some o') ∨ Fre H a := fun {B3 H3} st3 a o e => by
      rcases (st.trans st3).n a o e with ⟨o', q⟩ | q
      · exact nB a o' q
      · exact .inr (sHH.fre q)
    unfold lcR at hlc
    cases hp : t.put xs[i] with
    | none =>
      rw [hp] at hlc
      cases hlc
    | some ps =>
      rw [hp] at hlc
      refine tg_ok st.s rp hp fun ws rw1 hwl => ⟨?_, ?_⟩
      · refine (wipe_eq (by rw [setsV_len, wipe_length]) fun j hj => ?_)
        rw [setsV_ne _ _ _ _ (fun z => hj (ho j z)), wipe_get hj]
      · have e2 : EnvD G B2 (setsV (L2.wipe σ own) t.ix ws) (setsE (wipeE ε own) t.ix ps) := ((he.mono (sB.trans st.b)).wipe own).sets rw1
        dsimp only at hlc
        split at hlc
        · rename_i hft
          refine tt_w0 st.s e2 hft fun B3 H3 st3 => ite_tru ?_
          split at hlc
          · rename_i r hfe
            split at hlc
            · rename_i d hd
              obtain ⟨gs, hg, rfl⟩ := Option.map_eq_some_iff.mp hlc
              refine te_w0 st3.s (e2.mono st3.b) hfe hd fun y B4 H4 st4 rp4 => ?_
              have st34 := st3.trans st4
              have sHH4 : Same H1 H4 := st34.h
              have eD4 : H4 Dl = some (.lst vs) := sHH4 _ _ (st.h _ _ eD)
              refine ⟨vs, eD4, lt_line (by rw [rl.length]; omega), B4, vs ++ [y], es ++ [d], gs, (sB.trans st.b).trans st34.b, fun b o e => ?_, news st34, fun b o e => ?_, keep st34, upd_same, (rl.mono (st.b.trans st34.b)).append (.cons rp4 .nil), by rw [List.length_append]; simp; omega, by rw [ed, List.append_assoc] <;> rfl, hg⟩
              · exact (st34.s b o e).chg eD4 rfl (ne_of_none e (keep st34))
              · exact (((sHH.trans st.h).trans sHH4) b o e).chg eD4 rfl (ne_of_none e hD)
            · cases hlc
          · cases hlc
        · rename_i hft
          refine tt_w0 st.s e2 hft fun B3 H3 st3 => ite_fal ?_
          exact ⟨B3, vs, es, fs, (sB.trans st.b).trans st3.b, st3.s, news st3, (sHH.trans st.h).trans st3.h, keep st3, st3.h _ _ (st.h _ _ eD), rl.mono (st.b.trans st3.b), by omega, ed, hlc⟩
        · cases hlc
  · have hi' : xs.length ≤ i := by omega
    refine .inl ⟨(wk i H' ((sw.trans sB).trans sH)).2 hi', ?_⟩
    rw [List.drop_eq_nil_of_le hi'] at hlc
    cases hlc
    rw [List.append_nil] at ed
    subst ed
    exact hq _ B' H' ⟨sB, sHH, sH, nB⟩ ⟨Dl, vs, rfl, hD, nD, eD, rl⟩
theorem te_lc {fi : Ix} {t : Tg} {ft fe : Fx} {own : List Nat} (ho : ∀ i ∈ t.ix, i ∈ own) (σ : L2.St) (H : Hp) (Q : VK) (h : teD G W (fLc fi t ft fe own) σ H Q) : tLc (tiD G W fi) (t.g G.K) (ttD G W0 ft) (teD G W0 fe) own σ H Q := by
  obtain ⟨B, ε, z, hs, he, hf, hq, hx⟩ := h
  unfold fLc at hf
  split at hf
  · rename_i xs fr e1
    split at hf
    · rename_i hl
      obtain ⟨ds, hr, rfl⟩ := Option.map_eq_some_iff.mp hf
      refine ⟨B, ε, _, hs, he, e1, fun xs' fr' J Bw B' H' er st sw wk _ => ?_, fun n q => by cases q⟩
      cases er
      exact lc_go st.s (he.mono st.b) sw wk hl ho hr fun v B2 H2 st2 res => hq v B2 H2 (st.trans st2) (res.back st.h)
    · cases hf
  · rename_i n e1
    cases hf
    exact ⟨B, ε, .ex n, hs, he, e1, fun xs' fr' J Bw B' H' er => (by cases er), fun m q => (by cases q; exact hx n rfl)⟩
  · cases hf
theorem pd_lc {elt tg iter : Expr} {ifs : List Expr} {scope : Scope} {own : List (Str × Nat)} {vs : List Nat} {pos : Pos} {fi : Ix} {t : Tg} {ft fe : Fx} (hc : X.calm = true) (hN : X.N.Nodup) (hi : PI X tg iter (tiD G W fi)) (ok : BlkOk X.N X.env.scope scope own) (ho : ∀ i ∈ t.ix, i ∈ vs)
    (hg : ∀ (s : Shared) (H : Hp) (C : Addr) (cl : List (Str × Addr)) (fp : List Addr), PGd (X.blk s H scope (compEnvC scope cl C X.env) fp) G tg t) (ht : ∀ (s : Shared) (H : Hp) (C : Addr) (cl : List (Str × Addr)) (fp : List Addr), PTd (X.blk s H scope (compEnvC scope cl C X.env) fp) G ifs ft)
    (he : ∀ (s : Shared) (H : Hp) (C : Addr) (cl : List (Str × Addr)) (fp : List Addr), PE (X.blk s H scope (compEnvC scope cl C X.env) fp) elt (teD G W0 fe)) (hv : own.map (·.2) = vs := by rfl) (hs : ∀ x, foldedSetIterable iter X.env x = pure x := by intro _; rfl) (hK : X.K = G.K := by rfl) :
    PE X (.ListComp elt [⟨tg, iter, ifs, 0⟩] scope pos) (teD G W (fLc fi t ft fe vs)) := by
  subst hv
  exact (pe_lc hc hN hi ok (fun s H C cl fp => (hg s H C cl fp).pg hK) (fun s H C cl fp => (ht s H C cl fp).ts) he hs).impD fun σ H Q h => te_lc ho σ H Q h
end
end
end DY
namespace DY
open PySem PySem.Spec PyProof.Rows L2
section
variable [NM]

/-! ### slots: nothing known, data, a list that is the def's own and changes, such a list with lists of its own in it -/
/-! a book: how many names, the numbers, the deeds that stand -/
structure Bk where
  many : Int
  nums : List Int
  done : List (Int × Int × Int)
def Bk.dn (β : Bk) : List D := β.done.map fun p => .tup [.int p.1, .int p.2.1, .int p.2.2]
def bkN : List Str := ["_numbers", "_many", "_done"]
def Bk.d (β : Bk) : D := .ins bkN [.lst (β.nums.map .int), .int β.many, .lst β.dn]
def hldD (ps : List (List Int × List Int)) : D := .lst (ps.map fun p => .tup [.lst (p.1.map .int), .lst (p.2.map .int)])
inductive Sl where
  | un | dat (d : D) | own (ds : List D) | nst (t : Bool) (ps : List Pt) | bk (b : Addr) (β : Bk) | rws (b : Addr) (ds : List D) | hld (b : Addr) (ps : List (List Int × List Int)) | raw (a : Addr) (rs : List Addr)
/-- where a thing stands that was handed in and changes -/
def Sl.root : Sl → Option Addr
  | .bk b _ => some b
  | .rws b _ => some b
  | .hld b _ => some b
  | _ => none
abbrev Ev := List Sl
def Sl.vis : Sl → Option D
  | .dat d => some d
  | _ => none
def Sl.pub : Sl → Option D
  | .dat d => some d
  | .own ds => some (.lst ds)
  | .nst t ps => some (nstD t (ps.map Pt.d))
  | .bk _ β => some β.d
  | .rws _ ds => some (.lst ds)
  | .hld _ ps => some (hldD ps)
  | .un => none
  | .raw _ _ => none
def vis (δ : Ev) : En := δ.map Sl.vis
def pub (δ : Ev) : En := δ.map Sl.pub

/-- a book in the heap -/
structure BkAt (G : Gd) (B H : Hp) (b dx a l : Addr) (ws : List V) (β : Bk) : Prop where
  hb : H b = some (.ins (G.T 1001) dx [("_numbers", .ref a), ("_many", .int β.many), ("_done", .ref l)])
  hx : H dx = some (.own b)
  ha : H a = some (.lst (β.nums.map V.int))
  hl : H l = some (.lst ws)
  hr : RepL G B ws β.dn
theorem BkAt.mono {G : Gd} {B H B' H' : Hp} {b dx a l : Addr} {ws : List V} {β : Bk} (sm : Same B B') (k : ∀ p ∈ [b, dx, a, l], H' p = H p) (h : BkAt G B H b dx a l ws β) : BkAt G B' H' b dx a l ws β :=
  ⟨(k b (by simp)).trans h.hb, (k dx (by simp)).trans h.hx, (k a (by simp)).trans h.ha, (k l (by simp)).trans h.hl, h.hr.mono sm⟩
/-- held pairs of lists -/
abbrev Tri := Addr × Addr × Addr
def hadr : List Tri → List Addr
  | [] => []
  | t :: ts => t.1 :: t.2.1 :: t.2.2 :: hadr ts
inductive HL (H : Hp) : List Tri → List (List Int × List Int) → Prop
  | nil : HL H [] []
  | cons {t ts p ps} : H t.1 = some (.tup [.ref t.2.1, .ref t.2.2]) → H t.2.1 = some (.lst (p.1.map V.int)) → H t.2.2 = some (.lst (p.2.map V.int)) → HL H ts ps → HL H (t :: ts) (p :: ps)
theorem HL.mono {H H' : Hp} : ∀ {ts ps}, HL H ts ps → (∀ q ∈ hadr ts, H' q = H q) → HL H' ts ps
  | _, _, .nil, _ => .nil
  | _, _, .cons h1 h2 h3 r, k => .cons ((k _ (by simp [hadr])).trans h1) ((k _ (by simp [hadr])).trans h2) ((k _ (by simp [hadr])).trans h3) (HL.mono r fun q m => k q (by simp only [hadr, List.mem_cons]; exact .inr (.inr (.inr m))))
theorem HL.rep {G : Gd} {B' H : Hp} : ∀ {ts ps}, HL H ts ps → (∀ q ∈ hadr ts, B' q = H q) → RepL G B' (ts.map fun t => V.ref t.1) (ps.map fun p => D.tup [.lst (p.1.map .int), .lst (p.2.map .int)])
  | _, _, .nil, _ => .nil
  | _, _, .cons h1 h2 h3 r, k => .cons (.tup ((k _ (by simp [hadr])).trans h1) (.cons (.lst ((k _ (by simp [hadr])).trans h2) RepL.ints) (.cons (.lst ((k _ (by simp [hadr])).trans h3) RepL.ints) .nil))) (HL.rep r fun q m => k q (by simp only [hadr, List.mem_cons]; exact .inr (.inr (.inr m))))
/-- a slot holds what it is said to hold; R the addresses that are its own -/
def SlOk (G : Gd) (B H : Hp) (x : Option V) (R : List Addr) : Sl → Prop
  | .un => True
  | .dat d => ∃ v, x = some v ∧ Rep G B v d
  | .own ds => ∃ a vs, R = [a] ∧ x = some (.ref a) ∧ H a = some (.lst vs) ∧ RepL G B vs ds
  | .nst t ps => ∃ a vs qs, R = a :: qs ∧ x = some (.ref a) ∧ H a = some (nob t vs) ∧ PtL G B H vs ps qs ∧ (a :: qs).Nodup
  | .bk b β => ∃ dx a l ws, R = [b, dx, a, l] ∧ x = some (.ref b) ∧ BkAt G B H b dx a l ws β ∧ [b, dx, a, l].Nodup
  | .rws b ds => ∃ vs, R = [b] ∧ x = some (.ref b) ∧ H b = some (.lst vs) ∧ RepL G B vs ds
  | .raw a rs => R = [a] ∧ x = some (.ref a) ∧ H a = some (.lst (rs.map V.ref))
  | .hld h ps => ∃ ts, R = h :: hadr ts ∧ x = some (.ref h) ∧ H h = some (.lst (ts.map fun t => V.ref t.1)) ∧ HL H ts ps ∧ (h :: hadr ts).Nodup
theorem SlOk.mono {G : Gd} {B H B' H' : Hp} {x : Option V} {R : List Addr} (sm : Same B B') (k : ∀ p ∈ R, H' p = H p) : ∀ {s}, SlOk G B H x R s → SlOk G B' H' x R s
  | .un, _ => trivial
  | .dat d, ⟨v, e, r⟩ => ⟨v, e, r.mono sm⟩
  | .own ds, ⟨a, vs, e1, e2, h, r⟩ => ⟨a, vs, e1, e2, (k a (by rw [e1]; exact List.mem_cons_self)).trans h, r.mono sm⟩
  | .nst _ ps, ⟨a, vs, qs, e1, e2, h, t, n⟩ => ⟨a, vs, qs, e1, e2, (k a (by rw [e1]; exact List.mem_cons_self)).trans h, t.mono sm fun q m => k q (by rw [e1]; exact List.mem_cons_of_mem _ m), n⟩
  | .bk b β, ⟨dx, a, l, ws, e1, e2, h, n⟩ => ⟨dx, a, l, ws, e1, e2, h.mono sm fun p m => k p (by rw [e1]; exact m), n⟩
  | .rws a ds, ⟨vs, e1, e2, h, r⟩ => ⟨vs, e1, e2, (k a (by rw [e1]; exact List.mem_cons_self)).trans h, r.mono sm⟩
  | .raw a rs, ⟨e1, e2, h⟩ => ⟨e1, e2, (k a (by rw [e1]; exact List.mem_cons_self)).trans h⟩
  | .hld a ps, ⟨ts, e1, e2, h, t, n⟩ => ⟨ts, e1, e2, (k a (by rw [e1]; exact List.mem_cons_self)).trans h, t.mono fun q m => k q (by rw [e1]; exact List.mem_cons_of_mem _ m), n⟩
/-- the slots; ρ tells each one's own addresses -/
structure PrvS (G : Gd) (B H0 H : Hp) (σ : L2.St) (δ : Ev) (ρ : Nat → List Addr) : Prop where
  ok : ∀ (i : Nat) (s : Sl), δ[i]? = some s → ∃ x, σ[i]? = some x ∧ SlOk G B H x (ρ i) s
  new : ∀ (i : Nat) (p : Addr), p ∈ ρ i → H0 p = none ∧ B p = none ∧ ∃ o, H p = some o ∧ Own o
  sep : ∀ (i j : Nat) (p : Addr), p ∈ ρ i → p ∈ ρ j → i = j
/-- B0, H0: what was known, and all, at the def's entry; B what is known and stays; H all -/
structure EnvS (G : Gd) (B0 H0 B H : Hp) (σ : L2.St) (δ : Ev) : Prop where
  b0 : Same B0 B
  bn : ∀ a o, B a = some o → (∃ o', B0 a = some o') ∨ Fre H0 a
  h0 : Same H0 H
  bh : Same B H
  tab : TabsB G B
  len : δ.length = σ.length
  prv : ∃ ρ, PrvS G B H0 H σ δ ρ
section
variable {G : Gd} {W : WX} {X : Cx} {B0 H0 B H : Hp} {σ : L2.St} {δ : Ev} {ρ : Nat → List Addr}
theorem PrvS.stp {B2 H2 : Hp} (P : PrvS G B H0 H σ δ ρ) (st : Stp B H B2 H2) : PrvS G B2 H0 H2 σ δ ρ where
  ok := fun i s q => by
    obtain ⟨x, h1, h2⟩ := P.ok i s q
    refine ⟨x, h1, h2.mono st.b fun p m => ?_⟩
    obtain ⟨_, _, o, ho, no⟩ := P.new i p m
    rw [ho]
    exact own_at st.h ho no
  new := fun i p m => by
    obtain ⟨h1, h2, o, ho, no⟩ := P.new i p m
    refine ⟨h1, ?_, o, own_at st.h ho no, no⟩
    cases z : B2 p with
    | none => rfl
    | some o2 =>
      rcases st.n p o2 z with ⟨o', q⟩ | q
      · rw [h2] at q
        cases q
      · exact (q.no ho no).elim
  sep := P.sep
theorem EnvS.stp {B2 H2 : Hp} (e : EnvS G B0 H0 B H σ δ) (st : Stp B H B2 H2) : EnvS G B0 H0 B2 H2 σ δ where
  b0 := e.b0.trans st.b
  bn := fun a o q => by
    rcases st.n a o q with ⟨o', z⟩ | z
    · exact e.bn a o' z
    · exact .inr (e.h0.fre z)
  h0 := e.h0.trans st.h
  bh := st.s
  tab := e.tab.mono st.b
  len := e.len
  prv := by
    obtain ⟨ρ, P⟩ := e.prv
    exact ⟨ρ, P.stp st⟩
theorem EnvS.dat (e : EnvS G B0 H0 B H σ δ) (i : Nat) (d : D) (q : δ[i]? = some (.dat d)) : ∃ v, σ[i]? = some (some v) ∧ Rep G B v d := by
  obtain ⟨ρ, P⟩ := e.prv
  obtain ⟨x, h1, v, rfl, r⟩ := P.ok i _ q
  exact ⟨v, h1, r⟩
theorem EnvS.own (e : EnvS G B0 H0 B H σ δ) (i : Nat) (ds : List D) (q : δ[i]? = some (.own ds)) : ∃ a vs, σ[i]? = some (some (.ref a)) ∧ H0 a = none ∧ B a = none ∧ H a = some (.lst vs) ∧ RepL G B vs ds := by
  obtain ⟨ρ, P⟩ := e.prv
  obtain ⟨x, h1, a, vs, e1, rfl, h, r⟩ := P.ok i _ q
  obtain ⟨n1, n2, _⟩ := P.new i a (by rw [e1]; exact List.mem_cons_self)
  exact ⟨a, vs, h1, n1, n2, h, r⟩
/-- what a slot shows to the outside, where its own addresses are known -/
theorem PrvS.show {B' : Hp} (P : PrvS G B H0 H σ δ ρ) (s : Same B B') (k : ∀ i, ∀ p ∈ ρ i, B' p = H p) (i : Nat) (d : D) (q : (DY.pub δ)[i]? = some (some d)) : ∃ v, σ[i]? = some (some v) ∧ Rep G B' v d := by
  unfold DY.pub at q
  rw [List.getElem?_map] at q
  obtain ⟨sl, h1, h2⟩ := Option.map_eq_some_iff.mp q
  obtain ⟨x, h3, h4⟩ := P.ok i _ h1
  cases sl with
  | un => cases h2
  | raw a rs => cases h2
  | dat d' =>
    cases h2
    obtain ⟨v, rfl, r⟩ := h4
    exact ⟨v, h3, r.mono s⟩
  | own ds =>
    cases h2
    obtain ⟨a, vs, e1, rfl, h, r⟩ := h4
    exact ⟨_, h3, .lst ((k i a (by rw [e1]; exact List.mem_cons_self)).trans h) (r.mono s)⟩
  | nst b ps =>
    cases h2
    obtain ⟨a, vs, qs, e1, rfl, h, t, _⟩ := h4
    exact ⟨_, h3, rep_nst ((k i a (by rw [e1]; exact List.mem_cons_self)).trans h) (t.rep s fun q m => k i q (by rw [e1]; exact List.mem_cons_of_mem _ m))⟩
  | rws b ds =>
    cases h2
    obtain ⟨vs, e1, rfl, h, r⟩ := h4
    exact ⟨_, h3, .lst ((k i b (by rw [e1]; exact List.mem_cons_self)).trans h) (r.mono s)⟩
  | bk b β =>
    cases h2
    obtain ⟨dx, a, l, ws, e1, rfl, h, _⟩ := h4
    have kk : ∀ p ∈ [b, dx, a, l], B' p = H p := fun p m => k i p (by rw [e1]; exact m)
    exact ⟨_, h3, Rep.ins (vs := [.ref a, .int β.many, .ref l]) ((kk b (by simp)).trans h.hb) (.cons (.lst ((kk a (by simp)).trans h.ha) RepL.ints) (.cons .int (.cons (.lst ((kk l (by simp)).trans h.hl) (h.hr.mono s)) .nil)))⟩
  | hld a ps =>
    cases h2
    obtain ⟨ts, e1, rfl, h, t, _⟩ := h4
    exact ⟨_, h3, .lst ((k i a (by rw [e1]; exact List.mem_cons_self)).trans h) (t.rep fun q m => k i q (by rw [e1]; exact List.mem_cons_of_mem _ m))⟩
theorem EnvS.vis (e : EnvS G B0 H0 B H σ δ) : EnvD G B σ (vis δ) :=
  ⟨e.tab, by unfold DY.vis; rw [List.length_map]; exact e.len, fun i d q => by
    unfold DY.vis at q
    rw [List.getElem?_map] at q
    obtain ⟨s, h1, h2⟩ := Option.map_eq_some_iff.mp q
    cases s with
    | dat d' =>
      cases h2
      exact e.dat i _ h1
    | _ => cases h2⟩
theorem EnvS.pub (e : EnvS G B0 H0 B H σ δ) : EnvD G H σ (pub δ) :=
  ⟨e.tab.mono e.bh, by unfold DY.pub; rw [List.length_map]; exact e.len, fun i d q => by
    obtain ⟨ρ, P⟩ := e.prv
    exact P.show e.bh (fun _ _ _ => rfl) i d q⟩
/-- all lists of the def's own become known -/
def pubB (B H0 H : Hp) : Hp := fun a => match B a with
  | some o => some o
  | none => match H0 a with
    | some _ => none
    | none => H a
theorem EnvS.pubB (e : EnvS G B0 H0 B H σ δ) : Same B (pubB B H0 H) ∧ Stp B0 H0 (DY.pubB B H0 H) H ∧ EnvD G (DY.pubB B H0 H) σ (DY.pub δ) := by
  have s1 : Same B (DY.pubB B H0 H) := Same.of fun a o q => by
    unfold DY.pubB
    rw [q]
  have s2 : Same (DY.pubB B H0 H) H := fun a o q => by
    unfold DY.pubB at q
    split at q
    · rename_i o' h
      cases q
      exact e.bh _ _ h
    · split at q
      · cases q
      · exact .of q
  refine ⟨s1, ⟨e.b0.trans s1, e.h0, s2, fun a o q => ?_⟩, ⟨e.tab.mono s1, e.pub.len, fun i d q => ?_⟩⟩
  · unfold DY.pubB at q
    split at q
    · rename_i o' h
      exact e.bn a o' h
    · split at q
      · cases q
      · rename_i h
        exact .inr (.inl h)
  · obtain ⟨ρ, P⟩ := e.prv
    refine P.show s1 (fun i p m => ?_) i d q
    obtain ⟨h1, h2, _⟩ := P.new i p m
    unfold DY.pubB
    rw [h1, h2]
def noOwn (δ : Ev) : Bool := δ.all fun s => match s with
  | .own _ => false
  | .nst _ _ => false
  | .bk _ _ => false
  | .rws _ _ => false
  | .hld _ _ => false
  | .raw _ _ => false
  | _ => true
/-- a slot is written anew, and what is its own may change -/
theorem PrvS.put {H' : Hp} (P : PrvS G B H0 H σ δ ρ) (len : δ.length = σ.length) (i : Nat) {x : Option V} {s : Sl} {R : List Addr} (hH : ∀ b, b ∉ ρ i → H' b = H b) (hs : SlOk G B H' x R s)
    (hn : ∀ p ∈ R, H0 p = none ∧ B p = none ∧ ∃ o, H' p = some o ∧ Own o) (hd : ∀ j, j ≠ i → ∀ p ∈ R, p ∉ ρ j) : PrvS G B H0 H' (σ.set i x) (δ.set i s) (fun j => if j = i then R else ρ j) where
  ok := fun j t q => by
    by_cases hj : i = j
    · subst hj
      by_cases hl : i < δ.length
      · rw [List.getElem?_set_self hl] at q
        cases q
        exact ⟨x, List.getElem?_set_self (by rw [← len]; exact hl), by rw [if_pos rfl]; exact hs⟩
      · rw [List.getElem?_eq_none (by rw [List.length_set]; omega)] at q
        cases q
    · rw [List.getElem?_set_ne hj] at q ⊢
      obtain ⟨y, h1, h2⟩ := P.ok j t q
      rw [if_neg (fun z => hj z.symm)]
      exact ⟨y, h1, h2.mono (Same.refl _) fun p m => hH p fun m2 => hj (P.sep i j p m2 m)⟩
  new := fun j p m => by
    by_cases hj : j = i
    · rw [if_pos hj] at m
      exact hn p m
    · rw [if_neg hj] at m
      obtain ⟨h1, h2, o, ho, no⟩ := P.new j p m
      exact ⟨h1, h2, o, (hH p fun m2 => hj (P.sep j i p m m2)).trans ho, no⟩
  sep := fun j k p m1 m2 => by
    by_cases hj : j = i
    · by_cases hk : k = i
      · rw [hj, hk]
      · rw [if_pos hj] at m1
        rw [if_neg hk] at m2
        exact absurd m2 (hd k hk p m1)
    · rw [if_neg hj] at m1
      by_cases hk : k = i
      · rw [if_pos hk] at m2
        exact absurd m1 (hd j hj p m2)
      · rw [if_neg hk] at m2
        exact P.sep j k p m1 m2
theorem PrvS.outX {H' : Hp} {i : Nat} (P : PrvS G B H0 H σ δ ρ) (hH : ∀ b, b ∉ ρ i → H' b = H b) (c : Addr) (φ : Heap → Prop) (h : H c = some (.ext φ)) : H' c = some (.ext φ) := by
  refine (hH c fun m => ?_).trans h
  obtain ⟨_, _, o, ho, no⟩ := P.new i c m
  rw [h] at ho
  cases ho
  cases no
theorem EnvS.put {H' : Hp} (e : EnvS G B0 H0 B H σ δ) (P : PrvS G B H0 H σ δ ρ) (i : Nat) {x : Option V} {s : Sl} {R : List Addr} (hH : ∀ b, b ∉ ρ i → H' b = H b) (hs : SlOk G B H' x R s)
    (hn : ∀ p ∈ R, H0 p = none ∧ B p = none ∧ ∃ o, H' p = some o ∧ Own o) (hd : ∀ j, j ≠ i → ∀ p ∈ R, p ∉ ρ j) : EnvS G B0 H0 B H' (σ.set i x) (δ.set i s) where
  b0 := e.b0
  bn := e.bn
  h0 := fun b o q => (e.h0 b o q).out (P.outX hH) (hH b fun m => by
    have := (P.new i b m).1
    rw [q] at this
    cases this)
  bh := fun b o q => (e.bh b o q).out (P.outX hH) (hH b fun m => by
    have := (P.new i b m).2.1
    rw [q] at this
    cases this)
  tab := e.tab
  len := by rw [List.length_set, List.length_set]; exact e.len
  prv := ⟨_, P.put e.len i hH hs hn hd⟩
theorem EnvS.setDat (e : EnvS G B0 H0 B H σ δ) (i : Nat) {v : V} {d : D} (r : Rep G B v d) : EnvS G B0 H0 B H (σ.set i (some v)) (δ.set i (.dat d)) := by
  obtain ⟨ρ, P⟩ := e.prv
  exact e.put P i (R := []) (fun _ _ => rfl) ⟨v, rfl, r⟩ (fun _ m => absurd m List.not_mem_nil) fun _ _ _ m => absurd m List.not_mem_nil
theorem EnvS.setUn (e : EnvS G B0 H0 B H σ δ) (i : Nat) (x : Option V) : EnvS G B0 H0 B H (σ.set i x) (δ.set i .un) := by
  obtain ⟨ρ, P⟩ := e.prv
  exact e.put P i (R := []) (fun _ _ => rfl) trivial (fun _ m => absurd m List.not_mem_nil) fun _ _ _ m => absurd m List.not_mem_nil
/-- a new slot of the def's own: its addresses were free a step ago -/
theorem EnvS.fresh {B2 H2 : Hp} (e : EnvS G B0 H0 B H σ δ) (st : Stp B H B2 H2) (i : Nat) {x : Option V} {s : Sl} {R : List Addr} (hs : SlOk G B2 H2 x R s) (hn : ∀ p ∈ R, H p = none ∧ B2 p = none ∧ ∃ o, H2 p = some o ∧ Own o) : EnvS G B0 H0 B2 H2 (σ.set i x) (δ.set i s) := by
  obtain ⟨ρ, P⟩ := e.prv
  refine (e.stp st).put (P.stp st) i (R := R) (fun _ _ => rfl) hs (fun p m => ?_) fun j _ p m m2 => ?_
  · obtain ⟨h1, h2, h3⟩ := hn p m
    exact ⟨e.h0.free h1, h2, h3⟩
  · obtain ⟨_, _, o, ho, _⟩ := P.new j p m2
    rw [(hn p m).1] at ho
    cases ho
theorem EnvS.newOwn {B2 H2 : Hp} (e : EnvS G B0 H0 B H σ δ) (st : Stp B H B2 H2) (i : Nat) {p : Addr} {vs : List V} {ds : List D} (hp : H p = none) (bp : B2 p = none) (h1 : H2 p = some (.lst vs)) (r : RepL G B2 vs ds) : EnvS G B0 H0 B2 H2 (σ.set i (some (.ref p))) (δ.set i (.own ds)) :=
  e.fresh st i (R := [p]) ⟨p, vs, rfl, rfl, h1, r⟩ fun q m => by
    rw [List.mem_singleton.mp m]
    exact ⟨hp, bp, _, h1, rfl⟩
theorem set_none {i : Nat} {σ : L2.St} {x : Option V} (h : σ[i]? = some x) : σ.set i x = σ := by
  refine List.ext_getElem? fun j => ?_
  by_cases hj : i = j
  · subst hj
    rw [List.getElem?_set_self (List.getElem?_eq_some_iff.mp h).1, h]
  · rw [List.getElem?_set_ne hj]
/-- the def's own list changes -/
theorem EnvS.change (e : EnvS G B0 H0 B H σ δ) {i : Nat} {a : Addr} {ds es : List D} {vs : List V} (hi : δ[i]? = some (.own ds)) (ha : σ[i]? = some (some (.ref a))) (r : RepL G B vs es) : EnvS G B0 H0 B (upd H a (.lst vs)) σ (δ.set i (.own es)) := by
  obtain ⟨ρ, P⟩ := e.prv
  obtain ⟨x, h1, a', vs0, e1, rfl, h, _⟩ := P.ok i _ hi
  rw [ha] at h1
  cases h1
  have := e.put (H' := upd H a (.lst vs)) P i (x := some (.ref a)) (s := .own es) (R := [a]) (fun b m => upd_ne fun z => m (by rw [e1, z]; exact List.mem_cons_self)) ⟨a, vs, rfl, rfl, upd_same, r⟩ (fun q m => by
    rw [List.mem_singleton.mp m]
    obtain ⟨n1, n2, _⟩ := P.new i a (by rw [e1]; exact List.mem_cons_self)
    exact ⟨n1, n2, _, upd_same, rfl⟩) fun j hj q m m2 => hj (P.sep j i q m2 (by rw [e1]; exact m))
  rw [set_none ha] at this
  exact this
/-- a list of the def's own becomes data -/
theorem EnvS.publish {i : Nat} {ds : List D} (e : EnvS G B0 H0 B H σ δ) (hi : δ[i]? = some (.own ds)) : ∃ B', Same B B' ∧ EnvS G B0 H0 B' H σ (δ.set i (.dat (.lst ds))) := by
  obtain ⟨ρ, P⟩ := e.prv
  obtain ⟨x, h1, a, vs, e1, rfl, h4, h5⟩ := P.ok i _ hi
  obtain ⟨n1, n2, _⟩ := P.new i a (by rw [e1]; exact List.mem_cons_self)
  have sm : Same B (upd B a (.lst vs)) := same_new n2
  have other : ∀ j p, j ≠ i → p ∈ ρ j → p ≠ a := fun j p hj m z => hj (P.sep j i p m (by rw [e1, z]; exact List.mem_cons_self))
  refine ⟨upd B a (.lst vs), sm, e.b0.trans sm, fun b o q => ?_, e.h0, fun b o q => ?_, e.tab.mono sm, by rw [List.length_set]; exact e.len, fun j => if j = i then [] else ρ j, fun j t q => ?_, fun j p m => ?_, fun j k p m1 m2 => ?_⟩
  · by_cases hb : b = a
    · exact .inr (.inl (hb ▸ n1))
    · rw [upd_ne hb] at q
      exact e.bn b o q
  · by_cases hb : b = a
    · subst hb
      rw [upd_same] at q
      cases q
      exact h4
    · rw [upd_ne hb] at q
      exact e.bh b o q
  · by_cases hj : i = j
    · subst hj
      rw [List.getElem?_set_self (List.getElem?_eq_some_iff.mp hi).1] at q
      cases q
      exact ⟨_, h1, _, rfl, .lst upd_same (h5.mono sm)⟩
    · rw [List.getElem?_set_ne hj] at q
      obtain ⟨y, z1, z2⟩ := P.ok j t q
      rw [if_neg (fun z => hj z.symm)]
      exact ⟨y, z1, z2.mono sm fun _ _ => rfl⟩
  · by_cases hj : j = i
    · rw [if_pos hj] at m
      exact absurd m List.not_mem_nil
    · rw [if_neg hj] at m
      obtain ⟨z1, z2, z3⟩ := P.new j p m
      exact ⟨z1, by rw [upd_ne (other j p hj m)]; exact z2, z3⟩
  · by_cases hj : j = i
    · rw [if_pos hj] at m1
      exact absurd m1 List.not_mem_nil
    · rw [if_neg hj] at m1
      by_cases hk : k = i
      · rw [if_pos hk] at m2
        exact absurd m2 List.not_mem_nil
      · rw [if_neg hk] at m2
        exact P.sep j k p m1 m2

/-! ### what a statement does, by data -/
structure De where
  nx : Ev → Prop
  rt : R → Prop
  bk : Ev → Prop
  ct : Ev → Prop
  ex : Nat → Ev → Prop
  rm : D → Ev → Prop
abbrev Ds := De → Ev → Prop
structure EndsOk (G : Gd) (W : WX) (B0 H0 B : Hp) (E : De) (D : Ends) : Prop where
  nx : ∀ B' δ' σ' H', Same B B' → EnvS G B0 H0 B' H' σ' δ' → E.nx δ' → D.nx σ' H'
  rt : ∀ v r B' H', Stp B0 H0 B' H' → Res G H0 B' H' v r → E.rt r → D.rt v H'
  bk : ∀ B' δ' σ' H', Same B B' → EnvS G B0 H0 B' H' σ' δ' → E.bk δ' → D.bk σ' H'
  ct : ∀ B' δ' σ' H', Same B B' → EnvS G B0 H0 B' H' σ' δ' → E.ct δ' → D.ct σ' H'
  ex : ∀ n B' δ' σ' H', Same B B' → EnvS G B0 H0 B' H' σ' δ' → E.ex n δ' → W (.ref (G.A n)) none σ' H'
  rm : ∀ v d B' δ' σ' H', Same B B' → EnvS G B0 H0 B' H' σ' δ' → Rep G B' v d → E.rm d δ' → D.rt v H'
theorem EndsOk.mono {B1 : Hp} {E : De} {D : Ends} (o : EndsOk G W B0 H0 B E D) (s : Same B B1) : EndsOk G W B0 H0 B1 E D :=
  ⟨fun B' δ' σ' H' s' => o.nx B' δ' σ' H' (s.trans s'), o.rt, fun B' δ' σ' H' s' => o.bk B' δ' σ' H' (s.trans s'), fun B' δ' σ' H' s' => o.ct B' δ' σ' H' (s.trans s'), fun n B' δ' σ' H' s' => o.ex n B' δ' σ' H' (s.trans s'), fun v d B' δ' σ' H' s' => o.rm v d B' δ' σ' H' (s.trans s')⟩
def tsD (G : Gd) (W : WX) (g : Ds) : TS := fun D σ H => ∃ (B0 H0 B : Hp) (δ : Ev) (E : De), EnvS G B0 H0 B H σ δ ∧ g E δ ∧ EndsOk G W B0 H0 B E D

def getR (f : Fx) (δ : Ev) (r : R) : Prop := f (vis δ) = some r ∨ (f (pub δ) = some r ∧ (r.flat = true ∨ noOwn δ = true))
theorem noOwn_vis (h : noOwn δ = true) : pub δ = vis δ := by
  unfold pub vis
  refine List.map_congr_left fun s hs => ?_
  have z := List.all_eq_true.mp h s hs
  cases s with
  | own ds => cases z
  | nst t ps => cases z
  | bk b β => cases z
  | rws b ds => cases z
  | hld b ps => cases z
  | raw a rs => cases z
  | _ => rfl
/-- an expression of a statement -/
theorem run_e {f : Fx} {r : R} {Q : VK} (e : EnvS G B0 H0 B H σ δ) (g : getR f δ r) (hx : ∀ n, r = .ex n → ∀ H', Stp B H B H' → W (.ref (G.A n)) none σ H')
    (hq : ∀ v d B' H', r.val = some d → Stp B H B' H' → Rep G B' v d → (∀ ds, r = .nw ds → ∃ p vs, v = .ref p ∧ H p = none ∧ H' p = some (.lst vs) ∧ ∃ B2, Stp B H B2 H' ∧ Same B2 B' ∧ B2 p = none ∧ RepL G B2 vs ds) → Q v H') : teD G W f σ H Q := by
  have main : f (vis δ) = some r → teD G W f σ H Q := fun g => by
    refine ⟨B, vis δ, r, e.bh, e.vis, g, fun v B' H' st res => ?_, fun n q H' s => hx n q H' ⟨Same.refl _, s, e.bh.trans s, fun a o z => .inl ⟨o, z⟩⟩⟩
    cases r with
    | ok d =>
      exact hq v d B' H' rfl st res (fun ds z => by cases z)
    | nw ds =>
      obtain ⟨B2, st2, s2, rp⟩ := Res.use (d := .lst ds) st res rfl
      obtain ⟨p, vs, ev, hp, bp, h1, r1⟩ := res
      exact hq v _ B2 H' rfl st2 rp (fun es z => by cases z; exact ⟨p, vs, ev, hp, h1, B', st, s2, bp, r1⟩)
    | nn t ps =>
      obtain ⟨B2, st2, s2, rp⟩ := Res.use st res rfl
      exact hq v _ B2 H' rfl st2 rp (fun es z => by cases z)
    | ex n => exact res.elim
  rcases g with g | ⟨g, fl | no⟩
  · exact main g
  · refine ⟨H, pub δ, r, Same.refl _, e.pub, g, fun v B' H' st res => ?_, fun n q H' s => hx n q H' ⟨Same.refl _, s, e.bh.trans s, fun a o z => .inl ⟨o, z⟩⟩⟩
    have st0 : Stp B H B H' := ⟨Same.refl _, st.h, e.bh.trans st.h, fun a o z => .inl ⟨o, z⟩⟩
    cases r with
    | ok d => exact hq v d B H' rfl st0 (Rep.any res fl) (fun ds z => by cases z)
    | nw ds =>
      obtain ⟨p, vs, rfl, hp, bp, h1, r1⟩ := res
      have bp' : B p = none := e.bh.free hp
      have sm : Same B (upd B p (.lst vs)) := same_new bp'
      have r2 : RepL G B vs ds := r1.any fl
      refine hq _ (.lst ds) (upd B p (.lst vs)) H' rfl ⟨sm, st.h, fun b o q => ?_, fun b o q => ?_⟩ (.lst upd_same (r2.mono sm)) (fun es z => by cases z; exact ⟨p, vs, rfl, hp, h1, B, st0, sm, bp', r2⟩)
      · by_cases hb : b = p
        · subst hb
          rw [upd_same] at q
          cases q
          exact h1
        · rw [upd_ne hb] at q
          exact (e.bh.trans st.h) _ _ q
      · by_cases hb : b = p
        · exact .inr (.inl (hb ▸ hp))
        · rw [upd_ne hb] at q
          exact .inl ⟨o, q⟩
    | nn t ps => cases fl
    | ex n => exact res.elim
  · rw [noOwn_vis no] at g
    exact main g
end
end
end DY
namespace DY
open PySem PySem.Spec PyProof.Rows L2
section
variable [NM]
section
variable {G : Gd} {W : WX} {X : Cx}
def onR (r : R) (k : D → Prop) (x : Nat → Prop) : Prop := match r with
  | .ok d => k d
  | .nw ds => k (.lst ds)
  | .nn t ps => k (nstD t (ps.map Pt.d))
  | .ex n => x n
theorem onR_val {r : R} {d : D} {k : D → Prop} {x : Nat → Prop} (h : onR r k x) (e : r.val = some d) : k d := by
  cases r <;> cases e <;> exact h
def dSeq (g h : Ds) : Ds := fun E δ => g { E with nx := h E } δ
def dNext : Ds := fun E δ => E.nx δ
def dBreak : Ds := fun E δ => E.bk δ
def dCont : Ds := fun E δ => E.ct δ
def dAsg (i : Nat) (f : Fx) : Ds := fun E δ => ∃ r, getR f δ r ∧ onR r (fun d => E.nx (δ.set i (.dat d))) (fun n => E.ex n δ)
/-- the list becomes the def's own -/
def dOwn (i : Nat) (f : Fx) : Ds := fun E δ => ∃ r, getR f δ r ∧ match r with
  | .nw ds => E.nx (δ.set i (.own ds))
  | .ex n => E.ex n δ
  | .ok _ => False
  | .nn _ _ => False
def dExpr (f : Fx) : Ds := fun E δ => ∃ r, f (pub δ) = some r ∧ onR r (fun _ => E.nx δ) (fun n => E.ex n δ)
def dRet (f : Fx) : Ds := fun E δ => ∃ r, f (pub δ) = some r ∧ match r with
  | .ex n => E.ex n δ
  | r => E.rt r
def dRetO (i : Nat) : Ds := fun E δ => ∃ ds, δ[i]? = some (.own ds) ∧ E.rt (.nw ds)
def dRetN : Ds := fun E _ => E.rt (.ok .non)
def dIf (f : Fx) (g h : Ds) : Ds := fun E δ => ∃ r, f (pub δ) = some r ∧ match r with
  | .ok (.bl true) => g E δ
  | .ok (.bl false) => h E δ
  | .ex n => E.ex n δ
  | _ => False
def dRaise (n : Nat) : Ds := fun E δ => E.ex n δ
/-- x.append(e) -/
def dApp (i : Nat) (f : Fx) : Ds := fun E δ => ∃ ds r, δ[i]? = some (.own ds) ∧ getR f δ r ∧ onR r (fun d => ds.length < 90000 ∧ E.nx (δ.set i (.own (ds ++ [d])))) (fun n => E.ex n δ)
/-- x[k] = e -/
def dSet (i : Nat) (fk f : Fx) : Ds := fun E δ => ∃ ds r z, δ[i]? = some (.own ds) ∧ getR f δ r ∧ fk (pub δ) = some z ∧ onR r (fun d => onR z (fun k => ∃ j : Nat, k = .int j ∧ j < ds.length ∧ E.nx (δ.set i (.own (ds.set j d)))) (fun n => E.ex n δ)) (fun n => E.ex n δ)
/-- x op= e, an int -/
def dAug (i : Nat) (op : Int → Int → Int) (f : Fx) : Ds := fun E δ => ∃ a r, δ[i]? = some (.dat (.int a)) ∧ f (pub δ) = some r ∧ onR r (fun d => ∃ b, d = .int b ∧ E.nx (δ.set i (.dat (.int (op a b))))) (fun n => E.ex n δ)
/-- a list of the def's own is data from here on -/
def dPub (i : Nat) (g : Ds) : Ds := fun E δ => ∃ ds, δ[i]? = some (.own ds) ∧ g E (δ.set i (.dat (.lst ds)))

theorem pd_seq {st : Stmt} {rest : List Stmt} {g h : Ds} (h1 : PS X st (tsD G W g)) (h2 : PSs X rest (tsD G W h)) : PSs X (st :: rest) (tsD G W (dSeq g h)) :=
  (pss_cons h1 h2).impD fun D σ H ⟨B0, H0, B, δ, E, e, q, o⟩ => ⟨B0, H0, B, δ, { E with nx := h E }, e, q, ⟨fun B' δ' σ' H' s' e' q' => ⟨B0, H0, B', δ', E, e', q', o.mono s'⟩, o.rt, o.bk, o.ct, o.ex, o.rm⟩⟩
theorem pd_last {st : Stmt} {g : Ds} (h1 : PS X st (tsD G W g)) : PSs X [st] (tsD G W g) := pss_one h1
theorem pd_none : PSs X [] (tsD G W dNext) := pss_nil.impD fun D σ H ⟨B0, H0, B, δ, E, e, q, o⟩ => o.nx B δ σ H (Same.refl _) e q
theorem pd_pass {pos : Pos} : PS X (.Pass pos) (tsD G W dNext) := ps_pass.impD fun D σ H ⟨B0, H0, B, δ, E, e, q, o⟩ => o.nx B δ σ H (Same.refl _) e q
theorem pd_break {pos : Pos} : PS X (.Break pos) (tsD G W dBreak) := ps_break.impD fun D σ H ⟨B0, H0, B, δ, E, e, q, o⟩ => o.bk B δ σ H (Same.refl _) e q
theorem pd_cont {pos : Pos} : PS X (.Continue pos) (tsD G W dCont) := ps_continue.impD fun D σ H ⟨B0, H0, B, δ, E, e, q, o⟩ => o.ct B δ σ H (Same.refl _) e q
theorem pd_pub {i : Nat} {sts : List Stmt} {g : Ds} (h : PSs X sts (tsD G W g)) : PSs X sts (tsD G W (dPub i g)) := h.impD fun D σ H ⟨B0, H0, B, δ, E, e, ⟨ds, hi, q⟩, o⟩ => by
  obtain ⟨B', s, e'⟩ := e.publish hi
  exact ⟨B0, H0, B', _, E, e', q, o.mono s⟩
/-- a store into a name, whatever form the statement has -/
theorem asg_core {st : Stmt} {i : Nat} {f : Fx} {te : TE} (h : PS X st (tAsg te (gName i))) (ht : ∀ σ H Q, teD G W f σ H Q → te σ H Q) : PS X st (tsD G W (dAsg i f)) := h.impD fun D σ H ⟨B0, H0, B, δ, E, e, ⟨r, g, q⟩, o⟩ => by
  refine ht σ H _ (run_e e g (fun n er H' st => ?_) fun v d B' H' ed st rp _ => ?_)
  · subst er
    exact o.ex n B δ σ H' (Same.refl _) (e.stp st) q
  · exact o.nx B' _ _ H' st.b ((e.stp st).setDat i rp) (onR_val q ed)
theorem own_core {st : Stmt} {i : Nat} {f : Fx} {te : TE} (h : PS X st (tAsg te (gName i))) (ht : ∀ σ H Q, teD G W f σ H Q → te σ H Q) : PS X st (tsD G W (dOwn i f)) := h.impD fun D σ H ⟨B0, H0, B, δ, E, e, ⟨r, g, q⟩, o⟩ => by
  refine ht σ H _ (run_e e g (fun n er H' st => ?_) fun v d B' H' ed st rp hn => ?_)
  · subst er
    exact o.ex n B δ σ H' (Same.refl _) (e.stp st) q
  · cases r with
    | ok d => exact q.elim
    | nn t ps => exact q.elim
    | ex n => cases ed
    | nw ds =>
      obtain ⟨p, vs, rfl, hp, h1, B2, st2, s2, bp, rl⟩ := hn ds rfl
      exact o.nx B2 _ _ H' st2.b (e.newOwn st2 i hp bp h1 rl) q
theorem pd_asg {i : Nat} {x : Str} {e : Expr} {pos' pos : Pos} {f : Fx} (hN : X.N.Nodup) (hi : X.N[i]? = some x) (hx : Loc X.env.scope x) (he : PE X e (teD G W f)) (hs : swapsWith e (some (.Name x pos')) pos.line X.env = pure false := by rfl) (hf : X.fn x = true ∨ X.env.scope.names.lookup x = some .local := by first | exact .inl rfl | exact .inr rfl) :
    PS X (.Assign [.Name x pos'] e pos) (tsD G W (dAsg i f)) := asg_core (ps_set hN hi hx he hs hf) fun _ _ _ h => h
theorem pd_own {i : Nat} {x : Str} {e : Expr} {pos' pos : Pos} {f : Fx} (hN : X.N.Nodup) (hi : X.N[i]? = some x) (hx : Loc X.env.scope x) (he : PE X e (teD G W f)) (hs : swapsWith e (some (.Name x pos')) pos.line X.env = pure false := by rfl) (hf : X.fn x = true ∨ X.env.scope.names.lookup x = some .local := by first | exact .inl rfl | exact .inr rfl) :
    PS X (.Assign [.Name x pos'] e pos) (tsD G W (dOwn i f)) := own_core (ps_set hN hi hx he hs hf) fun _ _ _ h => h
theorem pd_asgLc {i : Nat} {y : Str} {py : Pos} {elt tg iter : Expr} {ifs : List Expr} {scope : Scope} {own : List (Str × Nat)} {vs : List Nat} {pos spos : Pos} {fi : Ix} {t : Tg} {ft fe : Fx} (hc : X.calm = true) (hN : X.N.Nodup) (hy : X.N[i]? = some y) (hyl : X.env.scope.names.lookup y = some .local)
    (hsw : swapsWith (.ListComp elt [⟨tg, iter, ifs, 0⟩] scope pos) (some (.Name y py)) spos.line X.env = pure true) (hi : PI X tg iter (tiD G W fi)) (ok : BlkOk X.N X.env.scope scope own) (ho : ∀ i ∈ t.ix, i ∈ vs)
    (hg : ∀ (s : Shared) (H : Hp) (C : Addr) (cl : List (Str × Addr)) (fp : List Addr), PGd (X.blk s H scope (compEnvC scope cl C X.env) fp) G tg t) (ht : ∀ (s : Shared) (H : Hp) (C : Addr) (cl : List (Str × Addr)) (fp : List Addr), PTd (X.blk s H scope (compEnvC scope cl C X.env) fp) G ifs ft)
    (he : ∀ (s : Shared) (H : Hp) (C : Addr) (cl : List (Str × Addr)) (fp : List Addr), PE (X.blk s H scope (compEnvC scope cl C X.env) fp) elt (teD G W0 fe)) (hv : own.map (·.2) = vs := by rfl) (hs : ∀ x, foldedSetIterable iter X.env x = pure x := by intro _; rfl) (hK : X.K = G.K := by rfl) :
    PS X (.Assign [.Name y py] (.ListComp elt [⟨tg, iter, ifs, 0⟩] scope pos) spos) (tsD G W (dAsg i (fLc fi t ft fe vs))) := by
  subst hv
  exact asg_core (ps_setLc hc hN hy hyl hsw hi ok (fun s H C cl fp => (hg s H C cl fp).pg hK) (fun s H C cl fp => (ht s H C cl fp).ts) he hs) fun σ H Q h => te_lc ho σ H Q h
theorem pd_ownLc {i : Nat} {y : Str} {py : Pos} {elt tg iter : Expr} {ifs : List Expr} {scope : Scope} {own : List (Str × Nat)} {vs : List Nat} {pos spos : Pos} {fi : Ix} {t : Tg} {ft fe : Fx} (hc : X.calm = true) (hN : X.N.Nodup) (hy : X.N[i]? = some y) (hyl : X.env.scope.names.lookup y = some .local)
    (hsw : swapsWith (.ListComp elt [⟨tg, iter, ifs, 0⟩] scope pos) (some (.Name y py)) spos.line X.env = pure true) (hi : PI X tg iter (tiD G W fi)) (ok : BlkOk X.N X.env.scope scope own) (ho : ∀ i ∈ t.ix, i ∈ vs)
    (hg : ∀ (s : Shared) (H : Hp) (C : Addr) (cl : List (Str × Addr)) (fp : List Addr), PGd (X.blk s H scope (compEnvC scope cl C X.env) fp) G tg t) (ht : ∀ (s : Shared) (H : Hp) (C : Addr) (cl : List (Str × Addr)) (fp : List Addr), PTd (X.blk s H scope (compEnvC scope cl C X.env) fp) G ifs ft)
    (he : ∀ (s : Shared) (H : Hp) (C : Addr) (cl : List (Str × Addr)) (fp : List Addr), PE (X.blk s H scope (compEnvC scope cl C X.env) fp) elt (teD G W0 fe)) (hv : own.map (·.2) = vs := by rfl) (hs : ∀ x, foldedSetIterable iter X.env x = pure x := by intro _; rfl) (hK : X.K = G.K := by rfl) :
    PS X (.Assign [.Name y py] (.ListComp elt [⟨tg, iter, ifs, 0⟩] scope pos) spos) (tsD G W (dOwn i (fLc fi t ft fe vs))) := by
  subst hv
  exact own_core (ps_setLc hc hN hy hyl hsw hi ok (fun s H C cl fp => (hg s H C cl fp).pg hK) (fun s H C cl fp => (ht s H C cl fp).ts) he hs) fun σ H Q h => te_lc ho σ H Q h
/-- an expression whose data may hang on all slots, but that isn't kept -/
theorem run_p {B0 H0 B H : Hp} {σ : L2.St} {δ : Ev} {f : Fx} {r : R} {Q : VK} (e : EnvS G B0 H0 B H σ δ) (g : f (pub δ) = some r) (hx : ∀ n, r = .ex n → ∀ H', Stp B H B H' → W (.ref (G.A n)) none σ H')
    (hq : ∀ v d B' H', r.val = some d → Stp B H B H' → Stp H H B' H' → Rep G B' v d → Q v H') : teD G W f σ H Q := by
  refine ⟨H, pub δ, r, Same.refl _, e.pub, g, fun v B' H' st res => ?_, fun n q H' s => hx n q H' ⟨Same.refl _, s, e.bh.trans s, fun a o z => .inl ⟨o, z⟩⟩⟩
  have st0 : Stp B H B H' := ⟨Same.refl _, st.h, e.bh.trans st.h, fun a o z => .inl ⟨o, z⟩⟩
  cases er : r.val with
  | none =>
    cases r with
    | ex n => exact res.elim
    | ok d => cases er
    | nw d => cases er
    | nn t ps => cases er
  | some d =>
    obtain ⟨B2, st2, _, rp⟩ := res.use st er
    exact hq v d B2 H' er st0 st2 rp
theorem pd_expr {e : Expr} {pos : Pos} {f : Fx} (he : PE X e (teD G W f)) (hs : swapsWith e none pos.line X.env = pure false := by rfl) : PS X (.Expr e pos) (tsD G W (dExpr f)) := (ps_expr he hs).impD fun D σ H ⟨B0, H0, B, δ, E, e, ⟨r, g, q⟩, o⟩ => by
  refine run_p e g (fun n er H' st => ?_) fun v d B' H' ed st _ _ => ?_
  · subst er
    exact o.ex n B δ σ H' (Same.refl _) (e.stp st) q
  · exact o.nx B δ σ H' (Same.refl _) (e.stp st) (onR_val q ed)
theorem pd_ret {e : Expr} {pos : Pos} {f : Fx} (he : PE X e (teD G W f)) : PS X (.Return (some e) pos) (tsD G W (dRet f)) := (ps_ret he).impD fun D σ H ⟨B0, H0, B, δ, E, e, ⟨r, g, q⟩, o⟩ => by
  obtain ⟨s1, s2, e2⟩ := e.pubB
  refine ⟨pubB B H0 H, pub δ, r, s2.s, e2, g, fun v B' H' st res => ?_, fun n er H' s => ?_⟩
  · refine o.rt v r B' H' (s2.trans st) (res.back e.h0) ?_
    cases r with
    | ex n => exact res.elim
    | ok d => exact q
    | nw ds => exact q
    | nn t ps => exact q
  · subst er
    exact o.ex n B δ σ H' (Same.refl _) (e.stp ⟨Same.refl _, s, e.bh.trans s, fun a o z => .inl ⟨o, z⟩⟩) q
theorem pd_retN {pos : Pos} : PS X (.Return none pos) (tsD G W dRetN) := ps_retN.impD fun D σ H ⟨B0, H0, B, δ, E, e, q, o⟩ =>
  o.rt .non (.ok .non) B H ⟨e.b0, e.h0, e.bh, e.bn⟩ .non q
theorem pd_retO {i : Nat} {e : Expr} {pos : Pos} (he : PE X e (tVar i)) : PS X (.Return (some e) pos) (tsD G W (dRetO i)) := (ps_ret he).impD fun D σ H ⟨B0, H0, B, δ, E, e, ⟨ds, hi, q⟩, o⟩ => by
  obtain ⟨a, vs, h1, h2, h3, h4, h5⟩ := e.own i ds hi
  exact ⟨.ref a, h1, o.rt _ (.nw ds) B H ⟨e.b0, e.h0, e.bh, e.bn⟩ ⟨a, vs, rfl, h2, h3, h4, h5⟩ q⟩
theorem pd_ifS {c : Expr} {a b : List Stmt} {pos : Pos} {f : Fx} {g h : Ds} (hc : Tst X G W c f) (ha : PSs X a (tsD G W g)) (hb : PSs X b (tsD G W h)) : PS X (.If c a b pos) (tsD G W (dIf f g h)) := (ps_if hc.pt ha hb).impD fun D σ H ⟨B0, H0, B, δ, E, e, ⟨r, hf, q⟩, o⟩ => by
  refine ⟨H, pub δ, r, Same.refl _, e.pub, hf, fun b' B' H' st er => ?_, fun n er H' s => ?_, hc.bl _ _ hf⟩
  · subst er
    have e' := e.stp (B2 := B) ⟨Same.refl _, st.h, e.bh.trans st.h, fun a o z => .inl ⟨o, z⟩⟩
    cases b' with
    | true => exact ite_tru ⟨B0, H0, B, δ, E, e', q, o⟩
    | false => exact ite_fal ⟨B0, H0, B, δ, E, e', q, o⟩
  · subst er
    exact o.ex n B δ σ H' (Same.refl _) (e.stp ⟨Same.refl _, s, e.bh.trans s, fun a o z => .inl ⟨o, z⟩⟩) q
theorem pd_app {i : Nat} {x e : Expr} {apos cpos pos : Pos} {f : Fx} (hx : PE X x (tVar i)) (he : PE X e (teD G W f)) (hbase : attributeBase x "append" X.env (eval x X.env) = eval x X.env := by rfl)
    (hfew : ((backTo cpos (starEach [e] X.env)).all (fun x => !x.1) && (backToKw cpos (keywordEach [] X.env)).all (fun x => x.1.isSome) && decide (([e] : List Expr).length + ([] : List Keyword).length + (if ([] : List Keyword).isEmpty then 0 else 1) < 30)) = true := by rfl)
    (hline : (apos.endLine == cpos.line) = true := by rfl) (hs : starEach [e] X.env = (false, eval e X.env) :: starEach [] X.env := by rfl) (hsw : swapsWith (.Call (.Attribute x "append" apos) [e] [] cpos) none pos.line X.env = pure false := by rfl) :
    PS X (.Expr (.Call (.Attribute x "append" apos) [e] [] cpos) pos) (tsD G W (dApp i f)) := (ps_expr (pe_bm PySem.F.plainAttrs_list PySem.F.slot_list_append PySem.F.type_list_append mt_append hx (pa_cons he pa_nil hs) hbase hfew hline hs rfl) hsw).impD fun Dn σ H ⟨B0, H0, B, δ, E, e, ⟨ds, r, hi, g, q⟩, o⟩ => by
  obtain ⟨a, vs, h1, h2, h3, h4, h5⟩ := e.own i ds hi
  refine ⟨.ref a, h1, .inl ⟨rfl, vs, SqL.of h4⟩, run_e e g (fun n er H' st => ?_) fun v d B' H' ed st rp _ => ?_⟩
  · subst er
    exact o.ex n B δ σ H' (Same.refl _) (e.stp st) q
  · obtain ⟨hl, q'⟩ := onR_val q ed
    refine ⟨a, vs, v, rfl, rfl, st.h _ _ h4, lt_line (by rw [h5.length]; omega), ?_⟩
    exact o.nx B' _ _ _ st.b ((e.stp st).change hi h1 ((h5.mono st.b).append (.cons rp .nil))) q'
theorem ixN_at {n j : Nat} (h : j < n) : ixN n (j : Int) = some j := by
  unfold ixN
  rw [if_pos (by omega), if_pos (by omega), Int.toNat_natCast]
theorem pd_set {i : Nat} {x k e : Expr} {p pos : Pos} {f fk : Fx} (hx : PE X x (tVar i)) (hk : PE X k (teD G W fk)) (he : PE X e (teD G W f)) (hpg : ∀ {to ti : TE} {t : TSet}, PE X x to → PE X k ti → PSet X t → PG X (.Subscript x k p) (gSub to ti t) := by exact fun h1 h2 h3 => pg_sub h1 h2 h3)
    (hs : swapsWithSole [.Subscript x k p] e pos.line X.env = pure false := by rfl) (hw : swappedStores [.Subscript x k p] e X.env = pure none := by rfl) :
    PS X (.Assign [.Subscript x k p] e pos) (tsD G W (dSet i fk f)) := (ps_asg he (hpg hx hk set_list) hs hw).impD fun Dn σ H ⟨B0, H0, B, δ, E, e, ⟨ds, r, z, hi, g, gk, q⟩, o⟩ => by
  obtain ⟨a, vs, h1, h2, h3, h4, h5⟩ := e.own i ds hi
  refine run_e e g (fun n er H' st => ?_) fun v d B' H' ed st rp _ => ?_
  · subst er
    exact o.ex n B δ σ H' (Same.refl _) (e.stp st) q
  · refine ⟨.ref a, h1, ?_⟩
    have e1 := e.stp st
    have q1 := onR_val q ed
    refine run_p e1 gk (fun n er H2 st2 => ?_) fun v2 d2 B2 H2 ed2 st2 _ rp2 => ?_
    · subst er
      exact o.ex n B' δ σ H2 st.b (e1.stp st2) q1
    · obtain ⟨j, rfl, hj, q2⟩ := onR_val q1 ed2
      cases rp2
      refine ⟨a, vs, (j : Int), j, rfl, rfl, st2.h _ _ (st.h _ _ h4), ixN_at (by rw [h5.length]; exact hj), ?_⟩
      exact o.nx B' _ _ _ st.b ((e1.stp st2).change hi h1 (RepL.set rp j (h5.mono st.b))) q2
theorem pd_aug {i : Nat} {x : Str} {e : Expr} {op : Operator} {pos' pos : Pos} {f : Fx} {g : Int → Int → Int} (hN : X.N.Nodup) (hi : X.N[i]? = some x) (hx : Loc X.env.scope x) (he : PE X e (teD G W f)) (ho : PIp X op (ipI g)) (hf : X.fn x = true ∨ X.env.scope.names.lookup x = some .local := by first | exact .inl rfl | exact .inr rfl) :
    PS X (.AugAssign (.Name x pos') op e pos) (tsD G W (dAug i g f)) := (ps_aug hN hi hx he ho hf).impD fun Dn σ H ⟨B0, H0, B, δ, E, e, ⟨a, r, hi, hf, q⟩, o⟩ => by
  obtain ⟨v, h1, h2⟩ := e.dat i _ hi
  cases h2
  refine ⟨_, h1, run_p e hf (fun n er H' st => ?_) fun v2 d B' H' ed st _ rp => ?_⟩
  · subst er
    exact o.ex n B δ σ H' (Same.refl _) (e.stp st) q
  · obtain ⟨b, rfl, q'⟩ := onR_val q ed
    cases rp
    exact ⟨a, b, rfl, rfl, o.nx B _ _ H' (Same.refl _) ((e.stp st).setDat i .int) q'⟩
theorem pip_or : PIp X .BitOr (ipI fun i j => Builtin.bitOr i j) := by
  rintro pins s σ H x y v u Q I r1 r2 ⟨i, j, rfl, rfl, q⟩
  obtain ⟨t, rfl⟩ := r1
  obtain ⟨t', rfl⟩ := r2
  exact ior_int ⟨.int _, H, I.tok _, ⟨_, rfl⟩, q⟩
theorem pip_and : PIp X .BitAnd (ipI fun i j => Builtin.bitAnd i j) := by
  rintro pins s σ H x y v u Q I r1 r2 ⟨i, j, rfl, rfl, q⟩
  obtain ⟨t, rfl⟩ := r1
  obtain ⟨t', rfl⟩ := r2
  exact iand_int ⟨.int _, H, I.tok _, ⟨_, rfl⟩, q⟩

/-! ### loops -/
def setsS : Ev → List Nat → List D → Ev
  | δ, i :: is, d :: ds => setsS (δ.set i (.dat d)) is ds
  | δ, _, _ => δ
theorem EnvS.sets {B0 H0 B H : Hp} : ∀ {is : List Nat} {vs : List V} {ds : List D} {σ : L2.St} {δ : Ev}, EnvS G B0 H0 B H σ δ → RepL G B vs ds → EnvS G B0 H0 B H (setsV σ is vs) (setsS δ is ds)
  | [], [], _, _, _, e, .nil => e
  | [], _ :: _, _, _, _, e, .cons _ _ => e
  | _ :: _, [], _, _, _, e, .nil => e
  | i :: is, v :: vs, _, _, _, e, .cons h r => EnvS.sets (is := is) (e.setDat i h) r
/-- the loop's turns, one by one -/
def forW (t : Tg) (body : Ds) (E : De) : List D → Ev → Prop
  | [], δ => E.nx δ
  | x :: xs, δ => ∃ ds, t.put x = some ds ∧ body { E with nx := forW t body E xs, ct := forW t body E xs, bk := E.nx } (setsS δ t.ix ds)
def getI (fi : Ix) (δ : Ev) (r : IR) : Prop := fi (vis δ) = some r ∨ (fi (pub δ) = some r ∧ match r with
  | .it _ fr => fr = true
  | .ex _ => True)
def dFor (fi : Ix) (t : Tg) (body : Ds) : Ds := fun E δ => ∃ r, getI fi δ r ∧ match r with
  | .it xs _ => forW t body E xs δ
  | .ex n => E.ex n δ
/-- both -/
def cupH (B Bw : Hp) : Hp := fun a => match B a with
  | some o => some o
  | none => Bw a
theorem run_i {B0 H0 B H : Hp} {σ : L2.St} {δ : Ev} {fi : Ix} {r : IR} {Rk : It → Hp → Prop} (e : EnvS G B0 H0 B H σ δ) (g : getI fi δ r) (hx : ∀ n, r = .ex n → ∀ H', Stp B H B H' → W (.ref (G.A n)) none σ H')
    (hq : ∀ xs fr J Bw B' H', r = .it xs fr → Stp B H B' H' → Same Bw B' → Wlk G Bw J xs → Rk J H') : tiD G W fi σ H Rk := by
  rcases g with g | ⟨g, fl⟩
  · exact ⟨B, vis δ, r, e.bh, e.vis, g, fun xs fr J Bw B' H' er st sw wk _ => hq xs fr J Bw B' H' er st sw wk, fun n q H' s => hx n q H' ⟨Same.refl _, s, e.bh.trans s, fun a o z => .inl ⟨o, z⟩⟩⟩
  · refine ⟨H, pub δ, r, Same.refl _, e.pub, g, fun xs fr J Bw B' H' er st sw wk fn => ?_, fun n q H' s => hx n q H' ⟨Same.refl _, s, e.bh.trans s, fun a o z => .inl ⟨o, z⟩⟩⟩
    subst er
    have nw := fn fl
    have sB : Same B (cupH B Bw) := Same.of fun a o q => by
      unfold cupH
      rw [q]
    have sW : Same Bw (cupH B Bw) := Same.of fun a o q => by
      have z : B a = none := e.bh.free (nw a o q)
      unfold cupH
      rw [z]
      exact q
    refine hq xs fr J Bw (cupH B Bw) H' rfl ⟨sB, st.h, fun a o q => ?_, fun a o q => ?_⟩ sW wk
    · unfold cupH at q
      split at q
      · rename_i o' h
        cases q
        exact (e.bh.trans st.h) _ _ h
      · exact (sw.trans st.s) _ _ q
    · unfold cupH at q
      split at q
      · rename_i o' h
        exact .inl ⟨_, h⟩
      · exact .inr (.inl (nw a o q))
theorem pd_for {tg iter : Expr} {body : List Stmt} {fi : Ix} {t : Tg} {g : Ds} {pos : Pos} (hp : PassesOwn (model X.prog X.w) X.A X.env X.xe) (hc : X.calm = true) (hi : PI X tg iter (tiD G W fi)) (hg : PGd X G tg t) (hb : PSs X body (tsD G W g)) (hs : ∀ x, foldedSetIterable iter X.env x = pure x := by intro _; rfl) (hK : X.K = G.K := by rfl) :
    PS X (.For tg iter body [] pos) (tsD G W (dFor fi t g)) := (ps_for hp hc hi (hg.pg hK) hb hs).impD fun Dn σ H ⟨B0, H0, B, δ, E, e, ⟨r, hf, q⟩, o⟩ => by
  refine run_i e hf (fun n er H' st => ?_) fun xs fr J Bw B1 H1 er st sw wk => ?_
  · subst er
    exact o.ex n B δ σ H' (Same.refl _) (e.stp st) q
  · subst er
    refine ⟨fun i m σ' H' => i + m = xs.length ∧ ∃ B' δ', Same Bw B' ∧ Same B B' ∧ EnvS G B0 H0 B' H' σ' δ' ∧ forW t g E (xs.drop i) δ', ⟨xs.length, by omega, B1, δ, sw, st.b, e.stp st, q⟩, fun i m σ' H' hw => ?_⟩
    obtain ⟨hm, B', δ', s1, s2, e', f⟩ := hw
    by_cases hlt : i < xs.length
    · have hx : xs[i]? = some xs[i] := List.getElem?_eq_getElem hlt
      obtain ⟨go, yl⟩ := (wk i H' (s1.trans e'.bh)).1 _ hx
      rw [List.drop_eq_getElem_cons hlt] at f
      obtain ⟨ds, hp, f⟩ := f
      refine .inr ⟨go, fun σ2 H2 => ∃ B2 δ2, Same Bw B2 ∧ Same B B2 ∧ EnvS G B0 H0 B2 H2 σ2 δ2 ∧ forW t g E (xs.drop (i + 1)) δ2, fun σ2 H2 h => ⟨m - 1, by omega, by omega, h⟩, fun v H2 yy => ?_⟩
      obtain ⟨B2, st2, rp⟩ := yl v H2 yy B' s1 e'.bh
      have e2 := e'.stp st2
      refine tg_ok st2.s rp hp fun ws rl hl => ?_
      have s3 := s1.trans st2.b
      have s4 := s2.trans st2.b
      exact ⟨B0, H0, B2, _, _, e2.sets rl, f, ⟨fun B3 δ3 σ3 H3 s5 e3 f3 => ⟨B3, δ3, s3.trans s5, s4.trans s5, e3, f3⟩, o.rt, fun B3 δ3 σ3 H3 s5 e3 f3 => o.nx B3 δ3 σ3 H3 (s4.trans s5) e3 f3, fun B3 δ3 σ3 H3 s5 e3 f3 => ⟨B3, δ3, s3.trans s5, s4.trans s5, e3, f3⟩, fun n B3 δ3 σ3 H3 s5 e3 f3 => o.ex n B3 δ3 σ3 H3 (s4.trans s5) e3 f3, fun v d B3 δ3 σ3 H3 s5 e3 => o.rm v d B3 δ3 σ3 H3 (s4.trans s5) e3⟩⟩
    · refine .inl ⟨(wk i H' (s1.trans e'.bh)).2 (by omega), ?_⟩
      rw [List.drop_eq_nil_of_le (by omega)] at f
      exact o.nx B' δ' σ' H' s2 e' f
def dWhile (f : Fx) (body : Ds) : Ds := fun E δ => ∃ Wd : Nat → Ev → Prop, (∃ m, Wd m δ) ∧ ∀ m δ', Wd m δ' → ∃ b, f (pub δ') = some (.ok (.bl b)) ∧ (if b = true then body { E with nx := fun δ2 => ∃ m', m' < m ∧ Wd m' δ2, ct := fun δ2 => ∃ m', m' < m ∧ Wd m' δ2, bk := E.nx } δ' else E.nx δ')
theorem pd_while {c : Expr} {body : List Stmt} {f : Fx} {g : Ds} {pos : Pos} (hp : PassesOwn (model X.prog X.w) X.A X.env X.xe) (hc : Tst X G W c f) (hb : PSs X body (tsD G W g)) : PS X (.While c body [] pos) (tsD G W (dWhile f g)) := (ps_while hp hc.pt hb).impD fun Dn σ H ⟨B0, H0, B, δ, E, e, ⟨Wd, ⟨m0, w0⟩, turn⟩, o⟩ => by
  refine ⟨fun m σ' H' => ∃ B' δ', Same B B' ∧ EnvS G B0 H0 B' H' σ' δ' ∧ Wd m δ', ⟨m0, B, δ, Same.refl _, e, w0⟩, fun m σ' H' hw => ?_⟩
  obtain ⟨B', δ', s1, e', w'⟩ := hw
  obtain ⟨b, hf, q⟩ := turn m δ' w'
  refine ⟨H', pub δ', _, Same.refl _, e'.pub, hf, fun b' B2 H2 st er => ?_, fun n er => (by cases er), .inl ⟨b, rfl⟩⟩
  cases er
  have e2 := e'.stp (B2 := B') ⟨Same.refl _, st.h, e'.bh.trans st.h, fun a o z => .inl ⟨o, z⟩⟩
  cases b with
  | true =>
    refine ite_tru ⟨fun σ3 H3 => ∃ m', m' < m ∧ ∃ B3 δ3, Same B B3 ∧ EnvS G B0 H0 B3 H3 σ3 δ3 ∧ Wd m' δ3, fun σ3 H3 ⟨m', h1, h2⟩ => ⟨m', h1, h2⟩, B0, H0, B', δ', _, e2, q, ⟨fun B3 δ3 σ3 H3 s5 e3 f3 => ?_, o.rt, fun B3 δ3 σ3 H3 s5 e3 f3 => o.nx B3 δ3 σ3 H3 (s1.trans s5) e3 f3, fun B3 δ3 σ3 H3 s5 e3 f3 => ?_, fun n B3 δ3 σ3 H3 s5 e3 f3 => o.ex n B3 δ3 σ3 H3 (s1.trans s5) e3 f3, fun v d B3 δ3 σ3 H3 s5 e3 => o.rm v d B3 δ3 σ3 H3 (s1.trans s5) e3⟩⟩
    · obtain ⟨m', h1, h2⟩ := f3
      exact ⟨m', h1, B3, δ3, s1.trans s5, e3, h2⟩
    · obtain ⟨m', h1, h2⟩ := f3
      exact ⟨m', h1, B3, δ3, s1.trans s5, e3, h2⟩
  | false => exact ite_fal (o.nx B' δ' σ' H2 s1 e2 q)
end
end
end DY
namespace DY
open PySem PySem.Spec PyProof.Rows L2
section
variable [NM]

/-! ### a def by data -/
def okR (r r' : R) : Prop := r = r' ∨ (∃ ds, r' = .nw ds ∧ r = .ok (.lst ds)) ∨ ∃ t ps, r' = .nn t ps ∧ r = .ok (nstD t (ps.map Pt.d))
def endF (r : R) : De := ⟨fun _ => okR r (.ok .non), fun r' => okR r r', fun _ => False, fun _ => False, fun n _ => r = .ex n, fun d _ => okR r (.ok d)⟩
def startS (N : List Str) (ds : List D) : Ev := ds.map Sl.dat ++ List.replicate (N.length - ds.length) Sl.un
section
variable {G : Gd} {P : Program} {w : World} {K : PySem.W.Frag} {mg : Str → Option Value} {base : Heap}
theorem env_start {B H : Hp} {N : List Str} {vs : List V} {ds : List D} (s : Same B H) (tb : TabsB G B) (r : RepL G B vs ds) : EnvS G B H B H (L2.start N vs) (startS N ds) := by
  have ln : (startS N ds).length = (L2.start N vs).length := by
    unfold startS L2.start
    rw [List.length_append, List.length_append, List.length_map, List.length_map, List.length_replicate, List.length_replicate, r.length]
  refine ⟨Same.refl _, fun a o e => .inl ⟨o, e⟩, Same.refl _, s, tb, ln, fun _ => [], fun i t q => ?_, fun _ _ m => absurd m List.not_mem_nil, fun _ _ _ m => absurd m List.not_mem_nil⟩
  have il : i < (L2.start N vs).length := by
    rw [← ln]
    exact (List.getElem?_eq_some_iff.mp q).1
  unfold startS at q
  by_cases hi : i < ds.length
  · rw [List.getElem?_append_left (by simpa using hi), List.getElem?_map] at q
    obtain ⟨d, h1, h2⟩ := Option.map_eq_some_iff.mp q
    cases h2
    obtain ⟨v, h3, h4⟩ := r.get h1
    refine ⟨some v, ?_, v, rfl, h4⟩
    unfold L2.start
    rw [List.getElem?_append_left (by rw [List.length_map, r.length]; exact hi), List.getElem?_map, h3] <;> rfl
  · rw [List.getElem?_append_right (by simp; omega)] at q
    have := (List.mem_of_getElem? q)
    rw [List.mem_replicate] at this
    rw [this.2]
    exact ⟨_, List.getElem?_eq_getElem il, trivial⟩
theorem ends_f {W : WX} {B H : Hp} {r : R} {Q : VK} {E : XK} (hW : ∀ c d σ H, E c d H → W c d σ H) (hq : ∀ v B' H', Stp B H B' H' → Res G H B' H' v r → Q v H') (hx : ∀ n, r = .ex n → ∀ H', Same H H' → E (.ref (G.A n)) none H') :
    EndsOk G W B H B (endF r) { nx := fun _ H' => Q .non H', rt := Q } := by
  have fin : ∀ v r' B' H', Stp B H B' H' → Res G H B' H' v r' → okR r r' → Q v H' := fun v r' B' H' st res o => by
    rcases o with rfl | ⟨ds, rfl, rfl⟩ | ⟨t, ps, rfl, rfl⟩
    · exact hq v B' H' st res
    · obtain ⟨B2, st2, _, rp⟩ := Res.use (d := .lst ds) st res rfl
      exact hq v B2 H' st2 rp
    · obtain ⟨B2, st2, _, rp⟩ := Res.use (d := nstD t (ps.map Pt.d)) st res rfl
      exact hq v B2 H' st2 rp
  exact ⟨fun B' δ' σ' H' s e o => fin .non (.ok .non) B' H' ⟨e.b0, e.h0, e.bh, e.bn⟩ .non o, fun v r' B' H' st res o => fin v r' B' H' st res o, fun _ _ _ _ _ _ z => z.elim, fun _ _ _ _ _ _ z => z.elim,
    fun n B' δ' σ' H' s e er => hW _ _ _ _ (hx n er H' e.h0), fun v d B' δ' σ' H' s e rp o => fin v (.ok d) B' H' ⟨e.b0, e.h0, e.bh, e.bn⟩ rp o⟩
theorem fn_d {x qual : Str} {st : Stmt} {f : Addr} {fd : FuncData} {N ps : List Str} {k : Nat} {F : List D → Option R} {g : Ds} (FU : Fun K x qual st f fd) (S : FnScope N ps (defScope st)) (len : ∀ ds r, F ds = some r → ds.length = ps.length)
    (hb : ∀ (cdv : Value) (A : Around) (outer : List Env) (s : Shared) (H : Hp) (E : XK), Room k (A.deeper (envOfC qual (defScope st) s.heap.objs.size f cdv)) → PSs (cxOf (L2.CX P w) P w K mg base N qual (defScope st) f cdv A outer s H E) (defBody st) (tsD G (fun c d _ H => E c d H) g))
    (hg : ∀ ds r, F ds = some r → g (endF r) (startS N ds)) : FnOk P w K mg base (L2.CX P w) (k + 1) f fd ps (spD G F) :=
  FU.okX S (fun vs H Q E ⟨B, ds, r, hs, _, rl, hf, _⟩ => rl.length.trans (len ds r hf)) fun cdv A outer s H vs Q E hr ⟨B, ds, r, hs, tb, rl, hf, hq, hx⟩ =>
    ⟨tsD G (fun c d _ H => E c d H) g, hb cdv A outer s H E hr, B, H, B, startS N ds, endF r, env_start hs tb rl, hg ds r hf, ends_f (fun _ _ _ _ z => z) hq hx⟩
/-- the law itself: no error leaves it -/
theorem law_d {x qual : Str} {st : Stmt} {f : Addr} {fd : FuncData} {N ps : List Str} {k : Nat} {F : List D → Option R} {g : Ds} (FU : Fun K x qual st f fd) (S : FnScope N ps (defScope st)) (len : ∀ ds r, F ds = some r → ds.length = ps.length ∧ ∀ n, r ≠ .ex n)
    (hb : ∀ (cdv : Value) (A : Around) (outer : List Env) (s : Shared) (H : Hp) (E : XK), Room k (A.deeper (envOfC qual (defScope st) s.heap.objs.size f cdv)) → PSs (cxOf CX0 P w K mg base N qual (defScope st) f cdv A outer s H E).nox (defBody st) (tsD G W0 g))
    (hg : ∀ ds r, F ds = some r → g (endF r) (startS N ds)) : FnOk P w K mg base CX0 (k + 1) f fd ps (spD G F) :=
  FU.ok S (fun vs H Q E ⟨B, ds, r, hs, _, rl, hf, _⟩ => rl.length.trans (len ds r hf).1) fun cdv A outer s H vs Q E hr ⟨B, ds, r, hs, tb, rl, hf, hq, hx⟩ =>
    ⟨tsD G W0 g, hb cdv A outer s H E hr, B, H, B, startS N ds, endF r, env_start hs tb rl, hg ds r hf, ends_f (E := fun _ _ _ => False) (fun _ _ _ _ z => z) hq fun n er => absurd er ((len ds r hf).2 n)⟩
end

/-! ### errors -/
section
variable {G : Gd} {W : WX} {X : Cx}
theorem pd_raise {x m : Str} {j n : Nat} {p p2 pos pos2 : Pos} {bmB : List Value} {B newId initId : String} (hc : X.calm = true) (tk : Takes X W) (F : ExcBaseFacts B newId initId bmB) (q : PySem.W.excIn X.K (G.A n) bmB newId = true) (gC : X.mg x = some (.ref (G.A n))) (kC : PySem.W.keepIn X.K (.ref (G.A n)) = true) (r : Raises X (.ref (G.A n))) (hg : Gl X x)
    (hdb : (x == ("__debug__" : Str)) = false := by decide) : PS X (.Raise (some (.Call (.Name x p) [.Constant (.str m) j p2] [] pos)) none pos2) (tsD G W (dRaise n)) :=
  (ps_raise hc tk (pmk_own F q gC kC r hg hdb)).impD fun D σ H ⟨B0, H0, B, δ, E, e, g, o⟩ => o.ex n B δ σ H (Same.refl _) e g
/-- the error is tracked from here on -/
theorem keep_err {pins : List (Addr × Obj)} {σ : L2.St} {H : Hp} {s : Shared} {a C : Addr} {oe : Obj} (I : Inv X ((a, oe) :: pins) σ H s) (h0 : X.s_0.heap.get? a = none) (hp : ∀ p ∈ X.pn ++ pins, p.1 ≠ a) (hz : Zc (.ref C) none oe) (hf : ∃ fv, oe.data = .fields fv) : Inv X pins σ (upd H a (ErrO C a)) s := by
  obtain ⟨ga, na, nL, nF, nc⟩ := I.pin (a, oe) (List.mem_append_right _ List.mem_cons_self)
  obtain ⟨fv, hfv⟩ := hf
  have hne : ∀ {b : Addr} {u : HO}, H b = some u → b ≠ a := fun {b u} q => ne_of_none q na
  constructor
  · exact I.ok
  · exact I.os
  · exact I.bare
  · constructor
    · exact I.base.keep
    · exact I.base.slot
    · intro b o q n hx
      have nb : b ≠ a := fun z => by
        rw [z, h0] at q
        cases q
      rw [upd_ne nb]
      exact I.base.free b o q n hx
    · exact I.base.there
    · intro b xs q
      have z := I.base.tups b xs q
      rw [upd_ne (hne z)]
      exact z
    · intro b o u q
      have z := I.base.frzs b o u q
      rw [upd_ne (hne z)]
      exact z
    · intro b ps q
      obtain ⟨more, z⟩ := I.base.tbls b ps q
      exact ⟨more, by rw [upd_ne (hne z)]; exact z⟩
  · exact I.loc
  · exact I.cell
  · rw [upd_ne (Ne.symm nL)]
    exact I.free
  · intro y c q
    have nb : c ≠ a := fun z => by
      obtain ⟨v, o, ho, hd⟩ := I.cell y c q
      rw [z, ga] at ho
      cases ho
      rw [hfv] at hd
      cases hd
    rw [upd_ne nb]
    exact I.freeC y c q
  · intro p q
    have q' : p ∈ X.pn ++ (a, oe) :: pins := by
      rcases List.mem_append.mp q with q | q
      · exact List.mem_append_left _ q
      · exact List.mem_append_right _ (List.mem_cons_of_mem _ q)
    obtain ⟨z1, z2, z3⟩ := I.pin p q'
    exact ⟨z1, by rw [upd_ne (hp p q)]; exact z2, z3⟩
  · exact I.hok.laidN (fun _ _ q => q) na ⟨⟨oe, fv, ga, hz, hfv⟩, ⟨oe, ga⟩, fun h1 h2 ⟨o, v, q, z⟩ k => ⟨o, v, k o q, z⟩⟩
  · exact I.len
/-- the wish of «except SetError as n: y = n»: the error is y's, n's slot is empty -/
def wKeep (G : Gd) (c : Value) (i j : Nat) (D : Ends) : WX := fun cls d σ H => ∃ n, cls = .ref (G.A n) ∧ d = none ∧ PySem.W.exmOne G.K cls c = some true ∧ ∀ a, H a = none → D.nx (((σ.set j (some (.ref a))).set i (some (.ref a))).set j none) (upd H a (ErrO (G.A n) a))
theorem ps_keep {x n y : Str} {c : Value} {i j : Nat} {body : List Stmt} {np pos pos' py p3 p4 : Pos} {tb : WX → TS} (hs : X.stack = X.env :: X.outer) (hf : X.env.frame = some X.env.locals) (hex : X.ex = []) (hN : X.N.Nodup) (hj : X.N[j]? = some n) (hln : X.env.kindOf n = some .local) (hi : X.N[i]? = some y) (hly : X.env.kindOf y = some .local) (hij : i ≠ j) (hc : Names X x c) (hK : X.K = G.K)
    (hb : ∀ (W' : WX) (pn : List (Addr × Obj)) (xe : Value → Shared → Prop), Takes (X.tr pn xe) W' → PassesOwn (model X.prog X.w) X.A X.env xe → PSs (X.tr pn xe) body (tb W'))
    (hsu : ∀ (a : Addr) (pn : List (Addr × Obj)), PSs (X.suite a pn) [.Assign [.Name y py] (.Name n p3) p4] (tAsg (tVar j) (gName i))) :
    PS X (.Try body [.ExceptHandler (some (.Name x np)) (some n) [.Assign [.Name y py] (.Name n p3) p4] pos'] [] [] pos) (fun D σ H => tb (wKeep G c i j D) D σ H) := by
  constructor
  intro pins s σ H D I h
  have ok := I.ok
  have hfr : X.A.frames = some (X.env :: X.outer) := by
    rw [ok.frames, hs]
  have vis_n : Loc X.env.scope n := .inl hln
  refine wpAny_Try_except (wpAny_mono ((hb (wKeep G c i j D) (X.pn ++ pins) _ ?tk PassesOwn.looking).run [] s σ H D (I.toTry _) h) ?thru fun _ _ z => z)
  case thru =>
    intro f s1 hsp
    cases f with
    | next =>
      obtain ⟨σ1, H1, J1, q1⟩ := hsp
      exact wpAny_execs_nil ⟨σ1, H1, J1.ofTry ok, q1⟩
    | brk =>
      obtain ⟨σ1, H1, J1, q1⟩ := hsp
      exact ⟨σ1, H1, J1.ofTry ok, q1⟩
    | cont =>
      obtain ⟨σ1, H1, J1, q1⟩ := hsp
      exact ⟨σ1, H1, J1.ofTry ok, q1⟩
    | ret u =>
      obtain ⟨v, σ1, H1, J1, r1, q1⟩ := hsp
      exact ⟨v, σ1, H1, J1.ofTry ok, r1, q1⟩
  case tk =>
    intro u s1 air
    obtain ⟨a, B, sI, pins1, σ1, H1, cls, d, rfl, J1, nb, up, sky, na, os, ag, n0, rfl, rfl, hm, q⟩ := air
    have J : Inv X pins σ1 H1 sI := J1.ofTry ok
    rw [show (X.tr (X.pn ++ pins) _).stack = X.env :: X.outer from hs] at sky
    refine Sky.land Zc.steady hfr hf sky fun h3 fl3 up3 => ?_
    have up13 := up.trans up3
    have J3 : Inv X pins σ1 H1 { s1 with heap := h3 } := J.landed nb fl3.1 up13 os ag
    obtain ⟨oe3, fv3, he3, hz3, hd3⟩ := fl3.there
    have nfr : a ∉ frs (X.env :: X.outer) := fun m => by
      obtain ⟨_, o1, e1, hnf⟩ := fl3.2.2.1.mem m
      rw [he3] at e1
      cases e1
      exact hnf _ hd3
    have nL : a ≠ X.env.locals := fun z => nfr (List.mem_filterMap.mpr ⟨X.env, List.mem_cons_self, by rw [hf, z]⟩)
    have nF : a ∉ X.fs := fun m => by
      obtain ⟨e1, m1, q1⟩ := List.mem_filterMap.mp m
      exact nfr (List.mem_filterMap.mpr ⟨e1, List.mem_cons_of_mem _ m1, q1⟩)
    -- the error is younger than all that J knows
    have aI : sI.heap.get? a = none := by
      cases e : sI.heap.get? a with
      | none => rfl
      | some o =>
        have z := nb a o e (by rw [show (X.tr (X.pn ++ pins) _).stack = X.env :: X.outer from hs]; exact nfr)
        rw [fl3.2.1] at z
        cases z
    have a0 : X.s_0.heap.get? a = none := by
      cases e : X.s_0.heap.get? a with
      | none => rfl
      | some o =>
        obtain ⟨o1, z⟩ := J.base.there a o e (by rw [hex]; exact fun z => nomatch z)
        rw [aI] at z
        cases z
    have hpn : ∀ p ∈ X.pn ++ pins, p.1 ≠ a := fun p m z => by
      have w := (J.pin p m).1
      rw [z, aI] at w
      cases w
    have S3 := J3.suite he3 hd3 na nL nF
    refine wpAny_handleBy_cons (codeAny_handlers_test ?_) (by intro z; cases z)
    have LT : PySem.W.Looks (model X.prog X.w) h3 (typeOf (.ref a)) (.ref (G.A n0)) := fun A Q E s k z => wpAny_typeOf_ref (k _ _ he3) (by rw [hz3.1]; exact z)
    rw [← hK] at hm
    have LM := PySem.W.exm_one (M := model X.prog X.w) (J3.kIn) LT hm
    have tst : ∀ {Q : Value → Shared → Prop} {E : Value → Shared → Prop}, Q c { s1 with heap := h3 } → wpAny (model X.prog X.w) (X.A.mark (some (.ref a))) (eval (.Name x np) X.env) Q E { s1 with heap := h3 } := fun {Q E} z => by
      obtain ⟨hg, hdbg, hm | ⟨hm, hv, hnn⟩⟩ := hc
      · exact ld_glob (X := X.suite a _) S3 hg hm z hdbg
      · exact ld_blt (X := X.suite a _) S3 hg hm hv z hnn hdbg
    refine tst (LM.here (codeAny_handlers_suite_as (HandSPX.lands_againZ fl3 fun h4 fl4 up4 => ?_)))
    have J4 : Inv X pins σ1 H1 { s1 with heap := h4 } := J.landed nb fl4.1 (up13.trans up4) os ag
    obtain ⟨oe4, fv4, he4, hz4, hd4⟩ := fl4.there
    refine store_ok (X := X.suite a ((a, oe4) :: (X.pn ++ pins))) (v := .ref a) (J4.suite he4 hd4 na nL nF) hN hj vis_n rfl (fun s5 S5 => ?_) (.inr hln)
    have lj : j < σ1.length := by
      rw [J.len]
      exact (List.getElem?_eq_some_iff.mp hj).1
    have rd : (tAsg (tVar j) (gName i)) ⟨fun σ6 H6 => σ6 = (σ1.set j (some (.ref a))).set i (some (.ref a)) ∧ H6 = H1, fun _ _ => False, fun _ _ => False, fun _ _ => False⟩ (σ1.set j (some (.ref a))) H1 := ⟨.ref a, List.getElem?_set_self lj, rfl, rfl⟩
    refine wpAny_mono ((hsu a ((a, oe4) :: (X.pn ++ pins))).run [] s5 _ H1 _ S5 rd) (fun f s6 hsp => ?_) fun _ _ z => z.elim
    cases f with
    | brk =>
      obtain ⟨_, _, _, z⟩ := hsp
      exact z.elim
    | cont =>
      obtain ⟨_, _, _, z⟩ := hsp
      exact z.elim
    | ret u =>
      obtain ⟨_, _, _, _, _, z⟩ := hsp
      exact z.elim
    | next =>
      obtain ⟨σ6, H6, S6, rfl, rfl⟩ := hsp
      have J6 : Inv X ((a, oe4) :: pins) ((σ1.set j (some (.ref a))).set i (some (.ref a))) H6 s6 :=
        ⟨ok, S6.os, S6.bare, S6.base, S6.loc, S6.cell, S6.free, S6.freeC, fun p m => S6.pin p (List.mem_append_left _ (by
          rcases List.mem_append.mp m with m | m
          · exact List.mem_cons_of_mem _ (List.mem_append_left _ m)
          · rcases List.mem_cons.mp m with m | m
            · rw [m]
              exact List.mem_cons_self
            · exact List.mem_cons_of_mem _ (List.mem_append_right _ m))), S6.hok, S6.len⟩
      exact gone_ok J6 hN hj hln fun s7 J7 => ⟨_, _, keep_err J7 a0 hpn hz4 ⟨_, hd4⟩, q a na⟩
/-- by data -/
def dTry (i j : Nat) (g : Ds) : Ds := fun E δ => g { E with ex := fun n δ' => E.nx (((δ'.set j .un).set i (.dat (.exc n))).set j .un) } δ
theorem pd_try {x n y : Str} {c : Value} {i j : Nat} {body : List Stmt} {np pos pos' py p3 p4 : Pos} {g : Ds} (hs : X.stack = X.env :: X.outer) (hf : X.env.frame = some X.env.locals) (hex : X.ex = []) (hN : X.N.Nodup) (hj : X.N[j]? = some n) (hln : X.env.kindOf n = some .local) (hi : X.N[i]? = some y) (hly : X.env.kindOf y = some .local) (hij : i ≠ j) (hc : Names X x c) (hm : ∀ m, PySem.W.exmOne G.K (.ref (G.A m)) c = some true)
    (hb : ∀ (W' : WX) (pn : List (Addr × Obj)) (xe : Value → Shared → Prop), Takes (X.tr pn xe) W' → PassesOwn (model X.prog X.w) X.A X.env xe → PSs (X.tr pn xe) body (tsD G W' g))
    (hsu : ∀ (a : Addr) (pn : List (Addr × Obj)), PSs (X.suite a pn) [.Assign [.Name y py] (.Name n p3) p4] (tAsg (tVar j) (gName i))) (hK : X.K = G.K := by rfl) :
    PS X (.Try body [.ExceptHandler (some (.Name x np)) (some n) [.Assign [.Name y py] (.Name n p3) p4] pos'] [] [] pos) (tsD G W (dTry i j g)) :=
  (ps_keep hs hf hex hN hj hln hi hly hij hc hK hb hsu).impD fun Dn σ H ⟨B0, H0, B, δ, E, e, q, o⟩ => by
    refine ⟨B0, H0, B, δ, _, e, q, ⟨o.nx, o.rt, o.bk, o.ct, fun n B1 δ1 σ1 H1 s1 e1 q1 => ⟨n, rfl, rfl, hm n, fun a ha => ?_⟩, o.rm⟩⟩
    have st := Stp.new (o := ErrO (G.A n) a) e1.bh ha
    have e2 := ((e1.stp st).setUn j (some (.ref a))).setDat i (Rep.exc (n := n) upd_same)
    exact o.nx _ _ _ _ (s1.trans st.b) (e2.setUn j none) q1

/-! ### isinstance of a kept error -/
def rIsK (G : Gd) : List V → Hp → VK → Prop := fun xs H Q => ∃ (a : Addr) (n : Nat) (c : V) (cv : Value) (b : Bool), xs = [.ref a, c] ∧ H a = some (ErrO (G.A n) a) ∧ ExcC G.K (G.A n) ∧ (∀ u, RelV c u → u = cv) ∧ PySem.W.kitOne G.K (.ref (G.A n)) cv = some b ∧ Q (.bl b) H
theorem call_isK (hK : X.K = G.K) : CallR X (.builtin "isinstance") (rIsK G) := by
  intro pins s σ H xs us Q I r h
  obtain ⟨a, n, c, cv, b, rfl, ha, C, hcv, ek, q⟩ := h
  obtain ⟨u1, u2, rfl, r1, r2⟩ := vals2 r
  cases (show u1 = Value.ref a from r1)
  have ec := hcv _ r2
  subst ec
  obtain ⟨⟨oe, fv, ho, hz, hd⟩, _, _⟩ := (show ObjOk X.prog X.w H s.heap a (ErrO (G.A n) a) from I.hok a _ ha)
  have J : PySem.W.InstAt s.heap a oe (G.A n) none := by
    obtain ⟨oc, od, oda, osl⟩ := oe
    obtain ⟨h1, h2⟩ := hz
    dsimp only at h1 h2 hd
    subst h1 h2 hd
    exact ⟨ho, rfl, rfl, trivial⟩
  have kI := I.kIn
  rw [hK] at kI
  exact PySem.W.kia_one (PySem.W.handS_kitx_exc C.hg C.hk C.hs C.hd C.ha C.hn C.ht C.hm) kI J ek (fun z => nomatch z) fun tk => ⟨.bl b, H, I.tok tk, rfl, q⟩
def oIsX (tab : Nat → Option Bool) : D → Option R
  | .exc n => (tab n).map fun b => .ok (.bl b)
  | _ => none
theorem pd_isX {e : Expr} {y : Str} {cv : Value} {c : V} {tab : Nat → Option Bool} {p p2 pos : Pos} {f : Fx} (hg : Gl X "isinstance") (hm : X.mg "isinstance" = none) (he : PE X e (teD G W f)) (hy : PE X (.Name y p2) (tC c)) (hcv : ∀ u, RelV c u → u = cv) (ht : ∀ n b, tab n = some b → ExcC G.K (G.A n) ∧ PySem.W.kitOne G.K (.ref (G.A n)) cv = some b)
    (hs : starEach [e, .Name y p2] X.env = (false, eval e X.env) :: starEach [.Name y p2] X.env := by rfl) (hs2 : starEach [.Name y p2] X.env = (false, eval (.Name y p2) X.env) :: starEach [] X.env := by rfl) (hpl : (backTo pos (starEach [.Name y p2] X.env)).any (·.1) = false := by rfl) (hK : X.K = G.K := by rfl) :
    PE X (.Call (.Name "isinstance" p) [e, .Name y p2] [] pos) (teD G W (f1 (oIsX tab) f)) :=
  (pe_callB (call_isK hK) hg hm (by decide +kernel) (pa_cons he (pa_cons hy pa_nil hs2) hs) (by decide) (by decide) hs hpl).impD fun σ H Q ⟨B, ε, z, hs, he, hf, hq, hx⟩ => by
    refine te_bind hs he hf hx fun d v B1 H1 st e1 rp hk => ?_
    unfold oIsX at hk
    split at hk
    · obtain ⟨b, et, rfl⟩ := Option.map_eq_some_iff.mp hk
      cases rp with
      | exc h1 => exact ⟨_, _, c, cv, b, rfl, st.s _ _ h1, (ht _ _ et).1, hcv, (ht _ _ et).2, hq _ B1 H1 st .bl⟩
    · cases hk
end
end
end DY
namespace DY
open PySem PySem.Spec PyProof.Rows L2
section
variable [NM]
/-! ### lists of lists of the def's own -/
def ptR : R → Pt
  | .ok d => .dat d
  | .nw ds => .own ds
  | .ex _ => .dat .non
  | .nn t ps => .dat (nstD t (ps.map Pt.d))
def argsP : List Fx → En → Option (Except Nat (List Pt))
  | [], _ => some (.ok [])
  | f :: fs, ε => match f ε with
    | none => none
    | some (.ex n) => some (.error n)
    | some (.nn _ _) => none
    | some r => match argsP fs ε with
      | none => none
      | some (.error n) => some (.error n)
      | some (.ok ps) => some (.ok (ptR r :: ps))
def taP (G : Gd) (W : WX) (fs : List Fx) : TA := fun σ H Q => ∃ (B : Hp) (ε : En) (z : Except Nat (List Pt)), Same B H ∧ EnvD G B σ ε ∧ argsP fs ε = some z ∧
  (∀ ps vs qs B' H', z = .ok ps → Stp B H B' H' → PtL G B' H' vs ps qs → qs.Nodup → (∀ q ∈ qs, H q = none ∧ B' q = none) → Q vs H') ∧ (∀ n, z = .error n → ∀ H', Same H H' → W (.ref (G.A n)) none σ H')
section
variable {G : Gd} {W : WX} {X : Cx}
theorem pdp_nil : PA X [] (taP G W []) := pa_nil.impD fun σ H Q ⟨B, ε, z, hs, he, hf, hq, hx⟩ => by
  cases hf
  exact hq [] [] [] B H rfl (Stp.refl hs) .nil List.nodup_nil fun _ m => absurd m List.not_mem_nil
theorem pdp_cons {e : Expr} {es : List Expr} {f : Fx} {fs : List Fx} (h : PE X e (teD G W f)) (hr : PA X es (taP G W fs)) (hs : starEach (e :: es) X.env = (false, eval e X.env) :: starEach es X.env := by rfl) : PA X (e :: es) (taP G W (f :: fs)) :=
  (pa_cons h hr hs).impD fun σ H Q ⟨B, ε, z, hs, he, hf, hq, hx⟩ => by
    unfold argsP at hf
    cases e1 : f ε with
    | none =>
      rw [e1] at hf
      cases hf
    | some r =>
      rw [e1] at hf
      have tail : (∀ n, r ≠ .ex n) → (∀ t ps, r ≠ .nn t ps) → (match argsP fs ε with | none => none | some (.error n) => some (.error n) | some (.ok ps) => some (Except.ok (ptR r :: ps))) = some z → tCons (teD G W f) (taP G W fs) σ H Q := fun ne nn hf => by
        refine ⟨B, ε, r, hs, he, e1, fun v B' H' st res => ?_, fun n q => absurd q (ne n)⟩
        cases e2 : argsP fs ε with
        | none =>
          rw [e2] at hf
          cases hf
        | some y =>
          rw [e2] at hf
          refine ⟨B', ε, y, st.s, he.mono st.b, e2, fun ps vs qs B3 H3 ey st3 t nd fr => ?_, fun n ey H3 s3 => ?_⟩
          · subst ey
            cases hf
            cases r with
            | ex n => exact absurd rfl (ne n)
            | nn t ps => exact absurd rfl (nn t ps)
            | ok d => exact hq _ _ qs B3 H3 rfl (st.trans st3) (.dat (Rep.mono st3.b res) t) nd fun q m => ⟨st.h.free (fr q m).1, (fr q m).2⟩
            | nw ds =>
              obtain ⟨p, ws, rfl, hp, bp, h1, r1⟩ := res
              refine hq _ _ (p :: qs) B3 H3 rfl (st.trans st3) (.own (st3.h _ _ h1) (r1.mono st3.b) t) (List.nodup_cons.mpr ⟨fun m => ?_, nd⟩) fun q m => ?_
              · have := (fr p m).1
                rw [h1] at this
                cases this
              · rcases List.mem_cons.mp m with em | m
                · subst em
                  refine ⟨hp, ?_⟩
                  cases z : B3 q with
                  | none => rfl
                  | some o =>
                    rcases st3.n q o z with ⟨o', z2⟩ | z2
                    · rw [bp] at z2
                      cases z2
                    · exact (z2.no h1 rfl).elim
                · exact ⟨st.h.free (fr q m).1, (fr q m).2⟩
          · subst ey
            cases hf
            exact hx n rfl H3 (st.h.trans s3)
      cases r with
      | ok d => exact tail (fun n z => by cases z) (fun t ps z => by cases z) hf
      | nw ds => exact tail (fun n z => by cases z) (fun t ps z => by cases z) hf
      | nn t ps => cases hf
      | ex n =>
        cases hf
        exact ⟨B, ε, .ex n, hs, he, e1, fun v B' H' st res => res.elim, fun m em H' s' => by
          cases em
          exact hx n rfl H' s'⟩
/-- x = [e, ..]: a list, and lists in it, of the def's own -/
def dNst (i : Nat) (fs : List Fx) : Ds := fun E δ => ∃ z, argsP fs (vis δ) = some z ∧ match z with
  | .error n => E.ex n δ
  | .ok ps => ps.length ≤ 100000 ∧ E.nx (δ.set i (.nst false ps))
/-- x = (e, ..) -/
def dNstT (i : Nat) (fs : List Fx) : Ds := fun E δ => ∃ z, argsP fs (vis δ) = some z ∧ match z with
  | .error n => E.ex n δ
  | .ok ps => ps.length ≤ 100000 ∧ E.nx (δ.set i (.nst true ps))
theorem pd_nst {i : Nat} {x : Str} {es : List Expr} {pos' pos2 pos : Pos} {fs : List Fx} (hN : X.N.Nodup) (hi : X.N[i]? = some x) (hx : Loc X.env.scope x) (he : PA X es (taP G W fs)) (hs : swapsWith (.List es pos2) (some (.Name x pos')) pos.line X.env = pure false := by rfl) (hf : X.fn x = true ∨ X.env.scope.names.lookup x = some .local := by first | exact .inl rfl | exact .inr rfl) :
    PS X (.Assign [.Name x pos'] (.List es pos2) pos) (tsD G W (dNst i fs)) := (ps_set hN hi hx (pe_lst he) hs hf).impD fun D σ H ⟨B0, H0, B, δ, E, e, ⟨z, g, q⟩, o⟩ => by
  refine ⟨B, vis δ, z, e.bh, e.vis, g, fun ps vs qs B' H' ez st t nd fr => ?_, fun n ez H' s => ?_⟩
  · subst ez
    obtain ⟨hl, q⟩ := q
    refine ⟨by rw [t.len]; exact le_line hl, fun p hp => ?_⟩
    have st2 := st.trans (Stp.hid (o := .lst vs) st.s hp)
    have np : p ∉ qs := fun m => by
      obtain ⟨o, ho, _⟩ := t.has p m
      rw [hp] at ho
      cases ho
    refine o.nx B' _ _ _ st2.b (e.fresh st2 i (s := .nst false ps) (R := p :: qs) ⟨p, vs, qs, rfl, rfl, upd_same, t.mono (Same.refl _) (fun q m => upd_ne fun z => np (by rw [← z]; exact m)), List.nodup_cons.mpr ⟨np, nd⟩⟩ fun q m => ?_) q
    rcases List.mem_cons.mp m with em | m
    · rw [em]
      exact ⟨st.h.free hp, st.s.free hp, _, upd_same, rfl⟩
    · obtain ⟨o, ho, no⟩ := t.has q m
      exact ⟨(fr q m).1, (fr q m).2, o, by rw [upd_ne (fun z => np (by rw [← z]; exact m))]; exact ho, no⟩
  · subst ez
    exact o.ex n B δ σ H' (Same.refl _) (e.stp ⟨Same.refl _, s, e.bh.trans s, fun a o z => .inl ⟨o, z⟩⟩) q
theorem pd_nstT {i : Nat} {x : Str} {es : List Expr} {pos' pos2 pos : Pos} {x1} {fs : List Fx} (hN : X.N.Nodup) (hi : X.N[i]? = some x) (hx : Loc X.env.scope x) (he : PA X es (taP G W fs)) (hs : swapsWith (.Tuple es x1 pos2) (some (.Name x pos')) pos.line X.env = pure false := by rfl) (hf : X.fn x = true ∨ X.env.scope.names.lookup x = some .local := by first | exact .inl rfl | exact .inr rfl) :
    PS X (.Assign [.Name x pos'] (.Tuple es x1 pos2) pos) (tsD G W (dNstT i fs)) := (ps_set hN hi hx (pe_tup he) hs hf).impD fun D σ H ⟨B0, H0, B, δ, E, e, ⟨z, g, q⟩, o⟩ => by
  refine ⟨B, vis δ, z, e.bh, e.vis, g, fun ps vs qs B' H' ez st t nd fr => ?_, fun n ez H' s => ?_⟩
  · subst ez
    obtain ⟨hl, q⟩ := q
    refine ⟨by rw [t.len]; exact le_line hl, fun p hp => ?_⟩
    have st2 := st.trans (Stp.hid (o := .tup vs) st.s hp)
    have np : p ∉ qs := fun m => by
      obtain ⟨o, ho, _⟩ := t.has p m
      rw [hp] at ho
      cases ho
    refine o.nx B' _ _ _ st2.b (e.fresh st2 i (s := .nst true ps) (R := p :: qs) ⟨p, vs, qs, rfl, rfl, upd_same, t.mono (Same.refl _) (fun q m => upd_ne fun z => np (by rw [← z]; exact m)), List.nodup_cons.mpr ⟨np, nd⟩⟩ fun q m => ?_) q
    rcases List.mem_cons.mp m with em | m
    · rw [em]
      exact ⟨st.h.free hp, st.s.free hp, _, upd_same, rfl⟩
    · obtain ⟨o, ho, no⟩ := t.has q m
      exact ⟨(fr q m).1, (fr q m).2, o, by rw [upd_ne (fun z => np (by rw [← z]; exact m))]; exact ho, no⟩
  · subst ez
    exact o.ex n B δ σ H' (Same.refl _) (e.stp ⟨Same.refl _, s, e.bh.trans s, fun a o z => .inl ⟨o, z⟩⟩) q
/-- a list in such a list changes -/
theorem PtL.at {B H : Hp} : ∀ {vs ps qs} {k : Nat} {ds : List D}, PtL G B H vs ps qs → qs.Nodup → ps[k]? = some (.own ds) → ∃ q ws, vs[k]? = some (.ref q) ∧ q ∈ qs ∧ H q = some (.lst ws) ∧ RepL G B ws ds ∧ ∀ ws' ds', RepL G B ws' ds' → PtL G B (upd H q (.lst ws')) vs (ps.set k (.own ds')) qs
  | _, _, _, _, _, .nil, _, h => by simp at h
  | _, _, _, 0, _, .dat _ _, _, h => by simp at h
  | _, _, _, 0, _, .own hq r t, nd, h => by
    simp at h
    subst h
    obtain ⟨n1, n2⟩ := List.nodup_cons.mp nd
    refine ⟨_, _, rfl, List.mem_cons_self, hq, r, fun ws' ds' r' => .own upd_same r' (t.mono (Same.refl _) fun q m => upd_ne fun z => n1 (z ▸ m))⟩
  | _, _, _, k + 1, _, .dat r t, nd, h => by
    obtain ⟨q, ws, h1, h2, h3, h4, h5⟩ := PtL.at (k := k) t nd (by simpa using h)
    exact ⟨q, ws, by simpa using h1, h2, h3, h4, fun ws' ds' r' => .dat r (h5 ws' ds' r')⟩
  | _, _, _, k + 1, _, .own hq r t, nd, h => by
    obtain ⟨n1, n2⟩ := List.nodup_cons.mp nd
    obtain ⟨q, ws, h1, h2, h3, h4, h5⟩ := PtL.at (k := k) t n2 (by simpa using h)
    refine ⟨q, ws, by simpa using h1, List.mem_cons_of_mem _ h2, h3, h4, fun ws' ds' r' => .own ?_ r (h5 ws' ds' r')⟩
    rw [upd_ne (fun z => n1 (by rw [z]; exact h2))]
    exact hq
theorem EnvS.inner {B0 H0 B H : Hp} {σ : L2.St} {δ : Ev} {i k : Nat} {t : Bool} {ps : List Pt} {ds : List D} (e : EnvS G B0 H0 B H σ δ) (hi : δ[i]? = some (.nst t ps)) (hk : ps[k]? = some (.own ds)) : ∃ a vs q ws, σ[i]? = some (some (.ref a)) ∧ H a = some (nob t vs) ∧ vs.length = ps.length ∧ vs[k]? = some (.ref q) ∧ H q = some (.lst ws) ∧ RepL G B ws ds ∧
    ∀ ws' ds', RepL G B ws' ds' → EnvS G B0 H0 B (upd H q (.lst ws')) σ (δ.set i (.nst t (ps.set k (.own ds')))) := by
  obtain ⟨ρ, P⟩ := e.prv
  obtain ⟨x, h1, a, vs, qs, e1, rfl, h, pt, nd⟩ := P.ok i _ hi
  obtain ⟨na, nq⟩ := List.nodup_cons.mp nd
  obtain ⟨q, ws, z1, z2, z3, z4, z5⟩ := pt.at nq hk
  have qr : q ∈ ρ i := by rw [e1]; exact List.mem_cons_of_mem _ z2
  refine ⟨a, vs, q, ws, h1, h, pt.len, z1, z3, z4, fun ws' ds' r' => ?_⟩
  have := e.put (H' := upd H q (.lst ws')) P i (x := some (.ref a)) (s := .nst t (ps.set k (.own ds'))) (R := a :: qs) (fun b m => upd_ne fun z => m (z ▸ qr)) ⟨a, vs, qs, rfl, rfl, by rw [upd_ne (fun z => na (by rw [z]; exact z2))]; exact h, z5 ws' ds' r', nd⟩ (fun p m => by
    obtain ⟨n1, n2, o, ho, no⟩ := P.new i p (by rw [e1]; exact m)
    refine ⟨n1, n2, ?_⟩
    by_cases hp : p = q
    · exact ⟨.lst ws', by rw [hp]; exact upd_same, rfl⟩
    · exact ⟨o, by rw [upd_ne hp]; exact ho, no⟩) fun j hj p m m2 => hj (P.sep j i p m2 (by rw [e1]; exact m))
  rw [set_none h1] at this
  exact this
theorem set_un {s : Sl} {δ : Ev} {i : Nat} (h : δ[i]? = some s) : δ.set i s = δ := by
  refine List.ext_getElem? fun j => ?_
  by_cases hj : i = j
  · subst hj
    rw [List.getElem?_set_self (List.getElem?_eq_some_iff.mp h).1, h]
  · rw [List.getElem?_set_ne hj]
/-- for t in x: t.append(c) -/
def appP (d : D) : List Pt → Option (List Pt)
  | [] => some []
  | .own ds :: ps => if ds.length < 90000 then (appP d ps).map (.own (ds ++ [d]) :: ·) else none
  | .dat _ :: _ => none
theorem appP_get {d : D} : ∀ {ps ps' : List Pt}, appP d ps = some ps' → ps'.length = ps.length ∧ ∀ k, k < ps.length → ∃ ds, ps[k]? = some (.own ds) ∧ ds.length < 90000 ∧ ps'[k]? = some (.own (ds ++ [d]))
  | [], _, h => by
    cases h
    exact ⟨rfl, fun k hk => absurd hk (by simp)⟩
  | .dat _ :: _, _, h => by cases h
  | .own ds :: ps, ps', h => by
    unfold appP at h
    split at h
    · rename_i hl
      obtain ⟨qs, h1, rfl⟩ := Option.map_eq_some_iff.mp h
      obtain ⟨l, g⟩ := appP_get h1
      refine ⟨by rw [List.length_cons, List.length_cons, l], fun k hk => ?_⟩
      cases k with
      | zero => exact ⟨ds, rfl, hl, rfl⟩
      | succ k =>
        obtain ⟨es, g1, g2, g3⟩ := g k (by simpa using hk)
        exact ⟨es, by simpa using g1, g2, by simpa using g3⟩
    · cases h
def dForApp (i j : Nat) (d : D) : Ds := fun E δ => ∃ ps ps', δ[i]? = some (.nst false ps) ∧ j < δ.length ∧ appP d ps = some ps' ∧ E.nx ((δ.set j .un).set i (.nst false ps'))
theorem pd_forApp {i j : Nat} {x y : Str} {c : Expr} {v : V} {d : D} {px p1 p2 apos cpos pos2 pos : Pos} (hp : PassesOwn (model X.prog X.w) X.A X.env X.xe) (hc : X.calm = true) (hN : X.N.Nodup) (hx : PE X (.Name x px) (tVar i)) (hj : X.N[j]? = some y) (hy : Loc X.env.scope y) (hyv : PE X (.Name y p2) (tVar j)) (hij : i ≠ j) (hcv : PE X c (tC v)) (hv : ∀ B, Rep G B v d)
    (hf : X.fn y = true ∨ X.env.scope.names.lookup y = some .local := by first | exact .inl rfl | exact .inr rfl) (hbase : attributeBase (.Name y p2) "append" X.env (eval (.Name y p2) X.env) = eval (.Name y p2) X.env := by rfl)
    (hfew : ((backTo cpos (starEach [c] X.env)).all (fun x => !x.1) && (backToKw cpos (keywordEach [] X.env)).all (fun x => x.1.isSome) && decide (([c] : List Expr).length + ([] : List Keyword).length + (if ([] : List Keyword).isEmpty then 0 else 1) < 30)) = true := by rfl)
    (hline : (apos.endLine == cpos.line) = true := by rfl) (hs : starEach [c] X.env = (false, eval c X.env) :: starEach [] X.env := by rfl) (hsw : swapsWith (.Call (.Attribute (.Name y p2) "append" apos) [c] [] cpos) none pos2.line X.env = pure false := by rfl)
    (hfi : ∀ z, foldedSetIterable (.Name x px) X.env z = pure z := by intro _; rfl) :
    PS X (.For (.Name y p1) (.Name x px) [.Expr (.Call (.Attribute (.Name y p2) "append" apos) [c] [] cpos) pos2] [] pos) (tsD G W (dForApp i j d)) :=
  (ps_for hp hc (pi_list hx) (pg_name hN hj hy hf) (pss_one (ps_expr (pe_bm PySem.F.plainAttrs_list PySem.F.slot_list_append PySem.F.type_list_append mt_append hyv (pa_cons hcv pa_nil hs) hbase hfew hline hs rfl) hsw)) hfi).impD fun Dn σ H ⟨B0, H0, B, δ, E, e, ⟨ps, ps', hi, jd, ha, q⟩, o⟩ => by
  obtain ⟨lp, gp⟩ := appP_get ha
  obtain ⟨ρ, P⟩ := e.prv
  obtain ⟨x0, h1, a, vs, qs, e1, rfl, h, t, nd⟩ := P.ok i _ hi
  have il : i < δ.length := (List.getElem?_eq_some_iff.mp hi).1
  refine ⟨.ref a, h1, a, rfl, ⟨vs, SqL.of h⟩, fun k m σ' H' => k + m = ps.length ∧ σ'[i]? = some (some (.ref a)) ∧ EnvS G B0 H0 B H' σ' ((δ.set j .un).set i (.nst false (ps'.take k ++ ps.drop k))), ⟨ps.length, by omega, ?_, ?_⟩, fun k m σ' H' hw => ?_⟩
  · exact h1
  · have e2 := e.setUn j (σ[j]?.getD none)
    have es : σ.set j (σ[j]?.getD none) = σ := by
      by_cases hl : j < σ.length
      · refine set_none ?_
        rw [List.getElem?_eq_getElem hl] <;> rfl
      · exact List.set_eq_of_length_le (by omega)
    rw [es] at e2
    rw [List.take_zero, List.drop_zero, List.nil_append]
    have : (δ.set j .un)[i]? = some (.nst false ps) := by rw [List.getElem?_set_ne (fun z => hij z.symm)]; exact hi
    rw [set_un this]
    exact e2
  · obtain ⟨hm, hσ, e'⟩ := hw
    have hat : ((δ.set j .un).set i (.nst false (ps'.take k ++ ps.drop k)))[i]? = some (.nst false (ps'.take k ++ ps.drop k)) := List.getElem?_set_self (by rw [List.length_set]; exact il)
    have lk : (ps'.take k ++ ps.drop k).length = ps.length := by
      rw [List.length_append, List.length_take, List.length_drop, lp]
      omega
    by_cases hlt : k < ps.length
    · obtain ⟨ds, g1, g2, g3⟩ := gp k hlt
      have gk : (ps'.take k ++ ps.drop k)[k]? = some (.own ds) := by
        rw [List.getElem?_append_right (by rw [List.length_take]; omega), List.length_take, List.getElem?_drop, lp]
        rw [show k + (k - min k ps.length) = k by omega]
        exact g1
      obtain ⟨a2, us, qk, ws, z1, z2, z3, z4, z5, z6, z7⟩ := e'.inner hat gk
      rw [hσ] at z1
      cases z1
      refine .inr ⟨⟨us, _, SqL.of z2, z4⟩, fun σ2 H2 => σ2[i]? = some (some (.ref a)) ∧ EnvS G B0 H0 B H2 σ2 ((δ.set j .un).set i (.nst false (ps'.take (k + 1) ++ ps.drop (k + 1)))), fun σ2 H2 hN => ⟨m - 1, by omega, by omega, hN⟩, fun x1 H1 yy => ?_⟩
      obtain ⟨rfl, fx⟩ := yy
      have ex := fx us (SqL.of z2)
      rw [z4] at ex
      cases ex
      have jl : j < σ'.length := by
        have := e'.len
        rw [List.length_set, List.length_set] at this
        omega
      refine ⟨.ref qk, List.getElem?_set_self jl, .inl ⟨rfl, ws, SqL.of z5⟩, qk, ws, v, rfl, rfl, z5, lt_line (by rw [z6.length]; omega), ?_⟩
      refine ⟨by rw [List.getElem?_set_ne (fun z => hij z.symm)]; exact hσ, ?_⟩
      have e3 := (z7 (ws ++ [v]) (ds ++ [d]) (z6.append (.cons (hv B) .nil))).setUn j (some (.ref qk))
      have es : (((δ.set j .un).set i (.nst false (ps'.take k ++ ps.drop k))).set i (.nst false ((ps'.take k ++ ps.drop k).set k (.own (ds ++ [d]))))).set j .un = (δ.set j .un).set i (.nst false (ps'.take (k + 1) ++ ps.drop (k + 1))) := by
        have el : (ps'.take k ++ ps.drop k).set k (.own (ds ++ [d])) = ps'.take (k + 1) ++ ps.drop (k + 1) := by
          have lt : (ps'.take k).length = k := by rw [List.length_take]; omega
          rw [List.set_append_right _ _ (by omega), lt, Nat.sub_self, List.drop_eq_getElem_cons hlt, List.set_cons_zero, List.take_add_one, g3, List.append_assoc] <;> rfl
        rw [el, List.set_set, List.set_comm _ _ hij, List.set_set]
      rw [es] at e3
      exact e3
    · obtain ⟨ρ', P'⟩ := e'.prv
      obtain ⟨x', w1, a', vs', qs', w2, rfl, w3, w4, _⟩ := P'.ok i _ hat
      rw [hσ] at w1
      cases w1
      refine .inl ⟨⟨vs', SqL.of w3, ?_⟩, ?_⟩
      · rw [w4.len, lk]
        omega
      · have : ps'.take k ++ ps.drop k = ps' := by
          rw [List.take_of_length_le (by omega), List.drop_eq_nil_of_le (by omega), List.append_nil]
        rw [this] at e'
        exact o.nx B _ _ H' (Same.refl _) e' q
theorem nob_inj {t : Bool} {vs us : List V} (h : some (nob t vs) = some (nob t us)) : vs = us := by
  cases t <;> cases h <;> rfl
theorem ix_nst {K : PySem.W.Frag} {H : Hp} {t : Bool} {a : Addr} {vs : List V} {j : Nat} {v : V} {Q : VK} (h : H a = some (nob t vs)) (hj : vs[j]? = some v) (q : Q v H) : rIxL K (.ref a) (.int (j : Int)) H Q ∨ rIxT K (.ref a) (.int (j : Int)) H Q := by
  cases t with
  | true => exact .inr ⟨a, vs, (j : Int), v, rfl, rfl, SqT.of h, atI_nat hj, q⟩
  | false => exact .inl ⟨a, vs, (j : Int), v, rfl, rfl, SqL.of h, atI_nat hj, q⟩
/-- x[k].append(e) -/
def dInApp (i : Nat) (fk f : Fx) : Ds := fun E δ => ∃ t ps z, δ[i]? = some (.nst t ps) ∧ fk (pub δ) = some z ∧ onR z (fun k => ∃ (j : Nat) (ds : List D) (r : R), k = .int j ∧ ps[j]? = some (.own ds) ∧ getR f δ r ∧ onR r (fun d => ds.length < 90000 ∧ E.nx (δ.set i (.nst t (ps.set j (.own (ds ++ [d])))))) (fun n => E.ex n δ)) (fun n => E.ex n δ)
/-- x[k].clear() -/
def dInClr (i : Nat) (fk : Fx) : Ds := fun E δ => ∃ t ps z, δ[i]? = some (.nst t ps) ∧ fk (pub δ) = some z ∧ onR z (fun k => ∃ (j : Nat) (ds : List D), k = .int j ∧ ps[j]? = some (.own ds) ∧ E.nx (δ.set i (.nst t (ps.set j (.own []))))) (fun n => E.ex n δ)
theorem pd_inApp {i : Nat} {x k e : Expr} {p apos cpos pos : Pos} {fk f : Fx} (hx : PE X x (tVar i)) (hk : PE X k (teD G W fk)) (he : PE X e (teD G W f)) (hsb : PlainIx k := by exact fun _ _ => rfl)
    (hbase : attributeBase (.Subscript x k p) "append" X.env (eval (.Subscript x k p) X.env) = eval (.Subscript x k p) X.env := by rfl)
    (hfew : ((backTo cpos (starEach [e] X.env)).all (fun x => !x.1) && (backToKw cpos (keywordEach [] X.env)).all (fun x => x.1.isSome) && decide (([e] : List Expr).length + ([] : List Keyword).length + (if ([] : List Keyword).isEmpty then 0 else 1) < 30)) = true := by rfl)
    (hline : (apos.endLine == cpos.line) = true := by rfl) (hs : starEach [e] X.env = (false, eval e X.env) :: starEach [] X.env := by rfl) (hsw : swapsWith (.Call (.Attribute (.Subscript x k p) "append" apos) [e] [] cpos) none pos.line X.env = pure false := by rfl) :
    PS X (.Expr (.Call (.Attribute (.Subscript x k p) "append" apos) [e] [] cpos) pos) (tsD G W (dInApp i fk f)) :=
  (ps_expr (pe_bm PySem.F.plainAttrs_list PySem.F.slot_list_append PySem.F.type_list_append mt_append (pe_ix (ix_list.or ix_tup) hx hk hsb) (pa_cons he pa_nil hs) hbase hfew hline hs rfl) hsw).impD fun Dn σ H ⟨B0, H0, B, δ, E, e, ⟨t, ps, z, hi, gk, q⟩, o⟩ => by
  obtain ⟨ρ, P⟩ := e.prv
  obtain ⟨x0, h1, a, vs0, qs0, _, rfl, _, _, _⟩ := P.ok i _ hi
  refine ⟨.ref a, h1, run_p e gk (fun n er H' st => ?_) fun v d B' H' ed st _ rp => ?_⟩
  · subst er
    exact o.ex n B δ σ H' (Same.refl _) (e.stp st) q
  · obtain ⟨j, ds, r, rfl, hj, g, q⟩ := onR_val q ed
    cases rp
    have e1 := e.stp st
    obtain ⟨a2, vs, qk, ws, z1, z2, z3, z4, z5, z6, _⟩ := e1.inner hi hj
    rw [h1] at z1
    cases z1
    refine ix_nst z2 z4 ⟨.inl ⟨rfl, ws, SqL.of z5⟩, run_e e1 g (fun n er H2 st2 => ?_) fun v2 d2 B2 H2 ed2 st2 rp2 _ => ?_⟩
    · subst er
      exact o.ex n B δ σ H2 (Same.refl _) (e1.stp st2) q
    · obtain ⟨hl, q⟩ := onR_val q ed2
      have e2 := e1.stp st2
      obtain ⟨a3, us, q3, ws3, y1, y2, y3, y4, y5, y6, y7⟩ := e2.inner hi hj
      rw [h1] at y1
      cases y1
      have eu := nob_inj ((own_at st2.h z2 own_nob).symm.trans y2)
      subst eu
      rw [z4] at y4
      cases y4
      exact ⟨qk, ws3, v2, rfl, rfl, y5, lt_line (by rw [y6.length]; omega), o.nx B2 _ _ _ st2.b (y7 _ _ (y6.append (.cons rp2 .nil))) q⟩
theorem pd_inClr {i : Nat} {x k : Expr} {p apos cpos pos : Pos} {fk : Fx} (hx : PE X x (tVar i)) (hk : PE X k (teD G W fk)) (hsb : PlainIx k := by exact fun _ _ => rfl)
    (hbase : attributeBase (.Subscript x k p) "clear" X.env (eval (.Subscript x k p) X.env) = eval (.Subscript x k p) X.env := by rfl)
    (hline : (apos.endLine == cpos.line) = true := by rfl) (hsw : swapsWith (.Call (.Attribute (.Subscript x k p) "clear" apos) [] [] cpos) none pos.line X.env = pure false := by rfl) :
    PS X (.Expr (.Call (.Attribute (.Subscript x k p) "clear" apos) [] [] cpos) pos) (tsD G W (dInClr i fk)) :=
  (ps_expr (pe_bm0 PySem.F.plainAttrs_list PySem.F.slot_list_clear PySem.F.type_list_clear mt_clear (pe_ix (ix_list.or ix_tup) hx hk hsb) hbase hline) hsw).impD fun Dn σ H ⟨B0, H0, B, δ, E, e, ⟨t, ps, z, hi, gk, q⟩, o⟩ => by
  obtain ⟨ρ, P⟩ := e.prv
  obtain ⟨x0, h1, a, vs0, qs0, _, rfl, _, _, _⟩ := P.ok i _ hi
  refine ⟨.ref a, h1, run_p e gk (fun n er H' st => ?_) fun v d B' H' ed st _ rp => ?_⟩
  · subst er
    exact o.ex n B δ σ H' (Same.refl _) (e.stp st) q
  · obtain ⟨j, ds, rfl, hj, q⟩ := onR_val q ed
    cases rp
    have e1 := e.stp st
    obtain ⟨a2, vs, qk, ws, z1, z2, z3, z4, z5, z6, z7⟩ := e1.inner hi hj
    rw [h1] at z1
    cases z1
    exact ix_nst z2 z4 ⟨.inl ⟨rfl, ws, SqL.of z5⟩, qk, ws, rfl, rfl, z5, o.nx B _ _ _ (Same.refl _) (z7 [] [] .nil) q⟩
/-- x = f(..), what comes is new, and lists in it are -/
def dNstC (i : Nat) (f : Fx) : Ds := fun E δ => ∃ r, f (vis δ) = some r ∧ match r with
  | .nn t ps => E.nx (δ.set i (.nst t ps))
  | .ex n => E.ex n δ
  | _ => False
theorem pd_nstC {i : Nat} {x : Str} {e : Expr} {pos' pos : Pos} {f : Fx} (hN : X.N.Nodup) (hi : X.N[i]? = some x) (hx : Loc X.env.scope x) (he : PE X e (teD G W f)) (hs : swapsWith e (some (.Name x pos')) pos.line X.env = pure false := by rfl) (hf : X.fn x = true ∨ X.env.scope.names.lookup x = some .local := by first | exact .inl rfl | exact .inr rfl) :
    PS X (.Assign [.Name x pos'] e pos) (tsD G W (dNstC i f)) := (ps_set hN hi hx he hs hf).impD fun D σ H ⟨B0, H0, B, δ, E, e, ⟨r, g, q⟩, o⟩ => by
  refine ⟨B, vis δ, r, e.bh, e.vis, g, fun v B' H' st res => ?_, fun n er H' s => ?_⟩
  · cases r with
    | ok d => exact q.elim
    | nw ds => exact q.elim
    | ex n => exact res.elim
    | nn t ps =>
      obtain ⟨a, vs, qs, rfl, ha, pt, nd, fr⟩ := res
      refine o.nx B' _ _ H' st.b (e.fresh st i (s := .nst t ps) (R := a :: qs) ⟨a, vs, qs, rfl, rfl, ha, pt, nd⟩ fun p m => ⟨(fr p m).1, (fr p m).2, ?_⟩) q
      rcases List.mem_cons.mp m with em | m
      · exact ⟨_, em ▸ ha, own_nob⟩
      · exact pt.has p m
  · subst er
    exact o.ex n B δ σ H' (Same.refl _) (e.stp ⟨Same.refl _, s, e.bh.trans s, fun a o z => .inl ⟨o, z⟩⟩) q
/-- return x, a list or tuple with lists of the def's own -/
def dRetNst (i : Nat) : Ds := fun E δ => ∃ t ps, δ[i]? = some (.nst t ps) ∧ E.rt (.nn t ps)
theorem pd_retNst {i : Nat} {e : Expr} {pos : Pos} (he : PE X e (tVar i)) : PS X (.Return (some e) pos) (tsD G W (dRetNst i)) := (ps_ret he).impD fun D σ H ⟨B0, H0, B, δ, E, e, ⟨t, ps, hi, q⟩, o⟩ => by
  obtain ⟨ρ, P⟩ := e.prv
  obtain ⟨x, h1, a, vs, qs, e1, rfl, h, pt, nd⟩ := P.ok i _ hi
  exact ⟨.ref a, h1, o.rt _ (.nn t ps) B H ⟨e.b0, e.h0, e.bh, e.bn⟩ ⟨a, vs, qs, rfl, h, pt, nd, fun p m => ⟨(P.new i p (by rw [e1]; exact m)).1, (P.new i p (by rw [e1]; exact m)).2.1⟩⟩ q⟩
theorem PtL.snoc {B H : Hp} {q : Addr} {ws : List V} {es : List D} (hq : H q = some (.lst ws)) (r : RepL G B ws es) : ∀ {vs ps qs}, PtL G B H vs ps qs → PtL G B H (vs ++ [.ref q]) (ps ++ [.own es]) (qs ++ [q])
  | _, _, _, .nil => .own hq r .nil
  | _, _, _, .dat d t => .dat d (PtL.snoc hq r t)
  | _, _, _, .own h d t => .own h d (PtL.snoc hq r t)
theorem PtL.snocD {B H : Hp} {v : V} {d : D} (r : Rep G B v d) : ∀ {vs ps qs}, PtL G B H vs ps qs → PtL G B H (vs ++ [v]) (ps ++ [.dat d]) qs
  | _, _, _, .nil => .dat r .nil
  | _, _, _, .dat x t => .dat x (PtL.snocD r t)
  | _, _, _, .own h x t => .own h x (PtL.snocD r t)
/-- x.append(e): new lists stay the def's own -/
def dNstApp (i : Nat) (f : Fx) : Ds := fun E δ => ∃ ps r, δ[i]? = some (.nst false ps) ∧ f (vis δ) = some r ∧ ps.length < 90000 ∧ match r with
  | .nw es => E.nx (δ.set i (.nst false (ps ++ [.own es])))
  | .ok d => E.nx (δ.set i (.nst false (ps ++ [.dat d])))
  | .ex n => E.ex n δ
  | .nn _ _ => False
theorem pd_nstApp {i : Nat} {x e : Expr} {apos cpos pos : Pos} {f : Fx} (hx : PE X x (tVar i)) (he : PE X e (teD G W f)) (hbase : attributeBase x "append" X.env (eval x X.env) = eval x X.env := by rfl)
    (hfew : ((backTo cpos (starEach [e] X.env)).all (fun x => !x.1) && (backToKw cpos (keywordEach [] X.env)).all (fun x => x.1.isSome) && decide (([e] : List Expr).length + ([] : List Keyword).length + (if ([] : List Keyword).isEmpty then 0 else 1) < 30)) = true := by rfl)
    (hline : (apos.endLine == cpos.line) = true := by rfl) (hs : starEach [e] X.env = (false, eval e X.env) :: starEach [] X.env := by rfl) (hsw : swapsWith (.Call (.Attribute x "append" apos) [e] [] cpos) none pos.line X.env = pure false := by rfl) :
    PS X (.Expr (.Call (.Attribute x "append" apos) [e] [] cpos) pos) (tsD G W (dNstApp i f)) :=
  (ps_expr (pe_bm PySem.F.plainAttrs_list PySem.F.slot_list_append PySem.F.type_list_append mt_append hx (pa_cons he pa_nil hs) hbase hfew hline hs rfl) hsw).impD fun Dn σ H ⟨B0, H0, B, δ, E, e, ⟨ps, r, hi, g, hl, q⟩, o⟩ => by
  obtain ⟨ρ, P⟩ := e.prv
  obtain ⟨x0, h1, a, vs, qs, e1, rfl, h, pt, nd⟩ := P.ok i _ hi
  obtain ⟨na, nq⟩ := List.nodup_cons.mp nd
  refine ⟨.ref a, h1, .inl ⟨rfl, vs, SqL.of h⟩, B, vis δ, r, e.bh, e.vis, g, fun v B' H' st res => ?_, fun n er H' s => ?_⟩
  · have ln : vs.length < sizeLine := lt_line (by rw [pt.len]; omega)
    have P2 := P.stp st
    have e2 := e.stp st
    have ha : H' a = some (.lst vs) := st.h _ _ h
    have ho : ∀ q ∈ qs, H' q = H q := fun q m => by
      obtain ⟨o, z, no⟩ := pt.has q m
      rw [z]
      exact own_at st.h z no
    have pt2 := pt.mono (H' := H') st.b ho
    have own : ∀ p ∈ a :: qs, H0 p = none ∧ B' p = none ∧ ∃ o, H' p = some o ∧ Own o := fun p m => P2.new i p (by rw [e1]; exact m)
    refine ⟨a, vs, v, rfl, rfl, ha, ln, ?_⟩
    have upn : ∀ q ∈ qs, upd H' a (.lst (vs ++ [v])) q = H' q := fun q m => upd_ne fun z => na (z ▸ m)
    have still : ∀ p, (∃ o, H' p = some o ∧ Own o) → ∃ o, upd H' a (.lst (vs ++ [v])) p = some o ∧ Own o := fun p ⟨o, z, no⟩ => by
      by_cases hp : p = a
      · exact ⟨.lst (vs ++ [v]), by rw [hp]; exact upd_same, rfl⟩
      · exact ⟨o, by rw [upd_ne hp]; exact z, no⟩
    cases r with
    | ex n => exact res.elim
    | nn t ps => exact q.elim
    | ok d =>
      have := e2.put (H' := upd H' a (.lst (vs ++ [v]))) P2 i (x := some (.ref a)) (s := .nst false (ps ++ [.dat d])) (R := a :: qs) (fun b m => upd_ne fun z => m (by rw [e1, z]; exact List.mem_cons_self)) ⟨a, vs ++ [v], qs, rfl, rfl, upd_same, PtL.snocD res (pt2.mono (Same.refl _) upn), nd⟩ (fun p m => ⟨(own p m).1, (own p m).2.1, still p (own p m).2.2⟩) fun j hj p m m2 => hj (P.sep j i p m2 (by rw [e1]; exact m))
      rw [set_none h1] at this
      exact o.nx B' _ _ _ st.b this q
    | nw es =>
      obtain ⟨p, ws, rfl, hp, bp, hw, rl⟩ := res
      have pa : p ≠ a := fun z => by
        rw [z, h] at hp
        cases hp
      have pq : p ∉ qs := fun m => by
        obtain ⟨o, z, _⟩ := pt.has p m
        rw [hp] at z
        cases z
      have nd2 : (a :: (qs ++ [p])).Nodup := by
        refine List.nodup_cons.mpr ⟨fun m => ?_, ?_⟩
        · rcases List.mem_append.mp m with m | m
          · exact na m
          · exact pa (List.mem_singleton.mp m).symm
        · exact List.nodup_append.mpr ⟨nq, by simp, fun x hx y hy z => pq (by rw [← List.mem_singleton.mp hy, ← z]; exact hx)⟩
      have pt3 := PtL.snoc (H := upd H' a (.lst (vs ++ [V.ref p]))) ((upd_ne pa).trans hw) rl (pt2.mono (Same.refl _) upn)
      have := e2.put (H' := upd H' a (.lst (vs ++ [V.ref p]))) P2 i (x := some (.ref a)) (s := .nst false (ps ++ [.own es])) (R := a :: (qs ++ [p])) (fun b m => upd_ne fun z => m (by rw [e1, z]; exact List.mem_cons_self)) ⟨a, vs ++ [V.ref p], qs ++ [p], rfl, rfl, upd_same, pt3, nd2⟩ (fun x m => ?_) fun j hj x m m2 => ?_
      · rw [set_none h1] at this
        exact o.nx B' _ _ _ st.b this q
      · rcases List.mem_cons.mp m with em | m
        · rw [em]
          exact ⟨(own a List.mem_cons_self).1, (own a List.mem_cons_self).2.1, _, upd_same, rfl⟩
        · rcases List.mem_append.mp m with m | m
          · have := own x (List.mem_cons_of_mem _ m)
            exact ⟨this.1, this.2.1, still x this.2.2⟩
          · rw [List.mem_singleton.mp m]
            exact ⟨e.h0.free hp, bp, still p ⟨_, hw, rfl⟩⟩
      · rcases List.mem_cons.mp m with em | m
        · exact hj (P.sep j i x m2 (by rw [e1, em]; exact List.mem_cons_self))
        · rcases List.mem_append.mp m with m | m
          · exact hj (P.sep j i x m2 (by rw [e1]; exact List.mem_cons_of_mem _ m))
          · obtain ⟨_, _, o, z, _⟩ := P.new j x m2
            rw [List.mem_singleton.mp m, hp] at z
            cases z
  · subst er
    exact o.ex n B δ σ H' (Same.refl _) (e.stp ⟨Same.refl _, s, e.bh.trans s, fun a o z => .inl ⟨o, z⟩⟩) q
end
end
end DY
namespace DY
open PySem PySem.Spec PyProof.Rows L2
section
variable [NM]
/-! ### further changes of a list of the def's own -/
def dClr (i : Nat) : Ds := fun E δ => ∃ ds, δ[i]? = some (.own ds) ∧ E.nx (δ.set i (.own []))
def dExt (i : Nat) (f : Fx) : Ds := fun E δ => ∃ ds r, δ[i]? = some (.own ds) ∧ getR f δ r ∧ onR r (fun d => ∃ es, d = .lst es ∧ ds.length + es.length ≤ 90000 ∧ E.nx (δ.set i (.own (ds ++ es)))) (fun n => E.ex n δ)
def dIns (i : Nat) (fk f : Fx) : Ds := fun E δ => ∃ ds z r, δ[i]? = some (.own ds) ∧ getR f δ r ∧ fk (vis δ) = some z ∧ onR z (fun k => onR r (fun d => ∃ j : Nat, k = .int j ∧ j ≤ 90000 ∧ ds.length < 90000 ∧ E.nx (δ.set i (.own (ds.take j ++ [d] ++ ds.drop j)))) (fun n => E.ex n δ)) (fun n => E.ex n δ)
section
variable {G : Gd} {W : WX} {X : Cx}
theorem pd_clr {i : Nat} {x : Expr} {apos cpos pos : Pos} (hx : PE X x (tVar i)) (hbase : attributeBase x "clear" X.env (eval x X.env) = eval x X.env := by rfl) (hline : (apos.endLine == cpos.line) = true := by rfl) (hsw : swapsWith (.Call (.Attribute x "clear" apos) [] [] cpos) none pos.line X.env = pure false := by rfl) :
    PS X (.Expr (.Call (.Attribute x "clear" apos) [] [] cpos) pos) (tsD G W (dClr i)) :=
  (ps_expr (pe_bm0 PySem.F.plainAttrs_list PySem.F.slot_list_clear PySem.F.type_list_clear mt_clear hx hbase hline) hsw).impD fun Dn σ H ⟨B0, H0, B, δ, E, e, ⟨ds, hi, q⟩, o⟩ => by
  obtain ⟨a, vs, h1, h2, h3, h4, h5⟩ := e.own i ds hi
  exact ⟨.ref a, h1, .inl ⟨rfl, vs, SqL.of h4⟩, a, vs, rfl, rfl, h4, o.nx B _ _ _ (Same.refl _) (e.change hi h1 .nil) q⟩
theorem pd_ext {i : Nat} {x e : Expr} {apos cpos pos : Pos} {f : Fx} (hx : PE X x (tVar i)) (he : PE X e (teD G W f)) (hbase : attributeBase x "extend" X.env (eval x X.env) = eval x X.env := by rfl)
    (hfew : ((backTo cpos (starEach [e] X.env)).all (fun x => !x.1) && (backToKw cpos (keywordEach [] X.env)).all (fun x => x.1.isSome) && decide (([e] : List Expr).length + ([] : List Keyword).length + (if ([] : List Keyword).isEmpty then 0 else 1) < 30)) = true := by rfl)
    (hline : (apos.endLine == cpos.line) = true := by rfl) (hs : starEach [e] X.env = (false, eval e X.env) :: starEach [] X.env := by rfl) (hsw : swapsWith (.Call (.Attribute x "extend" apos) [e] [] cpos) none pos.line X.env = pure false := by rfl) :
    PS X (.Expr (.Call (.Attribute x "extend" apos) [e] [] cpos) pos) (tsD G W (dExt i f)) :=
  (ps_expr (pe_bm PySem.F.plainAttrs_list PySem.F.slot_list_extend PySem.F.type_list_extend mt_extend hx (pa_cons he pa_nil hs) hbase hfew hline hs rfl) hsw).impD fun Dn σ H ⟨B0, H0, B, δ, E, e, ⟨ds, r, hi, g, q⟩, o⟩ => by
  obtain ⟨a, vs, h1, h2, h3, h4, h5⟩ := e.own i ds hi
  refine ⟨.ref a, h1, .inl ⟨rfl, vs, SqL.of h4⟩, run_e e g (fun n er H' st => ?_) fun v d B' H' ed st rp _ => ?_⟩
  · subst er
    exact o.ex n B δ σ H' (Same.refl _) (e.stp st) q
  · obtain ⟨es, rfl, hl, q'⟩ := onR_val q ed
    cases rp with
    | lst hb rl =>
      refine ⟨a, _, vs, _, rfl, rfl, st.h _ _ h4, st.s _ _ hb, le_line (by rw [h5.length, rl.length]; omega), ?_⟩
      exact o.nx B' _ _ _ st.b ((e.stp st).change hi h1 ((h5.mono st.b).append rl)) q'
theorem pd_ins {i : Nat} {x k e : Expr} {apos cpos pos : Pos} {fk f : Fx} (hx : PE X x (tVar i)) (hk : PE X k (teD G W fk)) (he : PE X e (teD G W f)) (hbase : attributeBase x "insert" X.env (eval x X.env) = eval x X.env := by rfl)
    (hfew : ((backTo cpos (starEach [k, e] X.env)).all (fun x => !x.1) && (backToKw cpos (keywordEach [] X.env)).all (fun x => x.1.isSome) && decide (([k, e] : List Expr).length + ([] : List Keyword).length + (if ([] : List Keyword).isEmpty then 0 else 1) < 30)) = true := by rfl)
    (hline : (apos.endLine == cpos.line) = true := by rfl) (hs : starEach [k, e] X.env = (false, eval k X.env) :: starEach [e] X.env := by rfl) (hs2 : starEach [e] X.env = (false, eval e X.env) :: starEach [] X.env := by rfl) (hpl : (backTo cpos (starEach [e] X.env)).any (·.1) = false := by rfl) (hsw : swapsWith (.Call (.Attribute x "insert" apos) [k, e] [] cpos) none pos.line X.env = pure false := by rfl) :
    PS X (.Expr (.Call (.Attribute x "insert" apos) [k, e] [] cpos) pos) (tsD G W (dIns i fk f)) :=
  (ps_expr (pe_bm PySem.F.plainAttrs_list PySem.F.slot_list_insert PySem.F.type_list_insert mt_insert hx (pa_cons hk (pa_cons he pa_nil hs2) hs) hbase hfew hline hs hpl) hsw).impD fun Dn σ H ⟨B0, H0, B, δ, E, e, ⟨ds, z, r, hi, g, gk, q⟩, o⟩ => by
  obtain ⟨a, vs, h1, h2, h3, h4, h5⟩ := e.own i ds hi
  refine ⟨.ref a, h1, .inl ⟨rfl, vs, SqL.of h4⟩, run_e e (.inl gk) (fun n er H' st => ?_) fun v d B' H' ed st rp _ => ?_⟩
  · subst er
    exact o.ex n B δ σ H' (Same.refl _) (e.stp st) q
  · have q1 := onR_val q ed
    have e1 := e.stp st
    refine run_e e1 g (fun n er H2 st2 => ?_) fun v2 d2 B2 H2 ed2 st2 rp2 _ => ?_
    · subst er
      exact o.ex n B' δ σ H2 st.b (e1.stp st2) q1
    · obtain ⟨j, rfl, hj, hl, q2⟩ := onR_val q1 ed2
      cases rp
      refine ⟨a, vs, (j : Int), v2, rfl, rfl, st2.h _ _ (st.h _ _ h4), lt_line (by rw [h5.length]; omega), by omega, by omega, ?_⟩
      have r5 := (h5.mono st.b).mono st2.b
      refine o.nx B2 _ _ _ (st.b.trans st2.b) ((e1.stp st2).change hi h1 ?_) q2
      rw [Int.toNat_natCast]
      exact ((r5.take j).append (.cons rp2 .nil)).append (r5.drop j)
end
end
end DY
namespace DY
open PySem PySem.Spec PyProof.Rows L2
section
variable [NM]
/-! ### list(range(n)) -/
def oRg : D → Option R
  | .int n => if -1000000 ≤ n ∧ n ≤ 90000 then some (.nw (rngD 0 n.toNat)) else none
  | _ => none
section
variable {G : Gd} {W : WX} {X : Cx}
theorem repL_rng {B : Hp} (f : Nat → Int) : ∀ l : List Nat, RepL G B (l.map fun i => V.int (f i)) (l.map fun i => D.int (f i))
  | [] => .nil
  | _ :: l => .cons .int (repL_rng f l)
theorem pd_listRg {e : Expr} {p p2 pos pos2 : Pos} {f : Fx} (hc : X.calm = true) (hg : Gl X "list") (hm : X.mg "list" = none) (hg2 : Gl X "range") (hm2 : X.mg "range" = none) (he : PE X e (teD G W f)) (n1 : starEach [e] X.env = (false, eval e X.env) :: starEach [] X.env := by rfl)
    (n2 : starEach [.Call (.Name "range" p2) [e] [] pos2] X.env = (false, eval (.Call (.Name "range" p2) [e] [] pos2) X.env) :: starEach [] X.env := by rfl) :
    PE X (.Call (.Name "list" p) [.Call (.Name "range" p2) [e] [] pos2] [] pos) (teD G W (f1 oRg f)) :=
  (pe_listRg hc hg hm (prg_1 hg2 hm2 he n1) n2).impD fun σ H Q ⟨B, ε, z, hs, he, hf, hq, hx⟩ => by
    refine te_bind hs he hf hx fun d v B1 H1 st e1 rp hk => ?_
    unfold oRg at hk
    split at hk
    · rename_i n
      split at hk
      · rename_i hc
        cases hk
        cases rp
        refine ⟨n, rfl, ⟨by omega, by omega, by omega, by omega, by omega⟩, fun q hq0 => ?_⟩
        refine hq _ B1 _ (st.trans (Stp.hid st.s hq0)) ((res_new st.s hq0 ?_).back st.h)
        unfold rgV rngD
        rw [Int.sub_zero]
        exact repL_rng _ _
      · cases hk
    · cases hk
end
end
end DY
namespace DY
open PySem PySem.Spec PyProof.Rows L2
section
variable [NM]
/-! ### what the top has written, in short -/
abbrev gd (K : PySem.W.Frag) (A : Nat → Addr) : Gd := ⟨K, fun n => A (2 * n), fun i => A (2 * i + 1)⟩
structure Cl (P : Program) (w : World) (K : PySem.W.Frag) (mg : Str → Option Value) (base : Heap) (A : Nat → Addr) (x : Str) (k : Nat) (F : List D → Option R) : Prop where
  ex : ∃ (f : Addr) (fd : FuncData) (ps : List Str), FnOk P w K mg base (L2.CX P w) k f fd ps (spD (gd K A) F) ∧ mg x = some (.ref f) ∧ PySem.W.keepIn K (.ref f) = true ∧ Binds K fd ps []
structure ErrOk (K : PySem.W.Frag) (mg : Str → Option Value) (A : Nat → Addr) (n : Nat) (x : Str) : Prop where
  g : mg x = some (.ref (A (2 * n)))
  q : PySem.W.excIn K (A (2 * n)) [.type "ValueError", .type "Exception", .type "BaseException", .type "object"] "ValueError.__new__" = true
  k : PySem.W.keepIn K (.ref (A (2 * n))) = true
  b : PySem.W.subIn K (.ref (A (2 * n))) (.type "BaseException") = some true
  t : PySem.W.typeIn K (.ref (A (2 * n))) = some (.type "type")
structure IsOk (K : PySem.W.Frag) (mg : Str → Option Value) (A : Nat → Addr) (tab : Nat → Option Bool) (y : Str) : Prop where
  ex : ∃ C : Addr, mg y = some (.ref C) ∧ ∀ n b, tab n = some b → ExcC K (A (2 * n)) ∧ PySem.W.kitOne K (.ref (A (2 * n))) (.ref C) = some b
structure IsTyOk (K : PySem.W.Frag) (A : Nat → Addr) (tab : Nat → Option Bool) (T : String) : Prop where
  h : ∀ n b, tab n = some b → ExcC K (A (2 * n)) ∧ PySem.W.kitOne K (.ref (A (2 * n))) (.type T) = some b
section
variable {W : WX} {X : Cx} {A : Nat → Addr}
theorem pd_cl {x : Str} {k j : Nat} {F : List D → Option R} {e : Expr} {es : List Expr} {p pos : Pos} {fs : List Fx} (c : Cl X.prog X.w X.K X.mg X.base A x k F) (tk : Takes X W) (hr : Room j X.A) (hk : k ≤ j) (hg : Gl X x) (ha : PA X (e :: es) (taD (gd X.K A) W fs)) (hdb : (x == ("__debug__" : Str)) = false := by decide)
    (hs : starEach (e :: es) X.env = (false, eval e X.env) :: starEach es X.env := by rfl) (hpl : (backTo pos (starEach es X.env)).any (·.1) = false := by rfl) : PE X (.Call (.Name x p) (e :: es) [] pos) (teD (gd X.K A) W (fA F fs)) := by
  obtain ⟨f, fd, ps, FO, hm, kp, hb⟩ := c.ex
  exact pd_call tk FO (hr.mono hk) hg hm kp hb ha hdb hs hpl
theorem pd_err {x m : Str} {j n : Nat} {p p2 pos pos2 : Pos} (e : ErrOk X.K X.mg A n x) (hc : X.calm = true) (tk : Takes X W) (hg : Gl X x) (hdb : (x == ("__debug__" : Str)) = false := by decide) :
    PS X (.Raise (some (.Call (.Name x p) [.Constant (.str m) j p2] [] pos)) none pos2) (tsD (gd X.K A) W (dRaise n)) :=
  pd_raise (G := gd X.K A) hc tk PySem.F.excBase_ValueError e.q e.g e.k (raises_own e.b e.t) hg hdb
theorem pd_isC {e : Expr} {y : Str} {tab : Nat → Option Bool} {p p2 pos : Pos} {f : Fx} (i : IsOk X.K X.mg A tab y) (hg : Gl X "isinstance") (hm : X.mg "isinstance" = none) (hgy : Gl X y) (he : PE X e (teD (gd X.K A) W f)) (hdb : (y == ("__debug__" : Str)) = false := by decide)
    (hs : starEach [e, .Name y p2] X.env = (false, eval e X.env) :: starEach [.Name y p2] X.env := by rfl) (hs2 : starEach [.Name y p2] X.env = (false, eval (.Name y p2) X.env) :: starEach [] X.env := by rfl) (hpl : (backTo pos (starEach [.Name y p2] X.env)).any (·.1) = false := by rfl) :
    PE X (.Call (.Name "isinstance" p) [e, .Name y p2] [] pos) (teD (gd X.K A) W (f1 (oIsX tab) f)) := by
  obtain ⟨C, hy, ht⟩ := i.ex
  exact pd_isX (G := gd X.K A) hg hm he (pe_glob hgy hy (v := .ref C) rfl hdb) (fun u r => r) ht hs hs2 hpl rfl
theorem pd_isV {e : Expr} {y : Str} {T : String} {tab : Nat → Option Bool} {p p2 pos : Pos} {f : Fx} (i : IsTyOk X.K A tab T) (hg : Gl X "isinstance") (hm : X.mg "isinstance" = none) (hgy : Gl X y) (hmy : X.mg y = none) (hvy : bootBuiltins y = some (.type T)) (he : PE X e (teD (gd X.K A) W f)) (hn : y ≠ "__name__" := by decide) (hdb : (y == ("__debug__" : Str)) = false := by decide)
    (hs : starEach [e, .Name y p2] X.env = (false, eval e X.env) :: starEach [.Name y p2] X.env := by rfl) (hs2 : starEach [.Name y p2] X.env = (false, eval (.Name y p2) X.env) :: starEach [] X.env := by rfl) (hpl : (backTo pos (starEach [.Name y p2] X.env)).any (·.1) = false := by rfl) :
    PE X (.Call (.Name "isinstance" p) [e, .Name y p2] [] pos) (teD (gd X.K A) W (f1 (oIsX tab) f)) :=
  pd_isX (G := gd X.K A) hg hm he (pe_bltn hgy hmy hvy (v := .ty T) rfl hn hdb) (fun u r => r) i.h hs hs2 hpl rfl
theorem pd_glI {x : Str} {i : Int} {pos : Pos} (hg : Gl X x) (hm : ∃ t, X.mg x = some (.int i t)) (hd : (x == ("__debug__" : Str)) = false := by decide) : PE X (.Name x pos) (teD (gd X.K A) W (fC (.int i))) := by
  obtain ⟨t, hm⟩ := hm
  exact pd_c (pe_glob hg hm (v := .int i) ⟨_, rfl⟩ hd) fun _ => .int
end
end
end DY
namespace DY
open PySem PySem.Spec PyProof.Rows L2
section
variable [NM]
section
variable {G : Gd} {W : WX} {X : Cx}
/-! ### great powers -/
def CPowW (i j : Int) : Prop := 0 ≤ j ∧ (Builtin.Int.intBits i : Int) * j ≤ 2 ^ 27
instance (i j : Int) : Decidable (CPowW i j) := by unfold CPowW; infer_instance
theorem op_powW : OpR X (binaryOp .Pow) (rI CPowW fun i j => .int (i ^ j.toNat)) := by
  intro pins s σ H x y u v Q I rx ry h
  obtain ⟨i, j, rfl, rfl, hc, q⟩ := h
  obtain ⟨t, rfl⟩ := rx
  obtain ⟨t', rfl⟩ := ry
  exact pow_int hc.1 hc.2 ⟨.int _, H, I.tok _, ⟨_, rfl⟩, q⟩
def oPowW : D → D → Option R
  | .int i, .int j => if CPowW i j then some (.ok (.int (i ^ j.toNat))) else none
  | _, _ => none
theorem op2_powW : Op2 G (rI CPowW fun i j => .int (i ^ j.toNat)) oPowW := two_I fun x y z h => by
  unfold oPowW at h
  split at h
  · split at h
    · rename_i hc
      cases h
      exact ⟨_, _, rfl, rfl, hc, rfl⟩
    · cases h
  · cases h
/-! ### targets of an assignment -/
def dAsgT (t : Tg) (f : Fx) : Ds := fun E δ => ∃ r, getR f δ r ∧ onR r (fun d => ∃ ds, t.put d = some ds ∧ E.nx (setsS δ t.ix ds)) (fun n => E.ex n δ)
theorem pd_asgT {tg e : Expr} {pos : Pos} {t : Tg} {f : Fx} (hg : PGd X G tg t) (he : PE X e (teD G W f)) (hs : swapsWithSole [tg] e pos.line X.env = pure false := by rfl) (hw : swappedStores [tg] e X.env = pure none := by rfl) (h1 : (assignEach [tg] X.env).map (·.2) = [assign tg X.env] := by rfl) (hK : X.K = G.K := by rfl) : PS X (.Assign [tg] e pos) (tsD G W (dAsgT t f)) :=
  (ps_asg he (hg.pg hK) hs hw h1).impD fun D σ H ⟨B0, H0, B, δ, E, e, ⟨r, g, q⟩, o⟩ => by
    refine run_e e g (fun n er H' st => ?_) fun v d B' H' ed st rp _ => ?_
    · subst er
      exact o.ex n B δ σ H' (Same.refl _) (e.stp st) q
    · obtain ⟨ds, hp, q'⟩ := onR_val q ed
      exact tg_ok st.s rp hp fun vs rl hl => o.nx B' _ _ H' st.b ((e.stp st).sets rl) q'
/-! ### sorted(set(xs)) of ints that rise -/
def oSortedSet : D → Option R
  | .lst ds => (toInts ds).bind fun ns => if ns.Pairwise (· < ·) ∧ ns.length ≤ 4000 then some (.nw ds) else none
  | _ => none
end
end
end DY
namespace DY
open PySem PySem.Spec PyProof.Rows L2
/-! ### lambdas: made, called -/
section
variable [NM] {G : Gd} {W : WX} {X : Cx} {σ : L2.St} {B H H2 : Hp} {s : Shared} {pins : List (Addr × Obj)}
theorem step_lam {f c : Addr} {k : Nat} (hs : Same B H) (hH : Same H H2) (hc : Fre H c) (hB : ∀ o, B c = some o → o = LamX.CodeO c (NM.L k).qual) (hf : H f = none) (e1 : H2 c = some (LamX.CodeO c (NM.L k).qual)) (e2 : H2 f = some (LamO f k c)) :
    ∃ B2, Stp B H B2 H2 ∧ Rep G B2 (.ref f) (.fn k) := by
  have fc : f ≠ c → upd (upd B c (LamX.CodeO c (NM.L k).qual)) f (LamO f k c) c = some (LamX.CodeO c (NM.L k).qual) := fun n => by
    rw [upd_ne (Ne.symm n), upd_same]
  have bf : B f = none := hs.free hf
  by_cases n : f = c
  · subst n
    rw [e1] at e2
    have z : LamX.CodeO f (NM.L k).qual = LamO f k f := Option.some.inj e2
    refine ⟨upd B f (LamO f k f), ⟨same_new bf, hH, fun b o q => ?_, fun b o q => ?_⟩, .fn upd_same (by rw [z]; exact upd_same)⟩
    · by_cases hb : b = f
      · rw [hb, upd_same] at q
        cases q
        rw [hb, ← z]
        exact .of e1
      · rw [upd_ne hb] at q
        exact (hs.trans hH) b o q
    · by_cases hb : b = f
      · exact .inr (.inl (hb ▸ hf))
      · rw [upd_ne hb] at q
        exact .inl ⟨o, q⟩
  · refine ⟨upd (upd B c (LamX.CodeO c (NM.L k).qual)) f (LamO f k c), ⟨.of fun b o q => ?_, hH, fun b o q => ?_, fun b o q => ?_⟩, .fn upd_same (fc n)⟩
    · rw [upd_ne (ne_of_none q bf)]
      by_cases hb : b = c
      · rw [hb] at q ⊢
        rw [upd_same, hB o q]
      · rw [upd_ne hb]
        exact q
    · by_cases hb : b = f
      · rw [hb, upd_same] at q
        cases q
        rw [hb]
        exact .of e2
      · rw [upd_ne hb] at q
        by_cases hb2 : b = c
        · rw [hb2, upd_same] at q
          cases q
          rw [hb2]
          exact .of e1
        · rw [upd_ne hb2] at q
          exact (hs.trans hH) b o q
    · by_cases hb : b = f
      · exact .inr (.inl (hb ▸ hf))
      · rw [upd_ne hb] at q
        by_cases hb2 : b = c
        · exact .inr (hb2 ▸ hc)
        · rw [upd_ne hb2] at q
          exact .inl ⟨o, q⟩
/-- the function object, just made, is known from here on -/
theorem inv_lam {k : Nat} {c : Addr} {pm ctv : Value} {tk : Nat} (I : Inv X pins σ H s) :
    Inv X pins σ (upd H s.heap.objs.size (LamO s.heap.objs.size k c)) { s with heap := s.heap.push (PySem.W.kla_obj "<lambda>" (NM.L k).qual (NM.L k).params (NM.L k).body (NM.L k).scope [] pm c ctv), toks := tk } := by
  have at_ : (s.heap.push (PySem.W.kla_obj "<lambda>" (NM.L k).qual (NM.L k).params (NM.L k).body (NM.L k).scope [] pm c ctv)).get? s.heap.objs.size = some (PySem.W.kla_obj "<lambda>" (NM.L k).qual (NM.L k).params (NM.L k).body (NM.L k).scope [] pm c ctv) := Heap.get?_push_size _ rfl
  exact I.laid (a := s.heap.objs.size) (fun b u e => Heap.get?_push_of_some _ e) (Nat.le_refl _) ⟨⟨pm, ctv, at_⟩, ⟨_, at_⟩, fun h1 h2 z st => by
    obtain ⟨p, t, z⟩ := z
    exact ⟨p, t, st _ z⟩⟩
/-- lambda ..: .. in a def whose code object stands at c with its table at P -/
theorem pd_lam {k i : Nat} {c : Addr} {params : Arguments} {body : Expr} {scope : Scope} {pos : Pos} (TB : LamX.TabB X.base X.mg c (G.T i)) (hi : i < NM.nt) (hcode : X.env.code = .ref c) (hL : NM.L k = ⟨X.env.qual ++ "<lambda>", params, body, scope⟩) (hn : NM.nm pos.line pos.col = X.env.qual ++ "<lambda>")
    (hdef : defaultsOf params X.env = ([], [])) (hfree : ∀ y ∈ scope.names, y.2 ≠ .free) (h0 : cloFrom X.env.cells scope.names [] = []) : PE X (.Lambda params body scope pos) (teD G W (fC (.fn k))) := by
  refine ⟨fun pins s σ H Q I hh => ?_⟩
  obtain ⟨B, ε, r, hs, he, hf, hq, _⟩ := hh
  cases hf
  obtain ⟨ps, hP, gd⟩ := he.tab.mono hs i hi
  have q0 : (NM.L k).qual = X.env.qual ++ "<lambda>" := by rw [hL]
  have q1 : (NM.L k).params = params := by rw [hL]
  have q2 : (NM.L k).body = body := by rw [hL]
  have q3 : (NM.L k).scope = scope := by rw [hL]
  have cl : closureFor scope X.env = pure [] := by
    rw [← h0]
    exact closure_ok fun y hy e => absurd e (hfree y hy)
  refine PySem.W.kla_eval hdef ?_
  have bP := TB.bm.keeps I.bk
  have hP' : s.heap.get? (G.T i) = some { cls := .none, data := .fields ps } := I.hok _ _ hP
  cases hc : codeAmong pos ps.toList with
  | none =>
    refine PySem.W.kla_makeFunction cl I.ok.glob (I.mod.glob.keeps I.bk) hcode (TB.code.keeps I.bk) hP' gd.1 hc TB.gP bP fun c' ctv h' tk hx hge hlt hrec htb => ?_
    obtain ⟨c2, oc, vs, t, e2, hoc, hd, hv⟩ := hrec
    cases e2
    have nC : H c' = none := I.hok.fresh hge
    have I1 := LamX.inv_table (t' := tk) (more := #[rawInt pos.line, rawInt pos.col, .ref c']) (h' := h') I hP hx htb hge ⟨oc, vs, t, hoc, hd, hv⟩
    have nF := I1.hok.fresh (Nat.le_refl _)
    have I2 := inv_lam (k := k) (c := c') (pm := (X.mg "__name__").getD .none) (ctv := ctv) (tk := tk) I1
    -- what the heap is now
    have e1 : upd (upd H (G.T i) (.tbl (ps ++ #[rawInt pos.line, rawInt pos.col, .ref c']))) c' (LamX.CodeO c' (X.env.qual ++ "<lambda>")) c' = some (LamX.CodeO c' (X.env.qual ++ "<lambda>")) := upd_same
    have nP : G.T i ≠ c' := ne_of_none hP nC
    generalize hH1 : upd (upd H (G.T i) (.tbl (ps ++ #[rawInt pos.line, rawInt pos.col, .ref c']))) c' (LamX.CodeO c' (X.env.qual ++ "<lambda>")) = H1 at e1 nF I2
    have keep : ∀ b o, H b = some o → b ≠ G.T i → H1 b = some o := fun b o e n => by
      rw [← hH1, upd_ne (ne_of_none e nC), upd_ne n]
      exact e
    have keepX : ∀ b φ, H b = some (.ext φ) → H1 b = some (.ext φ) := fun b φ e => keep b _ e fun z => by
      rw [z, hP] at e
      cases e
    have atP : H1 (G.T i) = some (.tbl (ps ++ #[rawInt pos.line, rawInt pos.col, .ref c'])) := by
      rw [← hH1, upd_ne nP, upd_same]
    have good : GoodT H1 (ps ++ #[rawInt pos.line, rawInt pos.col, .ref c']) := by
      have eL : (ps ++ #[rawInt pos.line, rawInt pos.col, .ref c']).toList = ps.toList ++ [rawInt pos.line, rawInt pos.col, .ref c'] := by simp
      unfold GoodT
      rw [eL]
      refine ⟨PySem.TriplesOk_snoc _ _ _ _ gd.1, fun p2 cv z => ?_⟩
      rcases NdefX.among_app2 _ gd.1 z with z | ⟨z, z1, z2⟩
      · obtain ⟨c0, a1, a2⟩ := gd.2 p2 cv z
        exact ⟨c0, a1, keepX _ _ a2⟩
      · refine ⟨c', z, ?_⟩
        rw [← z1, ← z2, hn]
        exact e1
    have s1 : Same H H1 := fun b o e => by
      by_cases hb : b = G.T i
      · subst hb
        rw [hP] at e
        cases e
        exact ⟨_, atP, .inr good⟩
      · exact .of (keep b o e hb)
    have s2 : Same H (upd H1 h'.objs.size (LamO h'.objs.size k c')) := s1.trans (same_new nF)
    have fF : h'.objs.size ≠ c' := Nat.ne_of_gt hlt
    obtain ⟨B2, st, rp⟩ := step_lam (G := G) (f := h'.objs.size) (c := c') (k := k) hs s2 (.inl nC) (fun o z => by
      rw [hs.free nC] at z
      cases z) (s1.free nF) (by rw [upd_ne (Ne.symm fF), q0]; exact e1) upd_same
    rw [q0, q1, q2, q3] at I2
    exact ⟨.ref h'.objs.size, _, I2, rfl, hq _ B2 _ st rp⟩
  | some cv =>
    obtain ⟨c', e, hco⟩ := gd.2 pos cv hc
    subst e
    rw [hn] at hco
    refine PySem.W.kla_makeFunctionHit cl I.ok.glob (I.mod.glob.keeps I.bk) hcode (TB.code.keeps I.bk) hP' gd.1 hc bP fun ctv h' tk hx hsz => ?_
    have I1 : Inv X pins σ H { s with heap := h', toks := tk } := I.kept hx
    have nF : H h'.objs.size = none := I1.hok.fresh (Nat.le_refl _)
    have I2 := inv_lam (k := k) (c := c') (pm := (X.mg "__name__").getD .none) (ctv := ctv) (tk := tk) I1
    have cF : c' ≠ h'.objs.size := ne_of_none hco nF
    obtain ⟨B2, st, rp⟩ := step_lam (G := G) (f := h'.objs.size) (c := c') (k := k) hs (same_new (o := LamO h'.objs.size k c') nF) (.inr ⟨_, hco⟩) (fun o z => by
      have w := hs _ _ z
      cases o with
      | tbl ps =>
        obtain ⟨p, w, _⟩ := w
        rw [hco] at w
        cases w
      | _ =>
        have w : H c' = some _ := w
        rw [hco] at w
        rw [q0]
        exact (Option.some.inj w).symm) nF (by rw [upd_ne cF, q0]; exact hco) upd_same
    rw [q0, q1, q2, q3] at I2
    exact ⟨.ref h'.objs.size, _, I2, rfl, hq _ B2 _ st rp⟩
/-! ### the call -/
/-- what the lambdas promise, by their numbers -/
structure LOk (G : Gd) (P : Program) (w : World) (K : PySem.W.Frag) (mg : Str → Option Value) (base : Heap) (j : Nat) (ap : Nat → List D → Option R) : Prop where
  run : ∀ (k : Nat) (f c : Addr) (A : Around) (outer : List Env) (s : Shared) (H : Hp) (us : List Value) (vs : List V) (Q : VK) (E : XK), Room j A → Env0 P w K mg base A outer s H → H f = some (LamO f k c) → H c = some (LamX.CodeO c (NM.L k).qual) → Vals vs us → spD G (ap k) vs H Q E →
    codeAny (model P w) A (.call (.ref f) ⟨us, []⟩) (CR (L2.CX P w) outer P w H s Q E) s
/-- the lambda's data: its parameters are the first slots -/
def apF (n : Nat) (f : Fx) : List D → Option R := fun ds => if ds.length = n then f (ds.map some) else none
theorem lam_run {P : Program} {w : World} {K : PySem.W.Frag} {mg : Str → Option Value} {base : Heap} {A0 T0 : Nat → Addr} {j k : Nat} {ps : List Str} {fx : Fx} (S : NdefX.NScope ps ps [] (NM.L k).scope)
    (hb : ∀ (pm cv ctv : Value) (us : List Value), us.length = ps.length → bindArgs (PySem.W.kla_fn "<lambda>" (NM.L k).qual (NM.L k).params (NM.L k).body (NM.L k).scope [] pm cv ctv) ⟨us, []⟩ = pure (ps.zip us))
    (hbody : ∀ (F : NdefX.NF) (f : Addr) (A : Around) (outer : List Env) (s : Shared) (H : Hp) (E : XK), F.scope = (NM.L k).scope → F.cl = [] → Room j (A.deeper (NdefX.envF F f s.heap.objs.size)) → PE (NdefX.ncx (L2.CX P w) P w K mg base ps F f A outer s H E) (NM.L k).body (teD ⟨K, A0, T0⟩ W0 fx)) (ne : ∀ ε n, fx ε ≠ some (.ex n))
    {f c : Addr} {A : Around} {outer : List Env} {s : Shared} {H : Hp} {us : List Value} {vs : List V} {Q : VK} {E : XK} (hr : Room (j + 1) A) (e0 : Env0 P w K mg base A outer s H) (hf : H f = some (LamO f k c)) (hc : H c = some (LamX.CodeO c (NM.L k).qual)) (r : Vals vs us) (hsp : spD ⟨K, A0, T0⟩ (apF ps.length fx) vs H Q E) :
    codeAny (model P w) A (.call (.ref f) ⟨us, []⟩) (CR (L2.CX P w) outer P w H s Q E) s := by
  obtain ⟨B, ds, z, hs, tb, rl, hF, hq, _⟩ := hsp
  unfold apF at hF
  split at hF
  case isFalse => cases hF
  rename_i hl
  have lvs : vs.length = ps.length := rl.length.trans hl
  have lim : s.heap.NoLimit := e0.mod.nolimit.keeps fun b o e => (e0.bs b o e).1
  obtain ⟨⟨pm, ctv, ho⟩, _, _⟩ := e0.hok f _ hf
  refine PySem.W.kla_callFunE hr.depth ho rfl S.co S.gen rfl (NdefX.codeO_at e0.hok hc) ?_
  rw [hb pm (.ref c) ctv us (by rw [← r.length]; exact lvs)]
  refine wpAny_pure (wpAny_newFunctionEnv S.nocell (fun x hx => S.par x.1 (List.of_mem_zip hx).1) (fun h₁ hns hsb => ⟨lim.fresh _ hsb, ?_⟩) S.kind)
  have kp : ∀ b o, s.heap.get? b = some o → h₁.get? b = some o := fun b o e => hsb.extBut b o (Nat.ne_of_lt (Heap.lt_size e)) (Heap.get?_push_of_some _ e)
  have I : Inv (NdefX.ncx (L2.CX P w) P w K mg base ps ⟨"<lambda>", (NM.L k).qual, (NM.L k).params, [], (NM.L k).scope, [], c⟩ f A outer s H E) [] (NdefX.startF ps vs []) H { s with heap := h₁, toks := s.toks + (ps.zip us).length } :=
    NdefX.inv_startN S hr.hd e0 lvs r ⟨rfl, fun y c e => (by cases e), fun x y c e => (by cases e), fun i y e => (by cases e)⟩ hns kp
  have en : EnvD ⟨K, A0, T0⟩ B (NdefX.startF ps vs []) (ds.map some) := by
    refine ⟨tb, ?_, fun i d q => ?_⟩
    · unfold NdefX.startF
      rw [List.length_map, List.length_append, List.length_map, List.length_append, List.length_replicate, List.length_nil]
      omega
    · rw [List.getElem?_map] at q
      obtain ⟨d', q1, q2⟩ := Option.map_eq_some_iff.mp q
      cases q2
      obtain ⟨v, q3, q4⟩ := rl.get q1
      refine ⟨v, ?_, q4⟩
      unfold NdefX.startF
      rw [List.getElem?_append_left (by rw [List.length_map]; exact (List.getElem?_eq_some_iff.mp q3).1), List.getElem?_map, q3] <;> rfl
  have ht : teD ⟨K, A0, T0⟩ W0 fx (NdefX.startF ps vs []) H Q := ⟨B, ds.map some, z, hs, en, hF, hq, fun n e => by
    subst e
    exact absurd hF (ne _ n)⟩
  refine PySem.W.kla_codeExpr (wpAny_mono ((hbody _ f A outer s H E rfl rfl (hr.deeper _)).run [] _ _ H Q I ht) (fun v s' h => ?_) fun e s' h => h)
  obtain ⟨w', H', J, rv, q⟩ := h
  exact ⟨w', H', J.os, J.bare, J.base, J.hok, rv, q⟩
/-- x(..), x a name that holds a lambda -/
def fApp (i : Nat) (ap : Nat → List D → Option R) (fs : List Fx) : Fx := fun ε => match ε[i]? with
  | some (some (.fn k)) => fA (ap k) fs ε
  | _ => none
theorem pd_app1 {ap : Nat → List D → Option R} {j i : Nat} {x : Str} {e : Expr} {es : List Expr} {p pos : Pos} {fs : List Fx} (lo : LOk G X.prog X.w X.K X.mg X.base j ap) (hr : Room j X.A) (hN : X.N[i]? = some x) (hv : Vis X.env.scope x) (ha : PA X (e :: es) (taD G W fs)) (ne : ∀ k ds n, ap k ds ≠ some (.ex n))
    (hd : (x == ("__debug__" : Str)) = false := by decide) (hcd : (x == ("__classdict__" : Str)) = false := by decide) (he : starEach (e :: es) X.env = (false, eval e X.env) :: starEach es X.env := by rfl) (hpl : (backTo pos (starEach es X.env)).any (·.1) = false := by rfl) :
    PE X (.Call (.Name x p) (e :: es) [] pos) (teD G W (fApp i ap fs)) := by
  refine ⟨fun pins s σ H Q I hh => ?_⟩
  obtain ⟨B, ε, z, hs, en, hf, hq, hx⟩ := hh
  unfold fApp at hf
  split at hf
  case h_2 => cases hf
  rename_i k hk
  obtain ⟨v, hv1, rp⟩ := en.has i _ hk
  cases rp with
  | fn hfn hco =>
    rename_i f c
    have h1 : H f = some (LamO f k c) := hs.ext hfn
    have at_ : ∀ {H' : Hp} {s' : Shared}, Inv X pins σ H' s' → Same H H' → PySem.W.FnAt f s'.heap := fun J sm => by
      obtain ⟨⟨pm, ctv, ho⟩, _, _⟩ := J.hok f _ (sm.ext h1)
      exact ⟨_, _, _, _, ho⟩
    refine wpAny_Call_Name_kw (thn ((pe_var (pos := p) hN hv hd hcd).run pins s σ H (fun v H1 => v = .ref f ∧ H1 = H) I ⟨.ref f, hv1, rfl, rfl⟩) fun u s1 ⟨v, H1, I1, r1, q1⟩ => ?_)
    obtain ⟨ev, eH⟩ := q1
    subst ev
    subst eH
    cases (show u = Value.ref f from r1)
    have hA : taD G W fs σ H1 (fun vs H2 => Same H1 H2 ∧ spD G (ap k) vs H2 (fun v H' => Q v H') fun _ _ _ => False) := ta_bind hs en hf hx fun ds vs B2 H2 st rl hk2 => ⟨st.h, B2, ds, z, st.s, en.tab.mono st.b, rl, hk2, fun v B3 H3 st3 res => hq v B3 H3 (st.trans st3) (res.back st.h), fun n q => by
      subst q
      exact absurd hk2 (ne _ _ _)⟩
    refine PySem.W.callWith_F (first := []) (at_ I1 (Same.refl _)) (thn (ha.run pos pins s1 σ H1 _ I1 hA) fun us s2 ⟨vs, H2, I2, r, sm, q⟩ => ⟨at_ I2 sm, ?_⟩) he hpl
    show wpAny _ _ (call (.ref f) us) _ _ _
    refine wpAny_call (codeAny_mono (lo.run k f c X.A X.stack s2 H2 us vs Q (fun _ _ _ => False) hr I2.env0 (sm.ext h1) (sm.ext (hs.ext hco)) r q) fun r s' hq => ?_)
    cases r with
    | error e => exact passL pins σ H2 s2 e s' I2 hq
    | ok fl =>
      cases fl with
      | ret u => exact I2.after hq
      | next => exact False.elim hq
      | brk => exact False.elim hq
      | cont => exact False.elim hq
end
/-- no lambda -/
def noLT : LT := ⟨"", { posonlyargs := [], args := [], vararg := none, kwonlyargs := [], kw_defaults := [], kwarg := none, defaults := [] }, .Constant .none 0 ⟨0, 0, 0, 0⟩, { kind := .function, names := [], isGenerator := false, isCoroutine := false }⟩
/-- the lambda that a def hands on: return f(.., lambda) -/
def lamIn : Stmt → Expr
  | .FunctionDef (body := [.Return (some (.Call _ [_, e] _ _)) _]) .. => e
  | _ => .Constant .none 0 ⟨0, 0, 0, 0⟩
def LT.of (q : Str) : Expr → LT
  | .Lambda ps b sc _ => ⟨(q ++ ".<locals>.") ++ "<lambda>", ps, b, sc⟩
  | _ => noLT
end DY
namespace DY
open PySem PySem.Spec PyProof.Rows L2
section
variable [NM] {G : Gd} {W : WX} {X : Cx}
/-! ### x *= e -/
def ipM : TIp := fun x y H Q => ∃ i j, x = .int i ∧ y = .int j ∧ CMul i j ∧ Q (.int (i * j)) H
theorem ip_mulM : PIp X .Mult ipM := by
  rintro pins s σ H x y v u Q I r1 r2 ⟨i, j, rfl, rfl, hc, q⟩
  obtain ⟨t, rfl⟩ := r1
  obtain ⟨t', rfl⟩ := r2
  exact imul_int ⟨.int _, H, I.tok _, ⟨_, rfl⟩, q⟩ hc.ok
def dAugM (i : Nat) (f : Fx) : Ds := fun E δ => ∃ a r, δ[i]? = some (.dat (.int a)) ∧ f (pub δ) = some r ∧ onR r (fun d => ∃ b, d = .int b ∧ CMul a b ∧ E.nx (δ.set i (.dat (.int (a * b))))) (fun n => E.ex n δ)
theorem pd_augM {i : Nat} {x : Str} {e : Expr} {pos' pos : Pos} {f : Fx} (hN : X.N.Nodup) (hi : X.N[i]? = some x) (hx : Loc X.env.scope x) (he : PE X e (teD G W f)) (hf : X.fn x = true ∨ X.env.scope.names.lookup x = some .local := by first | exact .inl rfl | exact .inr rfl) :
    PS X (.AugAssign (.Name x pos') .Mult e pos) (tsD G W (dAugM i f)) := (ps_aug hN hi hx he ip_mulM hf).impD fun Dn σ H ⟨B0, H0, B, δ, E, e, ⟨a, r, hi, hf, q⟩, o⟩ => by
  obtain ⟨v, h1, h2⟩ := e.dat i _ hi
  cases h2
  refine ⟨_, h1, run_p e hf (fun n er H' st => ?_) fun v2 d B' H' ed st _ rp => ?_⟩
  · subst er
    exact o.ex n B δ σ H' (Same.refl _) (e.stp st) q
  · obtain ⟨b, rfl, hc, q'⟩ := onR_val q ed
    cases rp
    exact ⟨a, b, rfl, rfl, hc, o.nx B _ _ H' (Same.refl _) ((e.stp st).setDat i .int) q'⟩
/-! ### a, b = e, all parts flat -/
def dAsgP (t : Tg) (f : Fx) : Ds := fun E δ => ∃ r, f (pub δ) = some r ∧ onR r (fun d => ∃ ds, t.put d = some ds ∧ ds.all D.flat = true ∧ E.nx (setsS δ t.ix ds)) (fun n => E.ex n δ)
theorem pd_asgP {tg e : Expr} {pos : Pos} {t : Tg} {f : Fx} (hg : PGd X G tg t) (he : PE X e (teD G W f)) (hs : swapsWithSole [tg] e pos.line X.env = pure false := by rfl) (hw : swappedStores [tg] e X.env = pure none := by rfl) (h1 : (assignEach [tg] X.env).map (·.2) = [assign tg X.env] := by rfl) (hK : X.K = G.K := by rfl) : PS X (.Assign [tg] e pos) (tsD G W (dAsgP t f)) :=
  (ps_asg he (hg.pg hK) hs hw h1).impD fun D σ H ⟨B0, H0, B, δ, E, e, ⟨r, g, q⟩, o⟩ => by
    refine run_p e g (fun n er H' st => ?_) fun v d B' H' ed st st2 rp => ?_
    · subst er
      exact o.ex n B δ σ H' (Same.refl _) (e.stp st) q
    · obtain ⟨ds, hp, fl, q'⟩ := onR_val q ed
      exact tg_ok st2.s rp hp fun vs rl hl => o.nx B _ _ H' (Same.refl _) ((e.stp st).sets (rl.any fl)) q'
end
section
variable [NM] {G : Gd} {P : Program} {w : World} {K : PySem.W.Frag} {mg : Str → Option Value} {base : Heap}
/-- a def whose code object is known -/
theorem fn_dC {x qual : Str} {st : Stmt} {f c : Addr} {fd : FuncData} {N ps : List Str} {k : Nat} {F : List D → Option R} {g : Ds} (FU : Fun K x qual st f fd) (hc : fd.code = .ref c) (S : FnScope N ps (defScope st)) (len : ∀ ds r, F ds = some r → ds.length = ps.length)
    (hb : ∀ (A : Around) (outer : List Env) (s : Shared) (H : Hp) (E : XK), Room k (A.deeper (envOfC qual (defScope st) s.heap.objs.size f (.ref c))) → PSs (cxOf (L2.CX P w) P w K mg base N qual (defScope st) f (.ref c) A outer s H E) (defBody st) (tsD G (fun c d _ H => E c d H) g))
    (hg : ∀ ds r, F ds = some r → g (endF r) (startS N ds)) : FnOk P w K mg base (L2.CX P w) (k + 1) f fd ps (spD G F) := by
  obtain ⟨oc, od, kV, doc, pm, an, cdv, ct, osl, rfl, lk, hcd⟩ := FU.ex
  have hc : cdv = .ref c := hc
  subst hc
  refine fn_of lk hcd S (fun vs H Q E z => ?_) fun A outer s H vs Q E hr z => ?_
  · obtain ⟨B, ds, r, hs, _, rl, hf, _⟩ := z
    exact rl.length.trans (len ds r hf)
  · obtain ⟨B, ds, r, hs, tb, rl, hf, hq, hx⟩ := z
    exact ⟨tsD G (fun c d _ H => E c d H) g, hb A outer s H E hr, B, H, B, startS N ds, endF r, env_start hs tb rl, hg ds r hf, ends_f (fun _ _ _ _ z => z) hq hx⟩
end
theorem tabIn_mk {K : PySem.W.Frag} {x : Str} {f u P : Addr} {e1 e2 : Value} {d1 d2 : Option Addr} {fd : FuncData} {vs : Array Value} {s1 s2 : Array (Option Value)} (a : PySem.W.nsIn K mainGlobals x = some (some (.ref f))) (l : K.lookup f = some ⟨e1, d1, .func fd, s1⟩) (hc : fd.code = .ref u)
    (v : K.lookup u = some ⟨e2, d2, .fields vs, s2⟩) (p : (vs[11]? : Option Value) = some (.ref P)) : PySem.W.tabIn K x = some (u, P) := by
  unfold PySem.W.tabIn
  rw [a]
  dsimp only
  rw [l]
  dsimp only
  rw [hc]
  dsimp only
  rw [v]
  dsimp only
  rw [p]
/-- the tables of the defs named in ts are empty when the law is called -/
def TabsE (K : PySem.W.Frag) (h : Heap) (ts : List Str) : Prop := ∀ x ∈ ts, ∀ c P, PySem.W.tabIn K x = some (c, P) → PySem.W.CodeHd h c P ∧ h.get? P = some { cls := .none, data := .fields #[] }
theorem walk_T {l : PySem.W.OpenLaw} {n k : Nat} {q : Program} {loose : List Str} {XP : (Str → Option Value) → Heap → Prop} {YP : World → Heap → Prop} {d : DefRec} {K : Params → PySem.W.Frag} {CX : World → CXT} {x : Str} (ts : List Str)
    (hn : l.most = some n) (hn2 : n ≤ sizeLine) (hdf : d.params.defaults = []) (hr : Room k callerA) (hts : ts.all (fun x => ((recsOf q).find? fun e => e.name == x).isSome) = true) (hY : ∀ (w : World) (h : Heap), YP w h → (K w.params).In h)
    (F : ∀ (w : World) (mg : Str → Option Value) (fa : Addr) (h : Heap), (K w.params).In h → h.Ns mainGlobals mg → mg d.name = some (.ref fa) → TabsE (K w.params) h ts → LamX.LawAtS l w (K w.params) (CX w) k n x mg fa h)
    (hCX : ∀ (w : World) (H : Hp) (s : Shared) (e : Value) (s' : Shared), CX w [] H s (fun _ _ _ => False) e s' → False) :
    PySem.W.WalkO q loose XP YP l.row.toRowW d [] (fun f vs => PySem.call f vs) := by
  refine Att.attach_callB hn hdf fun w s0 s1 mg mb fa o pm cd doc a vs ns G Y _ _ _ hmg hobj hints hlen hbits hg => ?_
  have KX := hY w _ Y
  have tb : TabsE (K w.params) s1.heap ts := fun x hx c P e => by
    obtain ⟨d1, h1⟩ := Option.isSome_iff_exists.mp (List.all_eq_true.mp hts x hx)
    exact PySem.W.tab_of G.T KX h1 e
  obtain ⟨fd, cs, sp, h1, h2, h3, h4, h5, h6⟩ := F w mg fa _ KX G.T.g hmg tb
  have sp' : ∀ H : Hp, (∀ p ∈ cs, H p.2 = some (.tbl #[])) → SqL (K w.params) H a (ns.map V.int) → sp [.ref a] H (fun v _ => v = .bl true) fun _ _ _ => False := fun H z1 z2 => h5 H a ns hlen hbits z1 z2
  exact LamX.law_callTs KX G.T.g G.T.b G.T.builtins G.T.nolimit hg h1 h2 h3 G.T.bmain hobj hints (Nat.le_trans hlen hn2) hr h6 h4 sp' fun H e s' => hCX w H s1 e s'
/-! ### what raises nothing -/
section
variable [NM]
abbrev NeF (f : Fx) : Prop := ∀ ε n, f ε ≠ some (.ex n)
theorem ne_v {i : Nat} : NeF (fV i) := fun ε n h => by
  unfold fV at h
  split at h <;> cases h
theorem ne_2 {op : D → D → Option R} {f g : Fx} (hf : NeF f) (hg : NeF g) (ho : ∀ x y n, op x y ≠ some (.ex n)) : NeF (f2 op f g) := fun ε n h => by
  rcases seqR_inv h with ⟨r0, d, _, _, e2⟩ | ⟨m, e, _⟩
  · rcases seqR_inv e2 with ⟨r1, d1, _, _, e3⟩ | ⟨m, e, _⟩
    · exact ho _ _ _ e3
    · exact hg _ _ e
  · exact hf _ _ e
theorem ne_add {i j : Nat} : NeF (f2 oAdd (fV i) (fV j)) := ne_2 ne_v ne_v fun x y n h => by
  unfold oAdd at h
  split at h
  · cases h
  · split at h <;> cases h
  · cases h
theorem ne_sub {i j : Nat} : NeF (f2 oSub (fV i) (fV j)) := ne_2 ne_v ne_v fun x y n h => by
  unfold oSub at h
  split at h <;> cases h
theorem ne_args : ∀ {fs : List Fx}, (∀ f ∈ fs, NeF f) → ∀ ε m, argsV fs ε ≠ some (.error m)
  | [], _, ε, m, e => by cases e
  | f :: fs, h, ε, m, e => by
    unfold argsV at e
    cases e1 : f ε with
    | none =>
      rw [e1] at e
      cases e
    | some r =>
      rw [e1] at e
      have go : ∀ {o : Option D}, (match argsV fs ε with | none => none | some (.error n) => some (.error n) | some (.ok ds) => o.map fun d => Except.ok (d :: ds)) = some (Except.error m) → False := fun {o} e => by
        cases e2 : argsV fs ε with
        | none =>
          rw [e2] at e
          cases e
        | some z =>
          rw [e2] at e
          cases z with
          | error n => exact ne_args (fun f hf => h f (List.mem_cons_of_mem _ hf)) ε n e2
          | ok ds =>
            obtain ⟨_, _, q⟩ := Option.map_eq_some_iff.mp e
            cases q
      cases r with
      | ex n => exact h f List.mem_cons_self ε n e1
      | ok d => exact go e
      | nw d => exact go e
      | nn t d => exact go e
theorem ne_pair {f g : Fx} (hf : NeF f) (hg : NeF g) : NeF (fA oTup [f, g]) := fun ε n h => by
  unfold fA seqA at h
  split at h
  · cases h
  · rename_i m e
    refine ne_args (fun x hx => ?_) ε m e
    rcases List.mem_cons.mp hx with z | z
    · rw [z]
      exact hf
    · rw [List.mem_singleton.mp z]
      exact hg
  · unfold oTup at h
    split at h <;> cases h
theorem ne_apF {k : Nat} {f : Fx} (h : NeF f) (ds : List D) (n : Nat) : apF k f ds ≠ some (.ex n) := fun e => by
  unfold apF at e
  split at e
  · exact h _ _ e
  · cases e
end
end DY
namespace DY
open PySem PySem.Spec PyProof.Rows L2
section
variable [NM] {G : Gd} {W : WX} {X : Cx}
/-! ### for t in x: if ..: return ..; t.append(c), where no turn returns -/
/-- what the turn's test sees: all slots but x, and the turn's list -/
def viewC (i j : Nat) (δ : Ev) (ds : List D) : En := ((pub δ).set i none).set j (some (.lst ds))
def dForChk (i j : Nat) (f : Fx) (d : D) : Ds := fun E δ => ∃ ps ps', δ[i]? = some (.nst false ps) ∧ j < δ.length ∧ appP d ps = some ps' ∧ (∀ (k : Nat) (ds : List D), ps[k]? = some (.own ds) → f (viewC i j δ ds) = some (.ok (.bl false))) ∧ E.nx ((δ.set j .un).set i (.nst false ps'))
theorem pd_forChk {i j : Nat} {x y : Str} {c tst : Expr} {rs : List Stmt} {gr : Ds} {f : Fx} {v : V} {d : D} {px p1 p2 p3 apos cpos pos2 pos : Pos} (hp : PassesOwn (model X.prog X.w) X.A X.env X.xe) (hc : X.calm = true) (hN : X.N.Nodup) (hx : PE X (.Name x px) (tVar i)) (hj : X.N[j]? = some y) (hy : Loc X.env.scope y) (hyv : PE X (.Name y p2) (tVar j)) (hij : i ≠ j) (ht : Tst X G W tst f) (hr : PSs X rs (tsD G W gr)) (hcv : PE X c (tC v)) (hv : ∀ B, Rep G B v d)
    (hf : X.fn y = true ∨ X.env.scope.names.lookup y = some .local := by first | exact .inl rfl | exact .inr rfl) (hbase : attributeBase (.Name y p2) "append" X.env (eval (.Name y p2) X.env) = eval (.Name y p2) X.env := by rfl)
    (hfew : ((backTo cpos (starEach [c] X.env)).all (fun x => !x.1) && (backToKw cpos (keywordEach [] X.env)).all (fun x => x.1.isSome) && decide (([c] : List Expr).length + ([] : List Keyword).length + (if ([] : List Keyword).isEmpty then 0 else 1) < 30)) = true := by rfl)
    (hline : (apos.endLine == cpos.line) = true := by rfl) (hs : starEach [c] X.env = (false, eval c X.env) :: starEach [] X.env := by rfl) (hsw : swapsWith (.Call (.Attribute (.Name y p2) "append" apos) [c] [] cpos) none pos2.line X.env = pure false := by rfl)
    (hfi : ∀ z, foldedSetIterable (.Name x px) X.env z = pure z := by intro _; rfl) :
    PS X (.For (.Name y p1) (.Name x px) [.If tst rs [] p3, .Expr (.Call (.Attribute (.Name y p2) "append" apos) [c] [] cpos) pos2] [] pos) (tsD G W (dForChk i j f d)) :=
  (ps_for hp hc (pi_list hx) (pg_name hN hj hy hf) (pss_cons (ps_if ht.pt hr pss_nil) (pss_one (ps_expr (pe_bm PySem.F.plainAttrs_list PySem.F.slot_list_append PySem.F.type_list_append mt_append hyv (pa_cons hcv pa_nil hs) hbase hfew hline hs rfl) hsw))) hfi).impD fun Dn σ H ⟨B0, H0, B, δ, E, e, ⟨ps, ps', hi, jd, ha, hfv, q⟩, o⟩ => by
  obtain ⟨lp, gp⟩ := appP_get ha
  obtain ⟨ρ, P⟩ := e.prv
  obtain ⟨x0, h1, a, vs, qs, e1, rfl, h, t, nd⟩ := P.ok i _ hi
  have il : i < δ.length := (List.getElem?_eq_some_iff.mp hi).1
  refine ⟨.ref a, h1, a, rfl, ⟨vs, SqL.of h⟩, fun k m σ' H' => k + m = ps.length ∧ σ'[i]? = some (some (.ref a)) ∧ EnvS G B0 H0 B H' σ' ((δ.set j .un).set i (.nst false (ps'.take k ++ ps.drop k))), ⟨ps.length, by omega, ?_, ?_⟩, fun k m σ' H' hw => ?_⟩
  · exact h1
  · have e2 := e.setUn j (σ[j]?.getD none)
    have es : σ.set j (σ[j]?.getD none) = σ := by
      by_cases hl : j < σ.length
      · refine set_none ?_
        rw [List.getElem?_eq_getElem hl] <;> rfl
      · exact List.set_eq_of_length_le (by omega)
    rw [es] at e2
    rw [List.take_zero, List.drop_zero, List.nil_append]
    have : (δ.set j .un)[i]? = some (.nst false ps) := by rw [List.getElem?_set_ne (fun z => hij z.symm)]; exact hi
    rw [set_un this]
    exact e2
  · obtain ⟨hm, hσ, e'⟩ := hw
    have hat : ((δ.set j .un).set i (.nst false (ps'.take k ++ ps.drop k)))[i]? = some (.nst false (ps'.take k ++ ps.drop k)) := List.getElem?_set_self (by rw [List.length_set]; exact il)
    have lk : (ps'.take k ++ ps.drop k).length = ps.length := by
      rw [List.length_append, List.length_take, List.length_drop, lp]
      omega
    by_cases hlt : k < ps.length
    · obtain ⟨ds, g1, g2, g3⟩ := gp k hlt
      have gk : (ps'.take k ++ ps.drop k)[k]? = some (.own ds) := by
        rw [List.getElem?_append_right (by rw [List.length_take]; omega), List.length_take, List.getElem?_drop, lp]
        rw [show k + (k - min k ps.length) = k by omega]
        exact g1
      obtain ⟨a2, us, qk, ws, z1, z2, z3, z4, z5, z6, _⟩ := e'.inner hat gk
      rw [hσ] at z1
      cases z1
      refine .inr ⟨⟨us, _, SqL.of z2, z4⟩, fun σ2 H2 => σ2[i]? = some (some (.ref a)) ∧ EnvS G B0 H0 B H2 σ2 ((δ.set j .un).set i (.nst false (ps'.take (k + 1) ++ ps.drop (k + 1)))), fun σ2 H2 hN => ⟨m - 1, by omega, by omega, hN⟩, fun x1 H1 yy => ?_⟩
      obtain ⟨rfl, fx⟩ := yy
      have ex := fx us (SqL.of z2)
      rw [z4] at ex
      cases ex
      have jl : j < σ'.length := by
        have := e'.len
        rw [List.length_set, List.length_set] at this
        omega
      -- the test: all of the heap is known
      have ev : EnvD G H1 (σ'.set j (some (.ref qk))) (viewC i j δ ds) := by
        refine ⟨e'.tab.mono e'.bh, ?_, fun n dn hn => ?_⟩
        · unfold viewC pub
          rw [List.length_set, List.length_set, List.length_map, List.length_set]
          have := e'.len
          rw [List.length_set, List.length_set] at this
          exact this
        · unfold viewC at hn
          by_cases hnj : j = n
          · subst hnj
            rw [List.getElem?_set_self (by unfold pub; rw [List.length_set, List.length_map]; exact jd)] at hn
            cases hn
            exact ⟨.ref qk, List.getElem?_set_self jl, .lst z5 (z6.mono e'.bh)⟩
          · rw [List.getElem?_set_ne hnj] at hn
            by_cases hni : i = n
            · subst hni
              rw [List.getElem?_set_self (by unfold pub; rw [List.length_map]; exact il)] at hn
              cases hn
            · rw [List.getElem?_set_ne hni] at hn
              obtain ⟨w, w1, w2⟩ := e'.pub.has n dn (by
                unfold pub at hn ⊢
                rw [List.getElem?_map] at hn ⊢
                rw [List.getElem?_set_ne hni, List.getElem?_set_ne hnj]
                exact hn)
              exact ⟨w, by rw [List.getElem?_set_ne hnj]; exact w1, w2⟩
      refine ⟨H1, viewC i j δ ds, .ok (.bl false), Same.refl _, ev, hfv k ds g1, fun b' B2 H2 st er => ?_, fun n er => (by cases er), .inl ⟨false, rfl⟩⟩
      cases er
      refine ite_fal ?_
      have e2 := e'.stp (B2 := B) ⟨Same.refl _, st.h, e'.bh.trans st.h, fun a o z => .inl ⟨o, z⟩⟩
      obtain ⟨a3, us3, q3, ws3, y1, y2, y3, y4, y5, y6, y7⟩ := e2.inner hat gk
      rw [hσ] at y1
      cases y1
      have eu := nob_inj ((own_at st.h z2 own_nob).symm.trans y2)
      subst eu
      rw [z4] at y4
      cases y4
      refine ⟨.ref qk, List.getElem?_set_self jl, .inl ⟨rfl, ws3, SqL.of y5⟩, qk, ws3, v, rfl, rfl, y5, lt_line (by rw [y6.length]; omega), ?_⟩
      refine ⟨by rw [List.getElem?_set_ne (fun z => hij z.symm)]; exact hσ, ?_⟩
      have e3 := (y7 (ws3 ++ [v]) (ds ++ [d]) (y6.append (.cons (hv B) .nil))).setUn j (some (.ref qk))
      have es : (((δ.set j .un).set i (.nst false (ps'.take k ++ ps.drop k))).set i (.nst false ((ps'.take k ++ ps.drop k).set k (.own (ds ++ [d]))))).set j .un = (δ.set j .un).set i (.nst false (ps'.take (k + 1) ++ ps.drop (k + 1))) := by
        have el : (ps'.take k ++ ps.drop k).set k (.own (ds ++ [d])) = ps'.take (k + 1) ++ ps.drop (k + 1) := by
          have lt : (ps'.take k).length = k := by rw [List.length_take]; omega
          rw [List.set_append_right _ _ (by omega), lt, Nat.sub_self, List.drop_eq_getElem_cons hlt, List.set_cons_zero, List.take_add_one, g3, List.append_assoc] <;> rfl
        rw [el, List.set_set, List.set_comm _ _ hij, List.set_set]
      rw [es] at e3
      exact e3
    · obtain ⟨ρ', P'⟩ := e'.prv
      obtain ⟨x', w1, a', vs', qs', w2, rfl, w3, w4, _⟩ := P'.ok i _ hat
      rw [hσ] at w1
      cases w1
      refine .inl ⟨⟨vs', SqL.of w3, ?_⟩, ?_⟩
      · rw [w4.len, lk]
        omega
      · have : ps'.take k ++ ps.drop k = ps' := by
          rw [List.take_of_length_le (by omega), List.drop_eq_nil_of_le (by omega), List.append_nil]
        rw [this] at e'
        exact o.nx B _ _ H' (Same.refl _) e' q
/-! ### x = x + [e, ..]: more lists of the def's own -/
theorem PtL.cat {B H : Hp} : ∀ {vs ps qs}, PtL G B H vs ps qs → ∀ {ws ps2 qs2}, PtL G B H ws ps2 qs2 → PtL G B H (vs ++ ws) (ps ++ ps2) (qs ++ qs2)
  | _, _, _, .nil, _, _, _, t => t
  | _, _, _, .dat r s, _, _, _, t => .dat r (PtL.cat s t)
  | _, _, _, .own h r s, _, _, _, t => .own h r (PtL.cat s t)
def dNstCat (i : Nat) (fs : List Fx) : Ds := fun E δ => ∃ ps ps2, δ[i]? = some (.nst false ps) ∧ argsP fs (vis δ) = some (.ok ps2) ∧ ps.length + ps2.length ≤ 100000 ∧ E.nx (δ.set i (.nst false (ps ++ ps2)))
theorem pd_nstCat {i : Nat} {x : Str} {es : List Expr} {p0 pos' pos2 pos3 pos : Pos} {fs : List Fx} (hN : X.N.Nodup) (hi : X.N[i]? = some x) (hx : Loc X.env.scope x) (hv : PE X (.Name x p0) (tVar i)) (he : PA X es (taP G W fs)) (hs : swapsWith (.BinOp (.Name x p0) .Add (.List es pos2) pos3) (some (.Name x pos')) pos.line X.env = pure false := by rfl) (hf : X.fn x = true ∨ X.env.scope.names.lookup x = some .local := by first | exact .inl rfl | exact .inr rfl) :
    PS X (.Assign [.Name x pos'] (.BinOp (.Name x p0) .Add (.List es pos2) pos3) pos) (tsD G W (dNstCat i fs)) := (ps_set hN hi hx (pe_op op_cat hv (pe_lst he)) hs hf).impD fun D σ H ⟨B0, H0, B, δ, E, e, ⟨ps, ps2, hd, g, hl, q⟩, o⟩ => by
  obtain ⟨ρ, P⟩ := e.prv
  obtain ⟨x0, h1, a, vs, qs, e1, rfl, h, pt, nd⟩ := P.ok i _ hd
  obtain ⟨na, nq⟩ := List.nodup_cons.mp nd
  refine ⟨.ref a, h1, B, vis δ, .ok ps2, e.bh, e.vis, g, fun ps' ws qs2 B' H' ez st t nd2 fr => ?_, fun n ez => (by cases ez)⟩
  cases ez
  have lv := pt.len
  have lw := t.len
  refine ⟨by rw [lw]; exact le_line (by omega), fun p hp => ?_⟩
  have st2 := st.trans (Stp.hid (o := .lst ws) st.s hp)
  have ha : upd H' p (.lst ws) a = some (.lst vs) := st2.h _ _ h
  refine ⟨a, p, vs, ws, rfl, rfl, ha, upd_same, by rw [lv, lw]; exact le_line hl, fun r hr => ?_⟩
  have st3 := st2.trans (Stp.hid (o := .lst (vs ++ ws)) st2.s hr)
  have e3 := e.stp st3
  have P3 := P.stp st3
  -- the addresses: the old inner lists, the new ones, the list itself
  have hr0 : H r = none := st2.h.free hr
  have rq : r ∉ qs := fun m => by
    obtain ⟨o, ho, _⟩ := pt.has r m
    rw [hr0] at ho
    cases ho
  have rq2 : r ∉ qs2 := fun m => by
    obtain ⟨o, ho, _⟩ := t.has r m
    have hp' : H' r = none := (same_new (o := .lst ws) hp).free hr
    rw [hp'] at ho
    cases ho
  have pq : ∀ q ∈ qs, upd (upd H' p (.lst ws)) r (.lst (vs ++ ws)) q = H q := fun q m => by
    obtain ⟨o, ho, no⟩ := pt.has q m
    rw [ho]
    exact own_at st3.h ho no
  have pq2 : ∀ q ∈ qs2, upd (upd H' p (.lst ws)) r (.lst (vs ++ ws)) q = H' q := fun q m => by
    obtain ⟨o, ho, no⟩ := t.has q m
    rw [ho]
    exact own_at ((same_new (o := .lst ws) hp).trans (same_new hr)) ho no
  have qq : ∀ q ∈ qs, q ∉ qs2 := fun q m m2 => by
    obtain ⟨o, ho, _⟩ := pt.has q m
    rw [(fr q m2).1] at ho
    cases ho
  have pt3 : PtL G B' (upd (upd H' p (.lst ws)) r (.lst (vs ++ ws))) (vs ++ ws) (ps ++ ps2) (qs ++ qs2) := PtL.cat (pt.mono st.b pq) (t.mono (Same.refl _) pq2)
  have nd3 : (r :: (qs ++ qs2)).Nodup := List.nodup_cons.mpr ⟨fun m => by
    rcases List.mem_append.mp m with m | m
    · exact rq m
    · exact rq2 m, List.nodup_append.mpr ⟨nq, nd2, fun x hx y hy z => qq x hx (z ▸ hy)⟩⟩
  refine o.nx B' _ _ _ st3.b (e3.put P3 i (x := some (.ref r)) (s := .nst false (ps ++ ps2)) (R := r :: (qs ++ qs2)) (fun _ _ => rfl) ⟨r, vs ++ ws, qs ++ qs2, rfl, rfl, upd_same, pt3, nd3⟩ (fun z m => ?_) fun j hj z m m2 => ?_) q
  · rcases List.mem_cons.mp m with em | m
    · rw [em]
      exact ⟨e.h0.free hr0, st2.s.free hr, _, upd_same, rfl⟩
    · rcases List.mem_append.mp m with m | m
      · obtain ⟨n1, n2, n3⟩ := P3.new i z (by rw [e1]; exact List.mem_cons_of_mem _ m)
        exact ⟨n1, n2, n3⟩
      · obtain ⟨oz, ho, no⟩ := t.has z m
        exact ⟨e.h0.free (fr z m).1, (fr z m).2, oz, (pq2 z m).trans ho, no⟩
  · rcases List.mem_cons.mp m with em | m
    · obtain ⟨_, _, oz, ho, _⟩ := P.new j z m2
      rw [em, hr0] at ho
      cases ho
    · rcases List.mem_append.mp m with m | m
      · exact hj (P.sep j i z m2 (by rw [e1]; exact List.mem_cons_of_mem _ m))
      · obtain ⟨_, _, oz, ho, _⟩ := P.new j z m2
        rw [(fr z m).1] at ho
        cases ho
end
end DY
namespace DY
open PySem PySem.Spec PyProof.Rows L2
section
variable [NM] {G : Gd} {W : WX} {X : Cx}
/-! ### a, b, .. = a list -/
def dAsgL (is : List Nat) (f : Fx) : Ds := fun E δ => ∃ r, getR f δ r ∧ onR r (fun d => ∃ ds, d = .lst ds ∧ ds.length = is.length ∧ E.nx (setsS δ is ds)) (fun n => E.ex n δ)
theorem pd_asgL {tg e : Expr} {pos : Pos} {is : List Nat} {f : Fx} (hg : PG X tg (gLst X.K is.length (gNs is))) (he : PE X e (teD G W f)) (hs : swapsWithSole [tg] e pos.line X.env = pure false := by rfl) (hw : swappedStores [tg] e X.env = pure none := by rfl) (h1 : (assignEach [tg] X.env).map (·.2) = [assign tg X.env] := by rfl) (hK : X.K = G.K := by rfl) : PS X (.Assign [tg] e pos) (tsD G W (dAsgL is f)) :=
  (ps_asg he hg hs hw h1).impD fun D σ H ⟨B0, H0, B, δ, E, e, ⟨r, g, q⟩, o⟩ => by
    refine run_e e g (fun n er H' st => ?_) fun v d B' H' ed st rp _ => ?_
    · subst er
      exact o.ex n B δ σ H' (Same.refl _) (e.stp st) q
    · obtain ⟨ds, rfl, hl, q'⟩ := onR_val q ed
      cases rp with
      | lst h2 r2 =>
        exact ⟨_, _, rfl, SqL.of (st.s _ _ h2), by rw [r2.length]; exact hl, gNs_ok _ _ _ _ _ (by rw [r2.length]; exact hl) (o.nx B' _ _ H' st.b ((e.stp st).sets r2) q')⟩
/-! ### a list of new lists -/
def lcN (t : Tg) (ft fe : Fx) (ε : En) : List D → Option (List Pt)
  | [] => some []
  | x :: xs => match t.put x with
    | none => none
    | some ds => match ft (setsE ε t.ix ds) with
      | some (.ok (.bl true)) => match fe (setsE ε t.ix ds) with
        | some (.nw es) => (lcN t ft fe ε xs).map (.own es :: ·)
        | _ => none
      | some (.ok (.bl false)) => lcN t ft fe ε xs
      | _ => none
def fLcN (fi : Ix) (t : Tg) (ft fe : Fx) (own : List Nat) : Fx := fun ε => match fi ε with
  | some (.it xs _) => if xs.length ≤ 90000 then (lcN t ft fe (wipeE ε own) xs).map (R.nn false) else none
  | some (.ex n) => some (.ex n)
  | none => none
/-- what is unknown and of no own kind stays so -/
theorem Stp.unk {B H B' H' : Hp} (st : Stp B H B' H') {p : Addr} {o : HO} (hB : B p = none) (hH : H p = some o) (n : Own o) : B' p = none ∧ H' p = some o := by
  refine ⟨?_, own_at st.h hH n⟩
  cases e : B' p with
  | none => rfl
  | some u =>
    rcases st.n p u e with ⟨o', q⟩ | q
    · rw [hB] at q
      cases q
    · exact (q.no hH n).elim
theorem PtL.hasL {B H : Hp} : ∀ {vs ps qs}, PtL G B H vs ps qs → ∀ q ∈ qs, ∃ ws, H q = some (.lst ws)
  | _, _, _, .nil, q, m => absurd m List.not_mem_nil
  | _, _, _, .dat _ t, q, m => PtL.hasL t q m
  | _, _, _, .own h _ t, q, m => by
    rcases List.mem_cons.mp m with e | m
    · exact ⟨_, e ▸ h⟩
    · exact PtL.hasL t q m
theorem lcN_go {J : It} {t : Tg} {ft fe : Fx} {own : List Nat} {σ : L2.St} {ε : En} {H : Hp} {Q : VK} {xs : List D} {B Bw : Hp} {dp : List Pt} (hs : Same B H) (he : EnvD G B σ ε) (sw : Same Bw B) (wk : Wlk G Bw J xs) (hl : xs.length ≤ 90000) (ho : ∀ i ∈ t.ix, i ∈ own)
    (hr : lcN t ft fe (wipeE ε own) xs = some dp) (hq : ∀ v B' H', Stp B H B' H' → Res G H B' H' v (.nn false dp) → Q v H') :
    ∀ Dl, H Dl = none → ∃ Wd : Nat → Nat → Hp → Prop, (∃ m, Wd 0 m (upd H Dl (.lst []))) ∧ ∀ i m H', Wd i m H' →
      (J.stop i H' ∧ Q (.ref Dl) H') ∨ (J.go i H' ∧ ∃ Nx : Hp → Prop, (∀ H'', Nx H'' → ∃ m', m' < m ∧ Wd (i + 1) m' H'') ∧ ∀ x H'', J.yld i H' x H'' → (t.g G.K) x (L2.wipe σ own) H'' fun σ2 H2 => L2.wipe σ2 own = L2.wipe σ own ∧ ttD G W0 ft σ2 H2 fun b H3 =>
        if b = true then teD G W0 fe σ2 H3 fun y H4 => ∃ acc, H4 Dl = some (.lst acc) ∧ acc.length < sizeLine ∧ Nx (upd H4 Dl (.lst (acc ++ [y]))) else Nx H3) := by
  intro Dl hD
  have bD : B Dl = none := hs.free hD
  let Inv1 : Nat → Hp → Prop := fun i H' => ∃ (B' : Hp) (vs : List V) (ps fs : List Pt) (qs : List Addr), Same B B' ∧ Same B' H' ∧ (∀ a o, B' a = some o → (∃ o', B a = some o') ∨ Fre H a) ∧ Same H H' ∧ B' Dl = none ∧ H' Dl = some (.lst vs) ∧ PtL G B' H' vs ps qs ∧ (Dl :: qs).Nodup ∧ (∀ q ∈ qs, H q = none ∧ B' q = none) ∧ ps.length ≤ i ∧ dp = ps ++ fs ∧ lcN t ft fe (wipeE ε own) (xs.drop i) = some fs
  refine ⟨fun i m H' => i + m = xs.length ∧ Inv1 i H', ⟨xs.length, by omega, B, [], [], dp, [], Same.refl _, hs.trans (same_new hD), fun a o e => .inl ⟨o, e⟩, same_new hD, bD, upd_same, .nil, by simp, fun _ m => absurd m List.not_mem_nil, Nat.le_refl _, rfl, hr⟩, fun i m H' hw => ?_⟩
  obtain ⟨hm, B', vs, ps, fs, qs, sB, sH, nB, sHH, nD, eD, pt, nd, fr, le, ed, hlc⟩ := hw
  have lpt := pt.len
  obtain ⟨nDq, ndq⟩ := List.nodup_cons.mp nd
  by_cases hi : i < xs.length
  · have hx : xs[i]? = some xs[i] := List.getElem?_eq_getElem hi
    obtain ⟨go, yl⟩ := (wk i H' ((sw.trans sB).trans sH)).1 _ hx
    rw [List.drop_eq_getElem_cons hi] at hlc
    refine .inr ⟨go, Inv1 (i + 1), fun H'' h => ⟨m - 1, by omega, by omega, h⟩, fun v H1 yy => ?_⟩
    obtain ⟨B2, st, rp⟩ := yl v H1 yy B' (sw.trans sB) sH
    -- what holds behind any further step
    have later : ∀ {B3 H3 : Hp}, Stp B' H' B3 H3 → (∀ a o, B3 a = some o → (∃ o', B a = some o') ∨ Fre H a) ∧ (B3 Dl = none ∧ H3 Dl = some (.lst vs)) ∧ (∀ q ∈ qs, B3 q = none ∧ H3 q = H' q) := fun {B3 H3} s3 => by
      refine ⟨fun a o e => ?_, s3.unk nD eD rfl, fun q hqm => ?_⟩
      · rcases s3.n a o e with ⟨o', z⟩ | z
        · exact nB a o' z
        · exact .inr (sHH.fre z)
      · obtain ⟨ws, hws⟩ := pt.hasL q hqm
        obtain ⟨z1, z2⟩ := s3.unk (fr q hqm).2 hws rfl
        exact ⟨z1, z2.trans hws.symm⟩
    unfold lcN at hlc
    cases hp : t.put xs[i] with
    | none =>
      rw [hp] at hlc
      cases hlc
    | some pd =>
      rw [hp] at hlc
      refine tg_ok st.s rp hp fun ws rw1 hwl => ⟨?_, ?_⟩
      · refine (wipe_eq (by rw [setsV_len, wipe_length]) fun j hj => ?_)
        rw [setsV_ne _ _ _ _ (fun z => hj (ho j z)), wipe_get hj]
      · have e2 : EnvD G B2 (setsV (L2.wipe σ own) t.ix ws) (setsE (wipeE ε own) t.ix pd) := ((he.mono (sB.trans st.b)).wipe own).sets rw1
        dsimp only at hlc
        split at hlc
        · rename_i hft
          refine tt_w0 st.s e2 hft fun B3 H3 st3 => ite_tru ?_
          split at hlc
          · rename_i es hfe
            obtain ⟨gs, hg, rfl⟩ := Option.map_eq_some_iff.mp hlc
            refine ⟨B3, _, .nw es, st3.s, e2.mono st3.b, hfe, fun y B4 H4 st4 res => ?_, fun n z => by cases z⟩
            have s04 := (st.trans st3).trans st4
            obtain ⟨news, ⟨bD4, eD4⟩, old⟩ := later s04
            obtain ⟨p, us, rfl, hp3, bp, hp4, rl⟩ := res
            have hpH : H p = none := sHH.free (st.h.free (st3.h.free hp3))
            have pD : p ≠ Dl := fun z => by
              have w := own_at (st.trans st3).h eD rfl
              rw [z, w] at hp3
              cases hp3
            have pq : p ∉ qs := fun mm => by
              obtain ⟨ws2, hws⟩ := pt.hasL p mm
              have w := own_at (st.trans st3).h hws rfl
              rw [w] at hp3
              cases hp3
            have upq : ∀ q ∈ qs, upd H4 Dl (.lst (vs ++ [V.ref p])) q = H' q := fun q hqm => (upd_ne fun z => nDq (by rw [← z]; exact hqm)).trans (old q hqm).2
            have pt4 := PtL.snoc (H := upd H4 Dl (.lst (vs ++ [V.ref p]))) ((upd_ne pD).trans hp4) rl (pt.mono s04.b upq)
            refine ⟨vs, eD4, lt_line (by omega), B4, vs ++ [.ref p], ps ++ [.own es], gs, qs ++ [p], sB.trans s04.b, fun b o e => ?_, news, fun b o e => ?_, bD4, upd_same, pt4, ?_, fun q hqm => ?_, by rw [List.length_append]; simp; omega, by rw [ed, List.append_assoc] <;> rfl, hg⟩
            · exact (s04.s b o e).chg eD4 rfl (ne_of_none e bD4)
            · exact ((sHH.trans s04.h) b o e).chg eD4 rfl (ne_of_none e hD)
            · refine List.nodup_cons.mpr ⟨fun mm => ?_, List.nodup_append.mpr ⟨ndq, by simp, fun x hx y hy z => pq (by rw [← List.mem_singleton.mp hy, ← z]; exact hx)⟩⟩
              rcases List.mem_append.mp mm with mm | mm
              · exact nDq mm
              · exact pD (List.mem_singleton.mp mm).symm
            · rcases List.mem_append.mp hqm with mm | mm
              · exact ⟨(fr q mm).1, (old q mm).1⟩
              · rw [List.mem_singleton.mp mm]
                exact ⟨hpH, bp⟩
          · cases hlc
        · rename_i hft
          refine tt_w0 st.s e2 hft fun B3 H3 st3 => ite_fal ?_
          have s03 := st.trans st3
          obtain ⟨news, ⟨bD3, eD3⟩, old⟩ := later s03
          exact ⟨B3, vs, ps, fs, qs, sB.trans s03.b, s03.s, news, sHH.trans s03.h, bD3, eD3, pt.mono s03.b fun q hqm => (old q hqm).2, nd, fun q hqm => ⟨(fr q hqm).1, (old q hqm).1⟩, by omega, ed, hlc⟩
        · cases hlc
  · have hi' : xs.length ≤ i := by omega
    refine .inl ⟨(wk i H' ((sw.trans sB).trans sH)).2 hi', ?_⟩
    rw [List.drop_eq_nil_of_le hi'] at hlc
    cases hlc
    rw [List.append_nil] at ed
    subst ed
    refine hq _ B' H' ⟨sB, sHH, sH, nB⟩ ⟨Dl, vs, qs, rfl, eD, pt, nd, fun p m => ?_⟩
    rcases List.mem_cons.mp m with z | z
    · rw [z]
      exact ⟨hD, nD⟩
    · exact fr p z
theorem te_lcN {fi : Ix} {t : Tg} {ft fe : Fx} {own : List Nat} (ho : ∀ i ∈ t.ix, i ∈ own) (σ : L2.St) (H : Hp) (Q : VK) (h : teD G W (fLcN fi t ft fe own) σ H Q) : tLc (tiD G W fi) (t.g G.K) (ttD G W0 ft) (teD G W0 fe) own σ H Q := by
  obtain ⟨B, ε, z, hs, he, hf, hq, hx⟩ := h
  unfold fLcN at hf
  split at hf
  · rename_i xs fr e1
    split at hf
    · rename_i hl
      obtain ⟨dp, hr, rfl⟩ := Option.map_eq_some_iff.mp hf
      refine ⟨B, ε, _, hs, he, e1, fun xs' fr' J Bw B' H' er st sw wk _ => ?_, fun n q => by cases q⟩
      cases er
      exact lcN_go st.s (he.mono st.b) sw wk hl ho hr fun v B2 H2 st2 res => hq v B2 H2 (st.trans st2) (res.back st.h)
    · cases hf
  · rename_i n e1
    cases hf
    exact ⟨B, ε, .ex n, hs, he, e1, fun xs' fr' J Bw B' H' er => (by cases er), fun m q => (by cases q; exact hx n rfl)⟩
  · cases hf
theorem pd_lcN {elt tg iter : Expr} {ifs : List Expr} {scope : Scope} {own : List (Str × Nat)} {vs : List Nat} {pos : Pos} {fi : Ix} {t : Tg} {ft fe : Fx} (hc : X.calm = true) (hN : X.N.Nodup) (hi : PI X tg iter (tiD G W fi)) (ok : BlkOk X.N X.env.scope scope own) (ho : ∀ i ∈ t.ix, i ∈ vs)
    (hg : ∀ (s : Shared) (H : Hp) (C : Addr) (cl : List (Str × Addr)) (fp : List Addr), PGd (X.blk s H scope (compEnvC scope cl C X.env) fp) G tg t) (ht : ∀ (s : Shared) (H : Hp) (C : Addr) (cl : List (Str × Addr)) (fp : List Addr), PTd (X.blk s H scope (compEnvC scope cl C X.env) fp) G ifs ft)
    (he : ∀ (s : Shared) (H : Hp) (C : Addr) (cl : List (Str × Addr)) (fp : List Addr), PE (X.blk s H scope (compEnvC scope cl C X.env) fp) elt (teD G W0 fe)) (hv : own.map (·.2) = vs := by rfl) (hs : ∀ x, foldedSetIterable iter X.env x = pure x := by intro _; rfl) (hK : X.K = G.K := by rfl) :
    PE X (.ListComp elt [⟨tg, iter, ifs, 0⟩] scope pos) (teD G W (fLcN fi t ft fe vs)) := by
  subst hv
  exact (pe_lc hc hN hi ok (fun s H C cl fp => (hg s H C cl fp).pg hK) (fun s H C cl fp => (ht s H C cl fp).ts) he hs).impD fun σ H Q h => te_lcN ho σ H Q h
end
end DY
namespace DY
open PySem PySem.Spec PyProof.Rows L2
section
variable [NM] {G : Gd} {W : WX} {X : Cx}
/-! ### sorted of a list of ints -/
def insI (k : Int) : List Int → List Int
  | [] => [k]
  | x :: r => if k ≤ x then k :: x :: r else x :: insI k r
def srtI : List Int → List Int
  | [] => []
  | x :: r => insI x (srtI r)
theorem insI_perm (k : Int) : ∀ l, (insI k l).Perm (k :: l)
  | [] => List.Perm.refl _
  | x :: r => by
    unfold insI
    split
    · exact List.Perm.refl _
    · exact (List.Perm.cons x (insI_perm k r)).trans (List.Perm.swap k x r)
theorem srtI_perm : ∀ l, (srtI l).Perm l
  | [] => List.Perm.refl _
  | x :: r => (insI_perm x _).trans (List.Perm.cons x (srtI_perm r))
theorem insI_sorted (k : Int) : ∀ {l}, l.Pairwise (· ≤ ·) → (insI k l).Pairwise (· ≤ ·)
  | [], _ => List.pairwise_singleton _ _
  | x :: r, h => by
    obtain ⟨h1, h2⟩ := List.pairwise_cons.mp h
    unfold insI
    split
    · rename_i c
      refine List.pairwise_cons.mpr ⟨fun y hy => ?_, h⟩
      rcases List.mem_cons.mp hy with rfl | hy
      · exact c
      · exact Int.le_trans c (h1 y hy)
    · rename_i c
      refine List.pairwise_cons.mpr ⟨fun y hy => ?_, insI_sorted k h2⟩
      rcases List.mem_cons.mp ((insI_perm k r).mem_iff.mp hy) with rfl | hy
      · omega
      · exact h1 y hy
theorem srtI_sorted : ∀ l, (srtI l).Pairwise (· ≤ ·)
  | [] => List.Pairwise.nil
  | x :: r => insI_sorted x (srtI_sorted r)
theorem sorted_uniq : ∀ {a b : List Int}, a.Perm b → a.Pairwise (· ≤ ·) → b.Pairwise (· ≤ ·) → a = b
  | [], b, p, _, _ => (List.Perm.eq_nil p.symm).symm
  | x :: a, [], p, _, _ => absurd (List.Perm.eq_nil p) (by simp)
  | x :: a, y :: b, p, ha, hb => by
    obtain ⟨a1, a2⟩ := List.pairwise_cons.mp ha
    obtain ⟨b1, b2⟩ := List.pairwise_cons.mp hb
    have hxy : x ≤ y := by
      rcases List.mem_cons.mp (p.mem_iff.mpr (List.mem_cons_self : y ∈ y :: b)) with h | h
      · omega
      · exact a1 y h
    have hyx : y ≤ x := by
      rcases List.mem_cons.mp (p.mem_iff.mp (List.mem_cons_self : x ∈ x :: a)) with h | h
      · omega
      · exact b1 x h
    have e : x = y := by omega
    subst e
    rw [sorted_uniq ((List.perm_cons x).mp p) a2 b2]
def oSorted (ds : List D) : Option R := match ds with
  | [.lst xs] => (toInts xs).map fun ns => .nw ((srtI ns).map .int)
  | _ => none
theorem opA_sorted : OpA G (rSortedI G.K) oSorted := by
  intro xs z h B H vs hs rl Q q
  unfold oSorted at h
  split at h
  · obtain ⟨ns, en, rfl⟩ := Option.map_eq_some_iff.mp h
    have ed := toInts_eq en
    subst ed
    cases rl with
    | cons r1 r2 =>
      cases r2
      cases r1 with
      | lst h1 r1 =>
        rw [r1.intsV] at h1
        refine ⟨_, ns, rfl, SqL.of (hs _ _ h1), fun ns' p pm pw hp => ?_⟩
        have e := sorted_uniq (pm.trans (srtI_perm ns).symm) pw (srtI_sorted ns)
        subst e
        exact q _ B _ (Stp.hid hs hp) (res_new hs hp RepL.ints)
  · cases h
theorem pd_sorted {e : Expr} {p pos : Pos} {f : Fx} (hg : Gl X "sorted") (hm : X.mg "sorted" = none) (he : PE X e (teD G W f)) (hs : starEach [e] X.env = (false, eval e X.env) :: starEach [] X.env := by rfl) (hK : X.K = G.K := by rfl) :
    PE X (.Call (.Name "sorted" p) [e] [] pos) (teD G W (fA oSorted [f])) :=
  pd_callB (by have h := cr_sortedI (X := X); rw [hK] at h; exact h) opA_sorted hg hm boot_sorted (pda_cons he pda_nil hs) (hs := hs)
/-! ### range with a step -/
def rngC (lo c : Int) (n : Nat) : List D := (List.range n).map fun i => .int (lo + (i : Nat) * c)
theorem rngC_len (lo c : Int) (n : Nat) : (rngC lo c n).length = n := by simp [rngC]
theorem rngC_get {lo c : Int} {n i : Nat} {x : D} (h : (rngC lo c n)[i]? = some x) : i < n ∧ x = .int (lo + (i : Nat) * c) := by
  unfold rngC at h
  rw [List.getElem?_map] at h
  obtain ⟨j, h1, h2⟩ := Option.map_eq_some_iff.mp h
  obtain ⟨h3, h4⟩ := List.getElem?_eq_some_iff.mp h1
  rw [List.length_range] at h3
  rw [List.getElem_range] at h4
  subst h4
  exact ⟨h3, h2.symm⟩
theorem wlk_rangeC {lo c : Int} {n : Nat} : Wlk G noH (Itc lo c n) (rngC lo c n) := fun i H s =>
  ⟨fun x hx => by
    obtain ⟨h1, rfl⟩ := rngC_get hx
    refine ⟨h1, fun v H1 y B1 s1 s2 => ?_⟩
    obtain ⟨rfl, rfl⟩ := y
    exact ⟨B1, Stp.refl s2, .int⟩, fun hi => by
    rw [rngC_len] at hi
    exact hi⟩
def oRg3 : List D → Option (List D)
  | [.int i, .int j, .int c] => if c ≠ 0 ∧ c.natAbs < 1073741824 ∧ Builtin.Range.small i j c = true ∧ 0 ≤ Builtin.Range.rangeSize i j c then some (rngC i c (Builtin.Range.rangeSize i j c).toNat) else none
  | _ => none
def fItR3 (fs : List Fx) : Ix := fun ε => match argsV fs ε with
  | some (.ok ds) => (oRg3 ds).map fun xs => .it xs true
  | some (.error n) => some (.ex n)
  | none => none
theorem pdi_range3 {tg a b c : Expr} {fs : List Fx} {p pos : Pos} (hg : Gl X "range") (hm : X.mg "range" = none) (ha : PA X [a, b, c] (taD G W fs)) (hs : starEach [a, b, c] X.env = (false, eval a X.env) :: starEach [b, c] X.env := by rfl) (hpl : (backTo pos (starEach [b, c] X.env)).any (·.1) = false := by rfl) :
    PI X tg (.Call (.Name "range" p) [a, b, c] [] pos) (tiD G W (fItR3 fs)) :=
  (pi_range3 hg hm ha hs hpl).impD fun σ H Rk ⟨B, ε, r, hs, he, hf, hq, hx⟩ => by
    unfold fItR3 at hf
    split at hf
    · rename_i ds e1
      obtain ⟨xs, ex, rfl⟩ := Option.map_eq_some_iff.mp hf
      refine ⟨B, ε, _, hs, he, e1, fun ds' vs B' H' ez st rl => ?_, fun n q => by cases q⟩
      cases ez
      unfold oRg3 at ex
      split at ex
      · split at ex
        · rename_i hc
          cases ex
          cases rl with
          | cons r1 rl =>
            cases rl with
            | cons r2 rl =>
              cases rl with
              | cons r3 rl =>
                cases rl
                cases r1
                cases r2
                cases r3
                exact ⟨_, _, _, _, rfl, ⟨hc.1, hc.2.1, hc.2.2.1, (Int.toNat_of_nonneg hc.2.2.2).symm⟩, hq _ _ _ noH B' H' rfl st no_same wlk_rangeC (fun _ _ _ e => by cases e)⟩
        · cases ex
      · cases ex
    · rename_i n e1
      cases hf
      exact ⟨B, ε, _, hs, he, e1, fun ds' vs B' H' ez => (by cases ez), fun m q => (by cases q; exact hx n rfl)⟩
    · cases hf
/-! ### return x, y: a tuple of two lists of the def's own -/
def dRetP (i j : Nat) : Ds := fun E δ => ∃ ds es, δ[i]? = some (.own ds) ∧ δ[j]? = some (.own es) ∧ E.rt (.nn true [.own ds, .own es])
theorem pd_retP {i j : Nat} {a b : Expr} {x1} {pos2 pos : Pos} (ij : i ≠ j) (ha : PE X a (tVar i)) (hb : PE X b (tVar j)) (hs : starEach [a, b] X.env = (false, eval a X.env) :: starEach [b] X.env := by rfl) (hs2 : starEach [b] X.env = (false, eval b X.env) :: starEach [] X.env := by rfl) :
    PS X (.Return (some (.Tuple [a, b] x1 pos2)) pos) (tsD G W (dRetP i j)) :=
  (ps_ret (pe_tup (pa_cons ha (pa_cons hb pa_nil hs2) hs))).impD fun D σ H ⟨B0, H0, B, δ, E, e, ⟨ds, es, hi, hj, q⟩, o⟩ => by
    obtain ⟨ρ, P⟩ := e.prv
    obtain ⟨x, h1, a1, vs, e1, rfl, g1, r1⟩ := P.ok i _ hi
    obtain ⟨y, h2, a2, ws, e2, rfl, g2, r2⟩ := P.ok j _ hj
    have m1 : a1 ∈ ρ i := by rw [e1]; exact List.mem_cons_self
    have m2 : a2 ∈ ρ j := by rw [e2]; exact List.mem_cons_self
    have ne : a1 ≠ a2 := fun z => ij (P.sep i j a1 m1 (z ▸ m2))
    obtain ⟨n1, b1, _⟩ := P.new i a1 m1
    obtain ⟨n2, b2, _⟩ := P.new j a2 m2
    refine ⟨.ref a1, h1, (.ref a2), h2, le_line (show 2 ≤ 100000 by decide), fun p hp => ?_⟩
    have p1 : a1 ≠ p := fun z => by rw [← z, g1] at hp; cases hp
    have p2 : a2 ≠ p := fun z => by rw [← z, g2] at hp; cases hp
    refine o.rt _ (.nn true [.own ds, .own es]) B (upd H p (.tup [.ref a1, .ref a2])) ⟨e.b0, e.h0.trans (same_new hp), e.bh.trans (same_new hp), e.bn⟩ ⟨p, [.ref a1, .ref a2], [a1, a2], rfl, upd_same, .own ((upd_ne p1).trans g1) r1 (.own ((upd_ne p2).trans g2) r2 .nil), ?_, fun b m => ?_⟩ q
    · simp only [List.nodup_cons, List.mem_cons, List.not_mem_nil, or_false, not_or, not_false_eq_true, List.nodup_nil, and_true]
      exact ⟨⟨fun z => p1 z.symm, fun z => p2 z.symm⟩, ne⟩
    · simp only [List.mem_cons, List.not_mem_nil, or_false] at m
      rcases m with rfl | rfl | rfl
      · exact ⟨e.h0.free hp, e.bh.free hp⟩
      · exact ⟨n1, b1⟩
      · exact ⟨n2, b2⟩
end
end DY
namespace DY
open PySem PySem.Spec PyProof.Rows L2
/-! ### range objects as values -/
section
variable {X : Cx} {tg : Expr}
theorem cr_range1 : CallR X (.type "range") (fun vs H Q => ∃ j, vs = [V.int j] ∧ ∀ p, H p = none → Q (.ref p) (upd H p (.rng 0 j))) := by
  intro pins s σ H vs us Q I r h
  obtain ⟨j, rfl, q⟩ := h
  obtain ⟨u, rfl, ru⟩ := vals1 r
  obtain ⟨t, rfl⟩ := ru
  refine call_range_1 ⟨.ref s.heap.objs.size, upd H s.heap.objs.size (.rng 0 j), I.laid (t' := s.toks + 1 + 1) (fun b o e => Heap.get?_push_of_some _ e) (Nat.le_refl _) ?_, rfl, q _ (I.hok.fresh (Nat.le_refl _))⟩
  exact ⟨s.toks, t, s.toks + 1, Heap.get?_push_size _ rfl⟩
theorem call_lenR : CallR X (.builtin "len") (fun xs H Q => ∃ a n, xs = [V.ref a] ∧ H a = some (.rng 0 n) ∧ 0 ≤ n ∧ n < 2 ^ 62 ∧ Q (.int n) H) := by
  intro pins s σ H xs us Q I r h
  obtain ⟨a, n, rfl, ha, h0, h1, q⟩ := h
  obtain ⟨u, rfl, ru⟩ := vals1 r
  cases ru
  obtain ⟨t1, t2, t3, ho⟩ := I.hok a _ ha
  have e : n = (n.toNat : Nat) := (Int.toNat_of_nonneg h0).symm
  refine call_len_range (n := n.toNat) (a := 0) (b := n) (c := 1) (t := t1) (u := t2) (v := t3) ho ?_ (by omega) ?_
  · rw [rangeSize_one]
    split <;> omega
  · rw [← e]
    exact ⟨.int n, H, I.tok _, ⟨_, rfl⟩, q⟩
/-- a range object that stands, walked -/
def iRngV (te : TE) : TI := fun σ H R => te σ H fun x H1 => ∃ a n, x = .ref a ∧ H1 a = some (.rng 0 n) ∧ 0 ≤ n ∧ n < 2 ^ 62 ∧ R (Itr 0 n.toNat) H1
theorem pi_rngV {l : Expr} {tl : TE} (hl : PE X l tl) : PI X tg l (iRngV tl) := by
  refine ⟨fun pins s σ H R I h => ?_⟩
  refine thn (hl.run pins s σ H _ I h) fun v s1 ⟨x, H1, I1, r1, q1⟩ => ?_
  obtain ⟨a, n, e, ha, h0, h1, q⟩ := q1
  subst e
  cases r1
  obtain ⟨t1, t2, t3, ho⟩ := I1.hok a _ ha
  refine wpAny_pyIter_range (a := 0) (b := n) (c := 1) (t := t1) (u := t2) (v := t3) ho (small_one (by omega) (by omega) (by omega) (by omega)) ?_
  refine ⟨s1.heap.objs.size, [s1.heap.objs.size], _, _, H1, rfl, I1.kept (t' := s1.toks) fun b o e => Heap.get?_push_of_some _ e, turn_range _ 0 n.toNat, ?_, fun b hb => ?_, q⟩
  · have e1 : (0 : Int) + ((0 : Nat) : Int) * 1 = 0 := by simp
    have e2 : ((n.toNat : Nat) : Int) - ((0 : Nat) : Int) = Builtin.Range.rangeSize 0 n 1 := by rw [rangeSize_one]; split <;> omega
    show IsRangeIter _ _ ((0 : Int) + ((0 : Nat) : Int) * 1) (((n.toNat : Nat) : Int) - ((0 : Nat) : Int)) 1
    rw [e1, e2]
    exact Heap.get?_push_size _ rfl
  · have e : b = s1.heap.objs.size := by simpa using hb
    subst e
    exact I1.fpOk (Nat.le_refl _) (I1.hok.fresh (Nat.le_refl _))
theorem get_list : PGet X (fun x y H Q => ∃ p xs i v, x = .ref p ∧ y = .int i ∧ 0 ≤ i ∧ SqL X.K H p xs ∧ atI xs i = some v ∧ Q v H) := by
  intro pins s σ H x y v u Q I rx ry h
  obtain ⟨p, xs, i, z, rfl, rfl, h0, hq, he, q⟩ := h
  cases rx
  obtain ⟨t, rfl⟩ := ry
  obtain ⟨its, r, pl, hz⟩ := I.list hq
  obtain ⟨j, h1, h2, h3, h4, h5⟩ := atI_get he
  obtain ⟨w, ew, rw'⟩ := r.get h2
  have hl := r.length
  have hn := line63
  have hj : i.toNat = j := by
    rw [seqIndex_of h0 h5] at h1
    exact Option.some.inj h1
  exact wpAny_getItem_list pl.isList h0 (by omega) (by rw [hj]; simpa using ew) ⟨z, H, I, rw', q⟩
end
section
variable [NM] {G : Gd} {W : WX} {X : Cx}
def oRngV : List D → Option R
  | [.int n] => some (.ok (.rng n))
  | _ => none
theorem opA_rngV : OpA G (fun vs H Q => ∃ j, vs = [V.int j] ∧ ∀ p, H p = none → Q (.ref p) (upd H p (.rng 0 j))) oRngV := by
  intro xs z h B H vs hs rl Q q
  unfold oRngV at h
  split at h
  · cases h
    cases rl with
    | cons r1 r2 =>
      cases r2
      cases r1
      exact ⟨_, rfl, fun p hp => q _ (upd B p (.rng 0 _)) _ (Stp.new hs hp) (Rep.rng upd_same)⟩
  · cases h
theorem pd_rngV {e : Expr} {p pos : Pos} {f : Fx} (hg : Gl X "range") (hm : X.mg "range" = none) (he : PE X e (teD G W f)) (hs : starEach [e] X.env = (false, eval e X.env) :: starEach [] X.env := by rfl) :
    PE X (.Call (.Name "range" p) [e] [] pos) (teD G W (fA oRngV [f])) :=
  pd_callTy cr_range1 opA_rngV hg hm boot_range (pda_cons he pda_nil hs) (hs := hs)
def oLenR : List D → Option R
  | [.rng n] => if 0 ≤ n ∧ n < 2 ^ 62 then some (.ok (.int n)) else none
  | _ => none
theorem opA_lenR : OpA G (fun xs H Q => ∃ a n, xs = [V.ref a] ∧ H a = some (.rng 0 n) ∧ 0 ≤ n ∧ n < 2 ^ 62 ∧ Q (.int n) H) oLenR := by
  intro xs z h B H vs hs rl Q q
  unfold oLenR at h
  split at h
  · split at h
    · rename_i hc
      cases h
      cases rl with
      | cons r1 r2 =>
        cases r2
        cases r1 with
        | rng h1 => exact ⟨_, _, rfl, hs _ _ h1, hc.1, hc.2, q _ B H (Stp.refl hs) .int⟩
    · cases h
  · cases h
theorem pd_lenR {e : Expr} {p pos : Pos} {f : Fx} (hg : Gl X "len") (hm : X.mg "len" = none) (he : PE X e (teD G W f)) (hs : starEach [e] X.env = (false, eval e X.env) :: starEach [] X.env := by rfl) :
    PE X (.Call (.Name "len" p) [e] [] pos) (teD G W (fA oLenR [f])) :=
  pd_callB call_lenR opA_lenR hg hm PySem.boot_len (pda_cons he pda_nil hs) (hs := hs)
def fItRV (f : Fx) : Ix := fun ε => match f ε with
  | some (.ok (.rng n)) => if 0 ≤ n ∧ n ≤ 1000000000 then some (.it (rngD 0 n.toNat) true) else none
  | some (.ex n) => some (.ex n)
  | _ => none
theorem pdi_rngV {tg a : Expr} {f : Fx} (ha : PE X a (teD G W f)) : PI X tg a (tiD G W (fItRV f)) :=
  (pi_rngV ha).impD fun σ H Rk ⟨B, ε, r, hs, he, hf, hq, hx⟩ => by
    unfold fItRV at hf
    split at hf
    · rename_i n e1
      split at hf
      · rename_i hn
        cases hf
        refine ⟨B, ε, _, hs, he, e1, fun v B' H' st res => ?_, fun n q => by cases q⟩
        cases res with
        | rng h1 =>
          refine ⟨_, n, rfl, st.s _ _ h1, hn.1, by omega, hq _ _ _ noH B' H' rfl st no_same wlk_range (fun _ _ _ e => by cases e)⟩
      · cases hf
    · rename_i n e1
      cases hf
      exact ⟨B, ε, .ex n, hs, he, e1, fun v B' H' st res => res.elim, fun m q => by cases q; exact hx n rfl⟩
    · cases hf
/-! ### reversed(a list) -/
theorem wlk_rev {Bw : Hp} {a : Addr} {vs : List V} {ds : List D} (h : SqL G.K Bw a vs) (r : RepL G Bw vs ds) : Wlk G Bw (Itv G.K a vs.length) ds.reverse := fun i H s =>
  ⟨fun x hx => by
    have hi : i < ds.length := by
      have := (List.getElem?_eq_some_iff.mp hx).1
      rwa [List.length_reverse] at this
    rw [List.getElem?_reverse hi] at hx
    obtain ⟨v, h1, h2⟩ := r.get hx
    rw [← r.length] at h1 hi
    refine ⟨⟨hi, vs, v, s.seq h, h1⟩, fun v' H1 y B1 s1 s2 => ?_⟩
    obtain ⟨rfl, y2⟩ := y
    have e := y2 vs (s.seq h)
    rw [h1] at e
    cases e
    exact ⟨B1, Stp.refl s2, h2.mono s1⟩, fun hi => by
    rw [List.length_reverse, ← r.length] at hi
    exact hi⟩
def fItV (f : Fx) : Ix := fun ε => match fItL f ε with
  | some (.it xs fr) => some (.it xs.reverse fr)
  | some (.ex n) => some (.ex n)
  | none => none
theorem pdi_rev {tg e : Expr} {f : Fx} {p pos : Pos} (hg : Gl X "reversed") (hm : X.mg "reversed" = none) (he : PE X e (teD G W f)) (hs : starEach [e] X.env = (false, eval e X.env) :: starEach [] X.env := by rfl) (hK : X.K = G.K := by rfl) :
    PI X tg (.Call (.Name "reversed" p) [e] [] pos) (tiD G W (fItV f)) :=
  (RT.pi_revA hg hm he hs).impD fun σ H Rk ⟨B, ε, r, hs, he, hf, hq, hx⟩ => by
    unfold fItV at hf
    split at hf
    · rename_i xs fr e1
      cases hf
      refine te_list hs he e1 (fun n q => by cases q) fun a vs ds fr Bw B' H' er st sw sq rl fn => ⟨a, vs, rfl, .inl ⟨?_, ?_⟩⟩
      · rw [hK]
        exact st.s.seq (sw.seq sq)
      · cases er
        rw [hK]
        exact hq _ _ _ Bw B' H' rfl st sw (wlk_rev sq rl) fn
    · rename_i n e1
      cases hf
      exact te_list hs he e1 (fun m q => by cases q; exact hx n rfl) fun a vs ds fr Bw B' H' er => by cases er
    · cases hf
/-! ### x[k] = e, k from the end too; x[k] op= e; x.reverse() -/
def dSetI (i : Nat) (fk f : Fx) : Ds := fun E δ => ∃ ds r z, δ[i]? = some (.own ds) ∧ getR f δ r ∧ fk (pub δ) = some z ∧ onR r (fun d => onR z (fun k => ∃ (m : Int) (j : Nat), k = .int m ∧ ixN ds.length m = some j ∧ E.nx (δ.set i (.own (ds.set j d)))) (fun n => E.ex n δ)) (fun n => E.ex n δ)
theorem pd_setI {i : Nat} {x k e : Expr} {p pos : Pos} {f fk : Fx} (hx : PE X x (tVar i)) (hk : PE X k (teD G W fk)) (he : PE X e (teD G W f)) (hpg : ∀ {to ti : TE} {t : TSet}, PE X x to → PE X k ti → PSet X t → PG X (.Subscript x k p) (gSub to ti t) := by exact fun h1 h2 h3 => pg_sub h1 h2 h3)
    (hs : swapsWithSole [.Subscript x k p] e pos.line X.env = pure false := by rfl) (hw : swappedStores [.Subscript x k p] e X.env = pure none := by rfl) :
    PS X (.Assign [.Subscript x k p] e pos) (tsD G W (dSetI i fk f)) := (ps_asg he (hpg hx hk set_list) hs hw).impD fun Dn σ H ⟨B0, H0, B, δ, E, e, ⟨ds, r, z, hi, g, gk, q⟩, o⟩ => by
  obtain ⟨a, vs, h1, h2, h3, h4, h5⟩ := e.own i ds hi
  refine run_e e g (fun n er H' st => ?_) fun v d B' H' ed st rp _ => ?_
  · subst er
    exact o.ex n B δ σ H' (Same.refl _) (e.stp st) q
  · refine ⟨.ref a, h1, ?_⟩
    have e1 := e.stp st
    have q1 := onR_val q ed
    refine run_p e1 gk (fun n er H2 st2 => ?_) fun v2 d2 B2 H2 ed2 st2 _ rp2 => ?_
    · subst er
      exact o.ex n B' δ σ H2 st.b (e1.stp st2) q1
    · obtain ⟨m, j, rfl, hj, q2⟩ := onR_val q1 ed2
      cases rp2
      refine ⟨a, vs, m, j, rfl, rfl, st2.h _ _ (st.h _ _ h4), by rw [h5.length]; exact hj, ?_⟩
      exact o.nx B' _ _ _ st.b ((e1.stp st2).change hi h1 (RepL.set rp j (h5.mono st.b))) q2
def dAugS (i : Nat) (fk : Fx) (op : Int → Int → Int) (f : Fx) : Ds := fun E δ => ∃ ds z, δ[i]? = some (.own ds) ∧ fk (pub δ) = some z ∧ onR z (fun k => ∃ (j : Nat) (a : Int) (r : R), k = .int j ∧ ds[j]? = some (.int a) ∧ f (pub δ) = some r ∧ onR r (fun d => ∃ b, d = .int b ∧ E.nx (δ.set i (.own (ds.set j (.int (op a b)))))) (fun n => E.ex n δ)) (fun n => E.ex n δ)
theorem pd_augS {i : Nat} {x k e : Expr} {tpos pos : Pos} {op : Operator} {f fk : Fx} {g : Int → Int → Int} (hx : PE X x (tVar i)) (hk : PE X k (teD G W fk)) (he : PE X e (teD G W f)) (ho : PIp X op (ipI g)) (hK : X.K = G.K := by rfl)
    (ha : ∀ ov iv new, augStore k ov iv new = (do holding [new, ov, iv] (setItem ov iv new); release [new, ov, iv] []; pure .next) := by intros; rfl) :
    PS X (.AugAssign (.Subscript x k tpos) op e pos) (tsD G W (dAugS i fk g f)) := (ps_augS hx hk get_list he ho set_list ha).impD fun Dn σ H ⟨B0, H0, B, δ, E, e, ⟨ds, z, hi, gk, q⟩, o⟩ => by
  obtain ⟨a, vs, h1, h2, h3, h4, h5⟩ := e.own i ds hi
  refine ⟨.ref a, h1, ?_⟩
  refine run_p e gk (fun n er H' st => ?_) fun v d B' H' ed st _ rp => ?_
  · subst er
    exact o.ex n B δ σ H' (Same.refl _) (e.stp st) q
  · obtain ⟨j, y, r, rfl, hj, g2, q2⟩ := onR_val q ed
    cases rp
    have e1 := e.stp st
    obtain ⟨a', vs', h1', h2', h3', h4', h5'⟩ := e1.own i ds hi
    rw [h1] at h1'
    cases h1'
    obtain ⟨u, hu, ru⟩ := h5'.get hj
    cases ru
    refine ⟨a, vs', (j : Int), .int y, rfl, rfl, by omega, by rw [hK]; exact SqL.of h4', atI_nat hu, ?_⟩
    refine run_p e1 g2 (fun n er H2 st2 => ?_) fun v2 d2 B2 H2 ed2 st2 _ rp2 => ?_
    · subst er
      exact o.ex n B δ σ H2 (Same.refl _) (e1.stp st2) q2
    · obtain ⟨b, rfl, q3⟩ := onR_val q2 ed2
      cases rp2
      have e2 := e1.stp st2
      obtain ⟨a3, vs3, k1, k2, k3, k4, k5⟩ := e2.own i ds hi
      rw [h1] at k1
      cases k1
      refine ⟨y, b, rfl, rfl, a, vs3, (j : Int), j, rfl, rfl, k4, ixN_at (by rw [k5.length]; exact (List.getElem?_eq_some_iff.mp hj).1), ?_⟩
      exact o.nx B _ _ _ (Same.refl _) (e2.change hi h1 (RepL.set .int j k5)) q3
def dRev (i : Nat) : Ds := fun E δ => ∃ ds, δ[i]? = some (.own ds) ∧ E.nx (δ.set i (.own ds.reverse))
theorem pd_revS {i : Nat} {x : Expr} {apos cpos pos : Pos} (hx : PE X x (tVar i)) (hbase : attributeBase x "reverse" X.env (eval x X.env) = eval x X.env := by rfl) (hline : (apos.endLine == cpos.line) = true := by rfl) (hsw : swapsWith (.Call (.Attribute x "reverse" apos) [] [] cpos) none pos.line X.env = pure false := by rfl) :
    PS X (.Expr (.Call (.Attribute x "reverse" apos) [] [] cpos) pos) (tsD G W (dRev i)) :=
  (ps_expr (pe_bm0 PySem.F.plainAttrs_list PySem.F.slot_list_reverse PySem.F.type_list_reverse mt_reverse hx hbase hline) hsw).impD fun Dn σ H ⟨B0, H0, B, δ, E, e, ⟨ds, hi, q⟩, o⟩ => by
  obtain ⟨a, vs, h1, h2, h3, h4, h5⟩ := e.own i ds hi
  exact ⟨.ref a, h1, .inl ⟨rfl, vs, SqL.of h4⟩, a, vs, rfl, rfl, h4, o.nx B _ _ _ (Same.refl _) (e.change hi h1 h5.reverse) q⟩
end
end DY
namespace DY
open PySem PySem.Spec PyProof.Rows L2
section
variable [NM]
/-! ### values of operations -/
theorem oMod_ok {i j : Int} (h : 0 < j) : oMod (.int i) (.int j) = some (.ok (.int (i % j))) := if_pos h
theorem oDiv_ok {i j : Int} (h : 0 < j) (h2 : j < 1073741824) : oDiv (.int i) (.int j) = some (.ok (.int (i / j))) := if_pos ⟨h, h2⟩
theorem oShl_one {m : Int} (h : 0 ≤ m) (h2 : m ≤ 1000000) : oShl (.int 1) (.int m) = some (.ok (.int (2 ^ m.toNat))) := by
  show (if 0 ≤ m ∧ m ≤ 1000000 ∧ (1 : Int).natAbs < 2 ^ 64 then some (R.ok (.int (1 * 2 ^ m.toNat))) else none) = _
  rw [if_pos ⟨h, h2, by decide⟩, Int.one_mul]
theorem oShr_ok {i j : Int} (h : 0 ≤ j) : oShr (.int i) (.int j) = some (.ok (.int (i / 2 ^ j.toNat))) := if_pos h
theorem oMul_ok {i j : Int} (h : MulOk i j) : oMul (.int i) (.int j) = some (.ok (.int (i * j))) := if_pos h
theorem mul_l {i j : Int} (h1 : -(2 ^ 64) < i) (h2 : i < 2 ^ 64) : MulOk i j := .inl (.inl ⟨h1, h2⟩)
theorem mul_r {i j : Int} (h1 : -(2 ^ 64) < j) (h2 : j < 2 ^ 64) : MulOk i j := .inl (.inr ⟨h1, h2⟩)
theorem mul_w {i j : Int} {a b : Nat} (ha : i.natAbs < 2 ^ a) (hb : j.natAbs < 2 ^ b) (h0 : 0 < a) (h1 : 0 < b) (h : a + b ≤ 1000000) : MulOk i j := .inr (wide_mul ha hb h0 h1 h)
theorem oRep_ok {ds : List D} {k : Int} (h : 0 ≤ k) (h2 : k ≤ 100000) (h3 : ds.length * k.toNat ≤ 100000) : oMul (.lst ds) (.int k) = some (.nw (repD ds k.toNat)) := if_pos ⟨h, h2, h3⟩
theorem oCat_ok {a b : List D} (h : a.length + b.length ≤ 100000) : oAdd (.lst a) (.lst b) = some (.nw (a ++ b)) := if_pos h
theorem oIx_ok {ds : List D} {i : Int} {d : D} (h : 0 ≤ i) (e : ds[i.toNat]? = some d) : oIx (.lst ds) (.int i) = some (.ok d) := by
  have hl := (List.getElem?_eq_some_iff.mp e).1
  show (atI ds i).map R.ok = _
  unfold atI ixN
  rw [if_pos h, if_pos (by omega), Option.bind_some, e] <;> rfl
theorem oIxT_ok {ds : List D} {i : Int} {d : D} (h : 0 ≤ i) (e : ds[i.toNat]? = some d) : oIx (.tup ds) (.int i) = some (.ok d) := oIx_ok (ds := ds) h e
theorem repD_one (d : D) : ∀ n, repD [d] n = List.replicate n d
  | 0 => rfl
  | n + 1 => by
    rw [repD, repD_one d n, List.replicate_succ] <;> rfl

/-! ### == of data -/
theorem toPs_ints : ∀ ns : List Int, D.toPs (ns.map D.int) = ns.map PyData.int
  | [] => by rw [List.map_nil, D.toPs]; rfl
  | n :: r => by rw [List.map_cons, D.toPs, D.toP, toPs_ints r]; rfl
theorem plains_ints : ∀ ns : List Int, D.plains (ns.map D.int) = true
  | [] => by rw [List.map_nil, D.plains]
  | n :: r => by rw [List.map_cons, D.plains, D.plain, plains_ints r]; rfl
theorem canLay_ints : ∀ ns : List Int, PyData.canLayAll0 (ns.map PyData.int) = true
  | [] => by rw [List.map_nil, PyData.canLayAll0]
  | n :: r => by rw [List.map_cons, PyData.canLayAll0, PyData.canLay0, canLay_ints r]; rfl
theorem depth_ints : ∀ ns : List Int, PyData.depthAll (ns.map PyData.int) ≤ 1
  | [] => by rw [List.map_nil, PyData.depthAll]; omega
  | n :: r => by
    rw [List.map_cons, PyData.depthAll, PyData.depth]
    have := depth_ints r
    omega
theorem shp_int (i : Int) : shp (.int i) = true := by
  unfold shp SeqAt.shaped
  rw [D.toP, D.plain, PyData.canLay0, PyData.depth] <;> rfl
theorem shp_bl (b : Bool) : shp (.bl b) = true := by
  unfold shp SeqAt.shaped
  rw [D.toP, D.plain, PyData.canLay0, PyData.depth] <;> rfl
theorem shp_ints (ns : List Int) : shp (.lst (ns.map .int)) = true := by
  unfold shp SeqAt.shaped
  rw [D.toP, D.plain, toPs_ints, plains_ints, PyData.canLay0, canLay_ints, PyData.depth]
  have := depth_ints ns
  rw [decide_eq_true (by omega)] <;> rfl
theorem shp_nil : shp (.lst []) = true := shp_ints []
theorem eqv_ints : ∀ ns ms : List Int, PyData.eqvAll (ns.map PyData.int) (ms.map PyData.int) = decide (ns = ms)
  | [], [] => by rw [List.map_nil, PyData.eqvAll]; rfl
  | [], m :: ms => by rw [List.map_nil, List.map_cons, PyData.eqvAll]; rfl
  | n :: ns, [] => by rw [List.map_nil, List.map_cons, PyData.eqvAll]; rfl
  | n :: ns, m :: ms => by
    rw [List.map_cons, List.map_cons, PyData.eqvAll, PyData.eqv, eqv_ints ns ms]
    by_cases h1 : n = m
    · by_cases h2 : ns = ms
      · simp [h1, h2]
      · simp [h1, h2]
    · simp [h1]
theorem eqD_ints (ns ms : List Int) : eqD (.lst (ns.map .int)) (.lst (ms.map .int)) = decide (ns = ms) := by
  unfold eqD
  rw [D.toP, D.toP, toPs_ints, toPs_ints, PyData.eqv, eqv_ints]
theorem eqD_int (i j : Int) : eqD (.int i) (.int j) = decide (i = j) := by
  unfold eqD
  rw [D.toP, D.toP, PyData.eqv]
  exact Bool.beq_eq_decide_eq i j
theorem eqD_bl (i j : Bool) : eqD (.bl i) (.bl j) = decide (i = j) := by
  unfold eqD
  rw [D.toP, D.toP, PyData.eqv]
  exact Bool.beq_eq_decide_eq i j
theorem oEq_int (i j : Int) : oEq (.int i) (.int j) = some (.ok (.bl (decide (i = j)))) := by
  unfold oEq
  rw [shp_int, shp_int, eqD_int] <;> rfl
theorem oNe_int (i j : Int) : oNe (.int i) (.int j) = some (.ok (.bl (!decide (i = j)))) := by
  unfold oNe
  rw [shp_int, shp_int, eqD_int] <;> rfl
theorem oNe_bl (i j : Bool) : oNe (.bl i) (.bl j) = some (.ok (.bl (!decide (i = j)))) := by
  unfold oNe
  rw [shp_bl, shp_bl, eqD_bl] <;> rfl
theorem oEq_ints (ns ms : List Int) : oEq (.lst (ns.map .int)) (.lst (ms.map .int)) = some (.ok (.bl (decide (ns = ms)))) := by
  unfold oEq
  rw [shp_ints, shp_ints, eqD_ints] <;> rfl
theorem oNe_ints (ns ms : List Int) : oNe (.lst (ns.map .int)) (.lst (ms.map .int)) = some (.ok (.bl (!decide (ns = ms)))) := by
  unfold oNe
  rw [shp_ints, shp_ints, eqD_ints] <;> rfl
theorem oEq_nil (ns : List Int) : oEq (.lst (ns.map .int)) (.lst []) = some (.ok (.bl (decide (ns = [])))) := oEq_ints ns []
theorem oNe_nil (ns : List Int) : oNe (.lst (ns.map .int)) (.lst []) = some (.ok (.bl (!decide (ns = [])))) := oNe_ints ns []
theorem inD_ints (i : Int) (ns : List Int) : inD (.int i) (ns.map .int) = decide (i ∈ ns) := by
  unfold inD inV
  induction ns with
  | nil => rfl
  | cons n r ih =>
    rw [List.map_cons, List.map_cons, List.any_cons, ih]
    show ((n == i) || decide (i ∈ r)) = decide (i ∈ n :: r)
    by_cases h : n = i
    · simp [h]
    · have h' : ¬ i = n := fun e => h e.symm
      simp [h, h']
theorem flat_ints (ns : List Int) : (ns.map D.int).all D.flat = true := by
  induction ns with
  | nil => rfl
  | cons n r ih => rw [List.map_cons, List.all_cons, ih] <;> rfl
theorem oIn_ints (neg : Bool) (i : Int) (ns : List Int) : oIn neg (.int i) (.lst (ns.map .int)) = some (.ok (.bl (if neg then !decide (i ∈ ns) else decide (i ∈ ns)))) := by
  show (if (D.flat (.int i) && (ns.map D.int).all D.flat) = true then some (R.ok (.bl (if neg then !inD (.int i) (ns.map .int) else inD (.int i) (ns.map .int)))) else none) = _
  rw [flat_ints, inD_ints] <;> rfl

/-! ### comprehensions over ints -/
/-- one name, a list of ints walked; the test and the element by the int -/
theorem lcR_ints {i : Nat} {ft fe : Fx} {ε : En} (p : Int → Bool) (e : Int → Int) : ∀ (ns : List Int), (∀ n ∈ ns, ft (ε.set i (some (.int n))) = some (.ok (.bl (p n)))) → (∀ n ∈ ns, p n = true → ∃ r, fe (ε.set i (some (.int n))) = some r ∧ r.val = some (.int (e n))) →
    lcR (.nm i) ft fe ε (ns.map D.int) = some (((ns.filter p).map e).map D.int)
  | [], _, _ => rfl
  | n :: r, ht, he => by
    have ih := lcR_ints p e r (fun m h => ht m (List.mem_cons_of_mem _ h)) fun m h => he m (List.mem_cons_of_mem _ h)
    have h1 := ht n List.mem_cons_self
    rw [List.map_cons]
    show (match ft (ε.set i (some (.int n))) with | some (.ok (.bl true)) => _ | some (.ok (.bl false)) => _ | _ => none) = _
    rw [h1]
    cases hp : p n with
    | false =>
      rw [List.filter_cons_of_neg (by rw [hp]; decide)]
      exact ih
    | true =>
      obtain ⟨x, h2, h3⟩ := he n List.mem_cons_self hp
      rw [List.filter_cons_of_pos hp]
      show (match fe (ε.set i (some (.int n))) with | some r => _ | none => none) = _
      rw [h2]
      show (match x.val with | some d => _ | none => none) = _
      rw [h3]
      show (lcR (.nm i) ft fe ε (r.map D.int)).map (D.int (e n) :: ·) = _
      rw [ih] <;> rfl
/-- with any data as the element -/
theorem lcR_to {i : Nat} {ft fe : Fx} {ε : En} (p : D → Bool) (e : D → D) : ∀ (ds : List D), (∀ n ∈ ds, ft (ε.set i (some n)) = some (.ok (.bl (p n)))) → (∀ n ∈ ds, p n = true → ∃ r, fe (ε.set i (some n)) = some r ∧ r.val = some (e n)) →
    lcR (.nm i) ft fe ε ds = some ((ds.filter p).map e)
  | [], _, _ => rfl
  | n :: r, ht, he => by
    have ih := lcR_to p e r (fun m h => ht m (List.mem_cons_of_mem _ h)) fun m h => he m (List.mem_cons_of_mem _ h)
    have h1 := ht n List.mem_cons_self
    show (match ft (ε.set i (some n)) with | some (.ok (.bl true)) => _ | some (.ok (.bl false)) => _ | _ => none) = _
    rw [h1]
    cases hp : p n with
    | false =>
      rw [List.filter_cons_of_neg (by rw [hp]; decide)]
      exact ih
    | true =>
      obtain ⟨x, h2, h3⟩ := he n List.mem_cons_self hp
      rw [List.filter_cons_of_pos hp]
      show (match fe (ε.set i (some n)) with | some r => _ | none => none) = _
      rw [h2]
      show (match x.val with | some d => _ | none => none) = _
      rw [h3]
      show (lcR (.nm i) ft fe ε r).map (e n :: ·) = _
      rw [ih] <;> rfl
def upI (lo : Int) (n : Nat) : List Int := (List.range n).map fun i => lo + (i : Nat)
theorem rngD_ints (lo : Int) (n : Nat) : rngD lo n = (upI lo n).map D.int := by
  unfold rngD upI
  rw [List.map_map] <;> rfl
theorem upI_len (lo : Int) (n : Nat) : (upI lo n).length = n := by simp [upI]
theorem mem_upI {lo : Int} {n : Nat} {x : Int} : x ∈ upI lo n ↔ lo ≤ x ∧ x < lo + n := by
  unfold upI
  rw [List.mem_map]
  constructor
  · rintro ⟨i, hi, rfl⟩
    rw [List.mem_range] at hi
    omega
  · rintro ⟨h1, h2⟩
    exact ⟨(x - lo).toNat, List.mem_range.mpr (by omega), by omega⟩
theorem fLc_ok {fi : Ix} {t : Tg} {ft fe : Fx} {own : List Nat} {ε : En} {xs ds : List D} {fr : Bool} (h : fi ε = some (.it xs fr)) (hl : xs.length ≤ 90000) (h2 : lcR t ft fe (wipeE ε own) xs = some ds) : fLc fi t ft fe own ε = some (.nw ds) := by
  unfold fLc
  rw [h]
  show (if xs.length ≤ 90000 then _ else none) = _
  rw [if_pos hl, h2] <;> rfl
theorem fItR_ok {f : Fx} {ε : En} {n : Int} (h : f ε = some (.ok (.int n))) (h1 : -1000000000 ≤ n) (h2 : n ≤ 1000000000) : fItR f ε = some (.it ((upI 0 n.toNat).map .int) true) := by
  unfold fItR
  rw [h]
  show (if -1000000000 ≤ n ∧ n ≤ 1000000000 then some (IR.it (rngD 0 n.toNat) true) else none) = _
  rw [if_pos ⟨h1, h2⟩, rngD_ints]
theorem fChain_int {f g h : Fx} {ε : En} {i j k : Int} (hf : f ε = some (.ok (.int i))) (hg : g ε = some (.ok (.int j))) (hh : h ε = some (.ok (.int k))) : fChain oLe oLt f g h ε = some (.ok (.bl (decide (i ≤ j) && decide (j < k)))) := by
  unfold fChain
  rw [hf, hg]
  show (match D.bl (decide (i ≤ j)) with | .bl true => seqR (h ε) fun w => oLt (.int j) w | .bl false => some (.ok (.bl false)) | _ => none) = _
  rw [hh]
  cases decide (i ≤ j) <;> rfl
theorem f2_ok {op : D → D → Option R} {f g : Fx} {ε : En} {rx ry : R} {x y : D} {z : Option R} (hf : f ε = some rx) (ex : rx.val = some x) (hg : g ε = some ry) (ey : ry.val = some y) (h : op x y = z) : f2 op f g ε = z := by
  have k : ∀ (r : R) (d : D) (c : D → Option R), r.val = some d → seqR (some r) c = c d := fun r d c e => by
    cases r <;> cases e <;> rfl
  unfold f2
  rw [hf, hg, k rx x _ ex, k ry y _ ey]
  exact h
theorem f1_ok {op : D → Option R} {f : Fx} {ε : En} {rx : R} {x : D} {z : Option R} (hf : f ε = some rx) (ex : rx.val = some x) (h : op x = z) : f1 op f ε = z := by
  unfold f1
  rw [hf]
  cases rx with
  | ok d => cases ex; exact h
  | nw ds => cases ex; exact h
  | nn t ps => cases ex; exact h
  | ex n => cases ex
theorem fA_1 {op : List D → Option R} {f : Fx} {ε : En} {rx : R} {x : D} {z : Option R} (hf : f ε = some rx) (ex : rx.val = some x) (h : op [x] = z) : fA op [f] ε = z := by
  unfold fA argsV
  rw [hf]
  cases rx with
  | ok d => cases ex; exact h
  | nw ds => cases ex; exact h
  | nn t ps => cases ex; exact h
  | ex n => cases ex
theorem fA_2 {op : List D → Option R} {f g : Fx} {ε : En} {rx ry : R} {x y : D} {z : Option R} (hf : f ε = some rx) (ex : rx.val = some x) (hg : g ε = some ry) (ey : ry.val = some y) (h : op [x, y] = z) : fA op [f, g] ε = z := by
  have e : argsV [g] ε = some (.ok [y]) := by
    unfold argsV
    rw [hg]
    cases ry with
    | ok d => cases ey; rfl
    | nw ds => cases ey; rfl
    | nn t ps => cases ey; rfl
    | ex n => cases ey
  unfold fA
  rw [argsV, hf, e]
  cases rx with
  | ok d => cases ex; exact h
  | nw ds => cases ex; exact h
  | nn t ps => cases ex; exact h
  | ex n => cases ex
theorem fA_3 {op : List D → Option R} {f g k : Fx} {ε : En} {rx ry rz : R} {x y w : D} {z : Option R} (hf : f ε = some rx) (ex : rx.val = some x) (hg : g ε = some ry) (ey : ry.val = some y) (hk : k ε = some rz) (ez : rz.val = some w) (h : op [x, y, w] = z) : fA op [f, g, k] ε = z := by
  have e : argsV [g, k] ε = some (.ok [y, w]) := by
    have e1 : argsV [k] ε = some (.ok [w]) := by
      unfold argsV
      rw [hk]
      cases rz with
      | ok d => cases ez; rfl
      | nw ds => cases ez; rfl
      | nn t ps => cases ez; rfl
      | ex n => cases ez
    rw [argsV, hg, e1]
    cases ry with
    | ok d => cases ey; rfl
    | nw ds => cases ey; rfl
    | nn t ps => cases ey; rfl
    | ex n => cases ey
  unfold fA
  rw [argsV, hf, e]
  cases rx with
  | ok d => cases ex; exact h
  | nw ds => cases ex; exact h
  | nn t ps => cases ex; exact h
  | ex n => cases ex
theorem fSl_ok {f g h : Fx} {ε : En} {rx : R} {x : D} {i j : Int} {z : Option R} (hf : f ε = some rx) (ex : rx.val = some x) (hg : g ε = some (.ok (.int i))) (hh : h ε = some (.ok (.int j))) (e : oSl x (some i) (some j) = z) : fSl f (some g) (some h) ε = z := by
  have k : ∀ y, (seqR (g ε) fun d => match d with | .int i => (seqR (h ε) fun d => match d with | .int j => oSl y (some i) (some j) | _ => none) | _ => none) = oSl y (some i) (some j) := fun y => by
    rw [hg, hh] <;> rfl
  unfold fSl
  rw [hf]
  cases rx with
  | ok d => cases ex; exact (k _).trans e
  | nw ds => cases ex; exact (k _).trans e
  | nn t ps => cases ex; exact (k _).trans e
  | ex n => cases ex
theorem fSl_to {f h : Fx} {ε : En} {rx : R} {x : D} {j : Int} {z : Option R} (hf : f ε = some rx) (ex : rx.val = some x) (hh : h ε = some (.ok (.int j))) (e : oSl x none (some j) = z) : fSl f none (some h) ε = z := by
  have k : ∀ y, (seqR (h ε) fun d => match d with | .int j => oSl y none (some j) | _ => none) = oSl y none (some j) := fun y => by
    rw [hh] <;> rfl
  unfold fSl
  rw [hf]
  cases rx with
  | ok d => cases ex; exact (k _).trans e
  | nw ds => cases ex; exact (k _).trans e
  | nn t ps => cases ex; exact (k _).trans e
  | ex n => cases ex
theorem fSl_from {f g : Fx} {ε : En} {rx : R} {x : D} {i : Int} {z : Option R} (hf : f ε = some rx) (ex : rx.val = some x) (hg : g ε = some (.ok (.int i))) (e : oSl x (some i) none = z) : fSl f (some g) none ε = z := by
  have k : ∀ y, (seqR (g ε) fun d => match d with | .int i => oSl y (some i) none | _ => none) = oSl y (some i) none := fun y => by
    rw [hg] <;> rfl
  unfold fSl
  rw [hf]
  cases rx with
  | ok d => cases ex; exact (k _).trans e
  | nw ds => cases ex; exact (k _).trans e
  | nn t ps => cases ex; exact (k _).trans e
  | ex n => cases ex
theorem fItL_ok {f : Fx} {ε : En} {ds : List D} (h : f ε = some (.ok (.lst ds))) : fItL f ε = some (.it ds false) := by
  unfold fItL
  rw [h]
theorem fItL_nw {f : Fx} {ε : En} {ds : List D} (h : f ε = some (.nw ds)) : fItL f ε = some (.it ds (ds.all D.flat)) := by
  unfold fItL
  rw [h]
theorem fNot_ok {f : Fx} {ε : En} {b : Bool} (h : f ε = some (.ok (.bl b))) : fNot f ε = some (.ok (.bl !b)) := f1_ok h rfl rfl
theorem fTru_ok {f : Fx} {ε : En} {b : Bool} (h : f ε = some (.ok (.bl b))) : fTru f ε = some (.ok (.bl b)) := f1_ok h rfl rfl
theorem fAnd_t {f g : Fx} {ε : En} {z : Option R} (h : f ε = some (.ok (.bl true))) (h2 : g ε = z) : fAnd f g ε = z := by
  unfold fAnd
  rw [h]
  exact h2
theorem fAnd_f {f g : Fx} {ε : En} (h : f ε = some (.ok (.bl false))) : fAnd f g ε = some (.ok (.bl false)) := by
  unfold fAnd
  rw [h] <;> rfl
theorem fOr_f {f g : Fx} {ε : En} {z : Option R} (h : f ε = some (.ok (.bl false))) (h2 : g ε = z) : fOr f g ε = z := by
  unfold fOr
  rw [h]
  exact h2
/-- slices of ints -/
def cutI (ns : List Int) (lo hi : Option Int) : List Int := (ns.drop (HT.sIx ns.length 0 lo)).take (HT.sIx ns.length ns.length hi - HT.sIx ns.length 0 lo)
theorem cutD_ints (ns : List Int) (lo hi : Option Int) : cutD (ns.map D.int) lo hi = (cutI ns lo hi).map D.int := by
  unfold cutD cutI
  rw [List.length_map, ← List.map_drop, ← List.map_take]
theorem cutI_len (ns : List Int) (lo hi : Option Int) : (cutI ns lo hi).length ≤ ns.length := by
  unfold cutI
  rw [List.length_take, List.length_drop]
  omega
theorem ints_ok (ns : List Int) : (ns.map D.int).length = ns.length := List.length_map _
theorem oPow_ok {i j : Int} (h : 0 ≤ j ∧ j ≤ 1000000 ∧ i.natAbs < 2 ^ 64) : oPow (.int i) (.int j) = some (.ok (.int (i ^ j.toNat))) := if_pos h
end
end DY
namespace DY
open PySem PySem.Spec PyProof.Rows L2
section
variable [NM]
/-! ### sets below 1024 as numbers -/
theorem bandN (a b : Nat) : Builtin.bitAnd (a : Int) (b : Int) = ((a &&& b : Nat) : Int) := by
  unfold Builtin.bitAnd
  rw [decide_eq_true (Int.natCast_nonneg a), decide_eq_true (Int.natCast_nonneg b)]
  simp
theorem borN (a b : Nat) : Builtin.bitOr (a : Int) (b : Int) = ((a ||| b : Nat) : Int) := by
  unfold Builtin.bitOr Builtin.bitAnd
  rw [decide_eq_false (show ¬ 0 ≤ Builtin.bitNot (a : Int) by unfold Builtin.bitNot; omega), decide_eq_false (show ¬ 0 ≤ Builtin.bitNot (b : Int) by unfold Builtin.bitNot; omega)]
  have h (x : Nat) : (Builtin.bitNot (Builtin.bitNot (x : Int))) = (x : Int) := by unfold Builtin.bitNot; omega
  show Builtin.bitNot (Builtin.bitNot (((Builtin.bitNot (Builtin.bitNot (a : Int))).toNat ||| (Builtin.bitNot (Builtin.bitNot (b : Int))).toNat : Nat) : Int)) = _
  rw [h a, h b, h, Int.toNat_natCast, Int.toNat_natCast]
def membN (n : Nat) : List Nat := (List.range 10).filter fun k => n.testBit k
def membI (i : Int) : List Int := (upI 0 10).filter fun k => i / 2 ^ k.toNat % 2 != 0
theorem bit_nat (n k : Nat) : ((n : Int) / 2 ^ ((0 : Int) + (k : Nat)).toNat % 2 != 0) = n.testBit k := by
  rw [Nat.testBit_eq_decide_div_mod_eq]
  have e : ((0 : Int) + (k : Nat)).toNat = k := by omega
  have p : ((2 : Int) ^ k) = ((2 ^ k : Nat) : Int) := by simp
  rw [e, p]
  have h : ((n : Int) / ((2 ^ k : Nat) : Int)) = ((n / 2 ^ k : Nat) : Int) := by simp
  rw [h]
  generalize n / 2 ^ k = m
  by_cases c : m % 2 = 1
  · have : ((m : Int) % 2) = 1 := by omega
    simp [c, this]
  · have : ((m : Int) % 2) = 0 := by omega
    simp [c, this]
theorem upI0 (n : Nat) : upI 0 n = (List.range n).map fun k : Nat => (k : Int) := by
  unfold upI
  exact List.map_congr_left fun k _ => Int.zero_add _
theorem membI_nat (n : Nat) : membI (n : Int) = (membN n).map fun k : Nat => (k : Int) := by
  unfold membI membN
  rw [upI0, List.filter_map]
  congr 1
  refine List.filter_congr fun k _ => ?_
  have := bit_nat n k
  rw [Int.zero_add] at this
  exact this
theorem mem_membN {n k : Nat} : k ∈ membN n ↔ k < 10 ∧ n.testBit k = true := by
  unfold membN
  rw [List.mem_filter, List.mem_range]
theorem membN_nodup (n : Nat) : (membN n).Nodup := List.nodup_range.filter _
theorem bit_lt {n k : Nat} (h : n < 1024) (hb : n.testBit k = true) : k < 10 := by
  rcases Nat.lt_or_ge k 10 with c | c
  · exact c
  · have : n < 2 ^ k := Nat.lt_of_lt_of_le h (Nat.le_trans (by decide : 1024 ≤ 2 ^ 10) (Nat.pow_le_pow_right (by decide) c))
    rw [Nat.testBit_lt_two_pow this] at hb
    cases hb
theorem sub_iff {a b : Nat} : a &&& b = a ↔ ∀ j, a.testBit j = true → b.testBit j = true := by
  constructor
  · intro h j hj
    rw [← h, Nat.testBit_and, Bool.and_eq_true] at hj
    exact hj.2
  · intro h
    refine Nat.eq_of_testBit_eq fun j => ?_
    rw [Nat.testBit_and]
    cases e : a.testBit j with
    | false => rfl
    | true => rw [h j e] <;> rfl
theorem sub_memb {a b : Nat} (ha : a < 1024) : a &&& b = a ↔ ∀ k ∈ membN a, k ∈ membN b := by
  rw [sub_iff]
  constructor
  · intro h k hk
    obtain ⟨h1, h2⟩ := mem_membN.mp hk
    exact mem_membN.mpr ⟨h1, h k h2⟩
  · intro h j hj
    exact (mem_membN.mp (h j (mem_membN.mpr ⟨bit_lt ha hj, hj⟩))).2
/-- a of b, told by the members -/
theorem sub_empty {a b : Nat} (ha : a < 1024) : decide (((membI (a : Int)).filter fun k => !decide (k ∈ membI (b : Int))) = []) = decide (Builtin.bitAnd (a : Int) (b : Int) = (a : Int)) := by
  rw [bandN]
  refine decide_eq_decide.mpr ?_
  rw [List.filter_eq_nil_iff]
  have e : (((a &&& b : Nat) : Int) = (a : Int)) ↔ a &&& b = a := by omega
  rw [e, sub_memb ha, membI_nat, membI_nat]
  constructor
  · intro h k hk
    have := h (k : Int) (List.mem_map.mpr ⟨k, hk, rfl⟩)
    simp only [Bool.not_eq_true', decide_eq_false_iff_not, Decidable.not_not] at this
    obtain ⟨k', h1, h2⟩ := List.mem_map.mp this
    have : k' = k := by omega
    rw [← this]
    exact h1
  · intro h k hk
    obtain ⟨k', h1, rfl⟩ := List.mem_map.mp hk
    simp only [Bool.not_eq_true', decide_eq_false_iff_not, Decidable.not_not]
    exact List.mem_map.mpr ⟨k', h k' h1, rfl⟩
/-- the parts of a set -/
def partsI (i : Int) : List Int := (upI 0 (i + 1).toNat).filter fun k => decide (Builtin.bitAnd k i = k)
theorem partsI_nat (n : Nat) : partsI (n : Int) = ((List.range (n + 1)).filter fun k => decide (k &&& n = k)).map fun k : Nat => (k : Int) := by
  unfold partsI
  have e : ((n : Int) + 1).toNat = n + 1 := by omega
  rw [e, upI0, List.filter_map]
  congr 1
  refine List.filter_congr fun k _ => ?_
  show decide (Builtin.bitAnd (k : Int) (n : Int) = (k : Int)) = _
  rw [bandN]
  exact decide_eq_decide.mpr (by omega)
theorem cnt_pow (n : Nat) : ∀ d, (List.range (2 ^ d)).countP (fun k => decide (k &&& n = k)) = 2 ^ (List.range d).countP (fun k => n.testBit k)
  | 0 => by
    have e : List.range (2 ^ 0) = [0] := rfl
    rw [e, List.range_zero, List.countP_nil, List.countP_cons, List.countP_nil, Nat.zero_and] <;> rfl
  | d + 1 => by
    have ih := cnt_pow n d
    rw [Nat.pow_succ, Nat.mul_two, List.range_add, List.countP_append, List.countP_map, ih, List.range_succ, List.countP_append, List.countP_singleton]
    have key : (List.range (2 ^ d)).countP ((fun k => decide (k &&& n = k)) ∘ fun x => 2 ^ d + x) = if n.testBit d then (List.range (2 ^ d)).countP (fun k => decide (k &&& n = k)) else 0 := by
      cases hb : n.testBit d with
      | true =>
        rw [if_pos rfl]
        refine List.countP_congr fun k hk => ?_
        have hk := List.mem_range.mp hk
        simp only [Function.comp, decide_eq_true_eq]
        rw [sub_iff, sub_iff]
        constructor
        · intro h j hj
          have : j ≠ d := fun e => by
            rw [e, Nat.testBit_lt_two_pow hk] at hj
            cases hj
          refine h j ?_
          rcases Nat.lt_or_ge j d with c | c
          · rw [Nat.testBit_two_pow_add_gt c]
            exact hj
          · have : k < 2 ^ j := Nat.lt_of_lt_of_le hk (Nat.pow_le_pow_right (by decide) c)
            rw [Nat.testBit_lt_two_pow this] at hj
            cases hj
        · intro h j hj
          rcases Nat.lt_trichotomy j d with c | c | c
          · rw [Nat.testBit_two_pow_add_gt c] at hj
            exact h j hj
          · rw [c]
            exact hb
          · have h1 : 2 ^ d + k < 2 ^ (d + 1) := by rw [Nat.pow_succ]; omega
            have : 2 ^ d + k < 2 ^ j := Nat.lt_of_lt_of_le h1 (Nat.pow_le_pow_right (by decide) c)
            rw [Nat.testBit_lt_two_pow this] at hj
            cases hj
      | false =>
        rw [if_neg (by decide), List.countP_eq_zero]
        intro k hk
        have hk := List.mem_range.mp hk
        simp only [Function.comp, decide_eq_true_eq]
        rw [sub_iff]
        intro h
        have := h d (by rw [Nat.testBit_two_pow_add_eq, Nat.testBit_lt_two_pow hk] <;> rfl)
        rw [hb] at this
        cases this
    rw [key]
    cases hb : n.testBit d with
    | true => simp only [if_true, ih, Nat.pow_succ, Nat.mul_two]
    | false => simp
theorem parts_count {n : Nat} (h : n < 1024) : (partsI (n : Int)).length = 2 ^ (membI (n : Int)).length := by
  rw [partsI_nat, membI_nat, List.length_map, List.length_map, ← List.countP_eq_length_filter]
  unfold membN
  rw [← List.countP_eq_length_filter, ← cnt_pow n 10]
  have e : List.range (2 ^ 10) = List.range (n + 1) ++ (List.range (1023 - n)).map (n + 1 + ·) := by
    rw [← List.range_add]
    congr 1
    omega
  rw [e, List.countP_append, List.countP_map]
  have z : (List.range (1023 - n)).countP ((fun k => decide (k &&& n = k)) ∘ fun x => n + 1 + x) = 0 := by
    rw [List.countP_eq_zero]
    intro k _
    simp only [Function.comp, decide_eq_true_eq]
    intro h
    have := Nat.and_le_right (n := n + 1 + k) (m := n)
    omega
  omega
theorem upI_rise (n : Nat) : (upI 0 n).Pairwise (· < ·) := by
  rw [upI0, List.pairwise_map]
  exact List.pairwise_lt_range.imp fun h => by omega
theorem partsI_rise (i : Int) : (partsI i).Pairwise (· < ·) := (upI_rise _).filter _
theorem partsI_mem {i k : Int} (h : k ∈ partsI i) : Builtin.bitAnd k i = k := of_decide_eq_true (List.mem_filter.mp h).2
theorem partsI_len {n : Nat} (h : n < 1024) : (partsI (n : Int)).length ≤ 1024 := by
  rw [partsI_nat, List.length_map]
  exact Nat.le_trans (List.length_filter_le _ _) (by rw [List.length_range]; omega)
theorem membI_len (i : Int) : (membI i).length ≤ 10 := Nat.le_trans (List.length_filter_le _ _) (by rw [upI_len]; omega)
/-- as many of the parts below as the number of a set is told by its members -/
theorem parts_due {n : Nat} (h : n < 1024) : (upI 0 (n + 1)).filter (fun k => decide (((membI k).filter fun j => !decide (j ∈ membI (n : Int))) = [])) = partsI (n : Int) := by
  unfold partsI
  have e : ((n : Int) + 1).toNat = n + 1 := by omega
  rw [e]
  refine List.filter_congr fun k hk => ?_
  have := mem_upI.mp hk
  obtain ⟨m, rfl⟩ := Int.eq_ofNat_of_zero_le this.1
  exact sub_empty (by omega)
/-! ### a set of names -/
theorem or_bit (m k j : Nat) : (m ||| 2 ^ k).testBit j = (m.testBit j || decide (k = j)) := by
  rw [Nat.testBit_or, Nat.testBit_two_pow]
end
end DY
namespace DY
open PySem PySem.Spec PyProof.Rows L2
section
variable [NM]
theorem toPs_strs : ∀ ns : List Str, D.toPs (ns.map D.str) = ns.map PyData.str
  | [] => by rw [List.map_nil, D.toPs]; rfl
  | n :: r => by rw [List.map_cons, D.toPs, D.toP, toPs_strs r]; rfl
theorem plains_strs : ∀ ns : List Str, D.plains (ns.map D.str) = true
  | [] => by rw [List.map_nil, D.plains]
  | n :: r => by rw [List.map_cons, D.plains, D.plain, plains_strs r]; rfl
theorem canLay_strs : ∀ ns : List Str, ns.all PyData.strOk = true → PyData.canLayAll0 (ns.map PyData.str) = true
  | [], _ => by rw [List.map_nil, PyData.canLayAll0]
  | n :: r, h => by
    rw [List.all_cons, Bool.and_eq_true] at h
    rw [List.map_cons, PyData.canLayAll0, PyData.canLay0, canLay_strs r h.2, h.1]; rfl
theorem depth_strs : ∀ ns : List Str, PyData.depthAll (ns.map PyData.str) ≤ 1
  | [] => by rw [List.map_nil, PyData.depthAll]; omega
  | n :: r => by
    rw [List.map_cons, PyData.depthAll, PyData.depth]
    have := depth_strs r
    omega
theorem shp_strs (ns : List Str) (h : ns.all PyData.strOk = true) : shp (.lst (ns.map .str)) = true := by
  unfold shp SeqAt.shaped
  rw [D.toP, D.plain, toPs_strs, plains_strs, PyData.canLay0, canLay_strs ns h, PyData.depth]
  have := depth_strs ns
  rw [decide_eq_true (by omega)] <;> rfl
theorem eqv_strs : ∀ ns : List Str, PyData.eqvAll (ns.map PyData.str) (ns.map PyData.str) = true
  | [] => by rw [List.map_nil, PyData.eqvAll]
  | n :: ns => by
    rw [List.map_cons, PyData.eqvAll, PyData.eqv, eqv_strs ns]
    simp
theorem oNe_self (ns : List Str) (h : ns.all PyData.strOk = true := by decide) : oNe (.lst (ns.map .str)) (.lst (ns.map .str)) = some (.ok (.bl false)) := by
  have e : eqD (.lst (ns.map .str)) (.lst (ns.map .str)) = true := by
    unfold eqD
    rw [D.toP, toPs_strs, PyData.eqv, eqv_strs]
  unfold oNe
  rw [shp_strs ns h, e] <;> rfl
theorem oEq_self (ns : List Str) (h : ns.all PyData.strOk = true := by decide) : oEq (.lst (ns.map .str)) (.lst (ns.map .str)) = some (.ok (.bl true)) := by
  have e : eqD (.lst (ns.map .str)) (.lst (ns.map .str)) = true := by
    unfold eqD
    rw [D.toP, toPs_strs, PyData.eqv, eqv_strs]
  unfold oEq
  rw [shp_strs ns h, e] <;> rfl
theorem argsV_cons {f : Fx} {fs : List Fx} {ε : En} {rx : R} {x : D} {ds : List D} (hf : f ε = some rx) (ex : rx.val = some x) (h : argsV fs ε = some (.ok ds)) : argsV (f :: fs) ε = some (.ok (x :: ds)) := by
  unfold argsV
  rw [hf, h]
  cases rx with
  | ok d => cases ex; rfl
  | nw ds => cases ex; rfl
  | nn t ps => cases ex; rfl
  | ex n => cases ex
theorem fA_of {op : List D → Option R} {fs : List Fx} {ε : En} {ds : List D} {z : Option R} (h : argsV fs ε = some (.ok ds)) (h2 : op ds = z) : fA op fs ε = z := by
  unfold fA
  rw [h]
  exact h2
theorem bitAnd_all (x : Int) : Builtin.bitAnd x (-1) = x := by
  unfold Builtin.bitAnd
  by_cases h : 0 ≤ x
  · rw [decide_eq_true h]
    show x - ((x.toNat &&& (Builtin.bitNot (-1)).toNat : Nat) : Int) = x
    have : (Builtin.bitNot (-1)).toNat = 0 := rfl
    rw [this, Nat.and_zero]
    omega
  · rw [decide_eq_false h]
    show Builtin.bitNot (((Builtin.bitNot x).toNat ||| (Builtin.bitNot (-1)).toNat : Nat) : Int) = x
    have : (Builtin.bitNot (-1)).toNat = 0 := rfl
    rw [this, Nat.or_zero]
    unfold Builtin.bitNot
    omega
theorem bits_le {m : Nat} {x : Int} (h : x.natAbs < 2 ^ m) : Builtin.Int.intBits x ≤ m := by
  unfold Builtin.Int.intBits
  split
  · exact Nat.zero_le _
  · rename_i hx
    have h0 : x.natAbs ≠ 0 := fun e => hx (by rw [Int.natAbs_eq_zero.mp e] <;> rfl)
    have : x.natAbs.log2 < m := (Nat.log2_lt h0).mpr h
    omega
theorem oPowW_sq {x : Int} {m : Nat} (h : x.natAbs < 2 ^ m) (hm : m ≤ 1000) : oPowW (.int x) (.int 2) = some (.ok (.int (x ^ 2))) := by
  have hb := bits_le h
  show (if CPowW x 2 then some (R.ok (.int (x ^ (2 : Int).toNat))) else none) = _
  rw [if_pos (show CPowW x 2 from ⟨by decide, by omega⟩)] <;> rfl
theorem and_lt {a y : Int} {n : Int} (ha : 0 ≤ a) (hn : a < n) (hy : 0 ≤ y) : 0 ≤ Builtin.bitAnd a y ∧ Builtin.bitAnd a y < n := by
  obtain ⟨p, rfl⟩ := Int.eq_ofNat_of_zero_le ha
  obtain ⟨q, rfl⟩ := Int.eq_ofNat_of_zero_le hy
  rw [bandN]
  have := @Nat.and_le_left p q
  omega
theorem or_lt {a y : Int} {k : Nat} (ha : 0 ≤ a) (hn : a < 2 ^ k) (hy : 0 ≤ y) (hz : y < 2 ^ k) : 0 ≤ Builtin.bitOr a y ∧ Builtin.bitOr a y < 2 ^ k := by
  obtain ⟨p, rfl⟩ := Int.eq_ofNat_of_zero_le ha
  obtain ⟨q, rfl⟩ := Int.eq_ofNat_of_zero_le hy
  have e : ((2 : Int) ^ k) = ((2 ^ k : Nat) : Int) := by simp
  rw [e] at hn hz ⊢
  rw [borN]
  have := @Nat.or_lt_two_pow p q k (by omega) (by omega)
  omega
/-- a walk whose every turn goes on -/
theorem forW_all {t : Tg} {body : Ds} {E : De} {P : D → Prop} {Iv : Ev → Prop} (hn : ∀ δ, Iv δ → E.nx δ)
    (hb : ∀ x δ, P x → Iv δ → ∃ ds, t.put x = some ds ∧ ∀ N : Ev → Prop, (∀ δ', Iv δ' → N δ') → body { E with nx := N, ct := N, bk := E.nx } (setsS δ t.ix ds)) :
    ∀ (xs : List D) (δ : Ev), (∀ x ∈ xs, P x) → Iv δ → forW t body E xs δ
  | [], δ, _, i => hn δ i
  | x :: xs, δ, h, i => by
    obtain ⟨ds, h1, h2⟩ := hb x δ (h x List.mem_cons_self) i
    exact ⟨ds, h1, h2 _ fun δ' i' => forW_all hn hb xs δ' (fun y hy => h y (List.mem_cons_of_mem _ hy)) i'⟩
theorem pairs_all {P : D → Prop} : ∀ (xs : List D) (k : Nat), (∀ (j : Nat) (x : D), j < k + xs.length → x ∈ xs → P (.tup [.int (j : Nat), x])) → ∀ y ∈ pairs xs k, P y
  | [], k, _, y, hy => absurd hy (by unfold pairs; exact List.not_mem_nil)
  | x :: r, k, h, y, hy => by
    rw [pairs] at hy
    rcases List.mem_cons.mp hy with e | e
    · rw [e]
      exact h k x (by rw [List.length_cons]; omega) List.mem_cons_self
    · exact pairs_all r (k + 1) (fun j z hj hz => h j z (by rw [List.length_cons]; omega) (List.mem_cons_of_mem _ hz)) y e
theorem fItE_ok {f : Fx} {ε : En} {xs : List D} {fr : Bool} (h : fItL f ε = some (.it xs fr)) : fItE f ε = some (.it (pairs xs 0) fr) := by
  unfold fItE
  rw [h]
end
end DY
namespace DY
/-! ### sums, products over bits -/
def sumN : Nat → (Nat → Int) → Int
  | 0, _ => 0
  | n + 1, f => sumN n f + f n
theorem sumN_congr {f g : Nat → Int} : ∀ {n : Nat}, (∀ i, i < n → f i = g i) → sumN n f = sumN n g
  | 0, _ => rfl
  | n + 1, h => by
    rw [sumN, sumN, sumN_congr fun i hi => h i (by omega), h n (by omega)]
theorem sumN_add {f g : Nat → Int} : ∀ {n : Nat}, sumN n (fun i => f i + g i) = sumN n f + sumN n g
  | 0 => rfl
  | n + 1 => by
    rw [sumN, sumN, sumN, sumN_add]
    omega
theorem sumN_mul {c : Int} {f : Nat → Int} : ∀ {n : Nat}, sumN n (fun i => c * f i) = c * sumN n f
  | 0 => by rw [sumN, sumN, Int.mul_zero]
  | n + 1 => by rw [sumN, sumN, sumN_mul, Int.mul_add]
theorem sumN_mulr {c : Int} {f : Nat → Int} {n : Nat} : sumN n (fun i => f i * c) = sumN n f * c := by
  rw [Int.mul_comm, ← sumN_mul]
  exact sumN_congr fun i _ => Int.mul_comm _ _
theorem sumN_zero : ∀ {n : Nat}, sumN n (fun _ => 0) = 0
  | 0 => rfl
  | n + 1 => by rw [sumN, sumN_zero] <;> rfl
theorem sumN_swap {f : Nat → Nat → Int} {m : Nat} : ∀ {n : Nat}, sumN n (fun i => sumN m (f i)) = sumN m fun j => sumN n fun i => f i j
  | 0 => by
    show 0 = sumN m fun _ => 0
    rw [sumN_zero]
  | n + 1 => by
    rw [sumN, sumN_swap, ← sumN_add] <;> rfl
theorem sumN_split {f : Nat → Int} {n : Nat} : ∀ {m : Nat}, sumN (n + m) f = sumN n f + sumN m fun i => f (n + i)
  | 0 => by rw [sumN, Nat.add_zero, Int.add_zero]
  | m + 1 => by
    rw [← Nat.add_assoc, sumN, sumN, sumN_split (m := m), Int.add_assoc]
theorem sumN_one {f : Nat → Int} {k : Nat} : ∀ {n : Nat}, k < n → (∀ i, i < n → i ≠ k → f i = 0) → sumN n f = f k
  | 0, h, _ => by omega
  | n + 1, h, z => by
    rw [sumN]
    by_cases hk : k = n
    · subst hk
      rw [sumN_congr (g := fun _ => 0) (fun i hi => z i (by omega) (by omega)), sumN_zero, Int.zero_add]
    · rw [sumN_one (by omega) fun i hi => z i (by omega), z n (by omega) (Ne.symm hk), Int.add_zero]
theorem sumN_delta {f : Nat → Int} {k n : Nat} (h : k < n) : sumN n (fun i => (if k = i then 1 else 0) * f i) = f k := by
  rw [sumN_one h fun i _ hi => by rw [if_neg (Ne.symm hi), Int.zero_mul], if_pos rfl, Int.one_mul]
def PW : Nat → (Nat → Int) → Int
  | 0, _ => 1
  | n + 1, g => PW n g * g n
theorem PW_congr {f g : Nat → Int} : ∀ {n : Nat}, (∀ i, i < n → f i = g i) → PW n f = PW n g
  | 0, _ => rfl
  | n + 1, h => by
    rw [PW, PW, PW_congr fun i hi => h i (by omega), h n (by omega)]
theorem PW_mul {f g : Nat → Int} : ∀ {n : Nat}, PW n f * PW n g = PW n fun j => f j * g j
  | 0 => rfl
  | n + 1 => by
    rw [PW, PW, PW, ← PW_mul]
    simp only [Int.mul_assoc, Int.mul_left_comm, Int.mul_comm]
theorem tb_hi {n u j : Nat} (h : j < n) : (2 ^ n + u).testBit j = u.testBit j := Nat.testBit_two_pow_add_gt h u
theorem tb_top {n u : Nat} (h : u < 2 ^ n) : (2 ^ n + u).testBit n = true := by
  rw [Nat.testBit_two_pow_add_eq, Nat.testBit_lt_two_pow h] <;> rfl
theorem PW_sum {g : Nat → Bool → Int} : ∀ {n : Nat}, sumN (2 ^ n) (fun u => PW n fun j => g j (u.testBit j)) = PW n fun j => g j false + g j true
  | 0 => by
    show 0 + 1 = 1
    rfl
  | n + 1 => by
    have e : 2 ^ (n + 1) = 2 ^ n + 2 ^ n := by rw [Nat.pow_succ]; omega
    rw [e, sumN_split, PW, ← PW_sum, Int.mul_add, ← sumN_mulr, ← sumN_mulr]
    congr 1
    · refine sumN_congr fun u hu => ?_
      rw [PW, Nat.testBit_lt_two_pow hu]
    · refine sumN_congr fun u hu => ?_
      rw [PW, tb_top hu]
      congr 1
      exact PW_congr fun j hj => by rw [tb_hi hj]
theorem PW_one : ∀ {n : Nat}, PW n (fun _ => 1) = 1
  | 0 => rfl
  | n + 1 => by rw [PW, PW_one] <;> rfl
theorem PW_const {c : Int} : ∀ {n : Nat}, PW n (fun _ => c) = c ^ n
  | 0 => (Int.pow_zero c).symm
  | n + 1 => by rw [PW, PW_const, Int.pow_succ]
theorem PW_zero {g : Nat → Int} {i : Nat} (h : g i = 0) : ∀ {n : Nat}, i < n → PW n g = 0
  | 0, hi => by omega
  | n + 1, hi => by
    rw [PW]
    by_cases e : i = n
    · rw [← e, h, Int.mul_zero]
    · rw [PW_zero h (by omega), Int.zero_mul]
theorem tb_eq {n s t : Nat} (hs : s < 2 ^ n) (ht : t < 2 ^ n) (h : ∀ j, j < n → s.testBit j = t.testBit j) : s = t := by
  refine Nat.eq_of_testBit_eq fun j => ?_
  by_cases hj : j < n
  · exact h j hj
  · rw [Nat.testBit_lt_two_pow (Nat.lt_of_lt_of_le hs (Nat.pow_le_pow_right (by decide) (by omega))), Nat.testBit_lt_two_pow (Nat.lt_of_lt_of_le ht (Nat.pow_le_pow_right (by decide) (by omega)))]
/-- a product of truths by bits -/
theorem PW_if {p : Nat → Bool} {n : Nat} : PW n (fun j => if p j = true then 1 else 0) = if (∀ j, j < n → p j = true) then 1 else 0 := by
  by_cases h : ∀ j, j < n → p j = true
  · rw [if_pos h, PW_congr (g := fun _ => 1) fun j hj => if_pos (h j hj), PW_one]
  · rw [if_neg h]
    have ⟨j, h2⟩ := Classical.not_forall.mp h
    have ⟨hj, h3⟩ := Classical.not_imp.mp h2
    exact PW_zero (if_neg h3) hj
theorem PW_delta {n s t : Nat} (hs : s < 2 ^ n) (ht : t < 2 ^ n) : PW n (fun j => if (s.testBit j == t.testBit j) = true then 1 else 0) = if s = t then 1 else 0 := by
  rw [PW_if]
  by_cases h : s = t
  · rw [if_pos h, if_pos fun j _ => by rw [h]; exact beq_self_eq_true _]
  · rw [if_neg h, if_neg fun z => h (tb_eq hs ht fun j hj => eq_of_beq (z j hj))]
/-! ### a table's way name by name -/
abbrev M2 := Bool → Bool → Int
def lin (M : M2) (a b : Int) : Int × Int := (M false false * a + M false true * b, M true false * a + M true true * b)
def pass1 (M : M2) (j : Nat) (f : Nat → Int) : Nat → Int := fun s => if s.testBit j then (lin M (f (s - 2 ^ j)) (f s)).2 else (lin M (f s) (f (s + 2 ^ j))).1
def passes (M : M2) : Nat → (Nat → Int) → Nat → Int
  | 0, f => f
  | n + 1, f => pass1 M n (passes M n f)
/-- the transform -/
def T2 (M : M2) (n : Nat) (f : Nat → Int) (s : Nat) : Int := sumN (2 ^ n) fun t => PW n (fun j => M (s.testBit j) (t.testBit j)) * f t
theorem passes_eq (M : M2) (f : Nat → Int) : ∀ (n s : Nat), passes M n f s = sumN (2 ^ n) fun t => PW n (fun j => M (s.testBit j) (t.testBit j)) * f (s / 2 ^ n * 2 ^ n + t)
  | 0, s => by
    show f s = 0 + 1 * f (s / 1 * 1 + 0)
    rw [Nat.div_one, Nat.mul_one, Nat.add_zero]
    omega
  | n + 1, s => by
    have e : 2 ^ (n + 1) = 2 ^ n + 2 ^ n := by rw [Nat.pow_succ]; omega
    have p0 : 0 < 2 ^ n := Nat.two_pow_pos n
    -- the parts of s
    have hq : s / 2 ^ n = 2 * (s / 2 ^ (n + 1)) + (if s.testBit n then 1 else 0) := by
      have h1 : s / 2 ^ (n + 1) = s / 2 ^ n / 2 := by rw [Nat.div_div_eq_div_mul, ← Nat.pow_succ]
      have h2 : s.testBit n = decide (s / 2 ^ n % 2 = 1) := Nat.testBit_eq_decide_div_mod_eq
      rw [h1, h2]
      by_cases h : s / 2 ^ n % 2 = 1
      · rw [if_pos (by exact decide_eq_true h)]
        omega
      · rw [if_neg (by rw [decide_eq_false h]; decide)]
        omega
    have hB : s / 2 ^ (n + 1) * 2 ^ (n + 1) = 2 * (s / 2 ^ (n + 1)) * 2 ^ n := by
      rw [Nat.pow_succ, ← Nat.mul_assoc, Nat.mul_right_comm, Nat.mul_comm 2]
    have hm : s = s / 2 ^ n * 2 ^ n + s % 2 ^ n := by
      have := Nat.div_add_mod s (2 ^ n)
      rw [Nat.mul_comm] at this
      exact this.symm
    have hr : s % 2 ^ n < 2 ^ n := Nat.mod_lt _ p0
    have body : ∀ (c : Bool) (g : Nat → Int), (∀ t, t < 2 ^ n → (PW n fun j => M (s.testBit j) (t.testBit j)) * M (s.testBit n) c * f (s / 2 ^ (n + 1) * 2 ^ (n + 1) + ((if c then 2 ^ n else 0) + t)) = M (s.testBit n) c * g t) →
        sumN (2 ^ n) (fun t => (PW n fun j => M (s.testBit j) (t.testBit j)) * M (s.testBit n) c * f (s / 2 ^ (n + 1) * 2 ^ (n + 1) + ((if c then 2 ^ n else 0) + t))) = M (s.testBit n) c * sumN (2 ^ n) g := fun c g h => by
      rw [← sumN_mul]
      exact sumN_congr fun t ht => h t ht
    have rhs : sumN (2 ^ (n + 1)) (fun t => PW (n + 1) (fun j => M (s.testBit j) (t.testBit j)) * f (s / 2 ^ (n + 1) * 2 ^ (n + 1) + t)) =
        sumN (2 ^ n) (fun t => (PW n fun j => M (s.testBit j) (t.testBit j)) * M (s.testBit n) false * f (s / 2 ^ (n + 1) * 2 ^ (n + 1) + ((if false then 2 ^ n else 0) + t))) +
        sumN (2 ^ n) (fun t => (PW n fun j => M (s.testBit j) (t.testBit j)) * M (s.testBit n) true * f (s / 2 ^ (n + 1) * 2 ^ (n + 1) + ((if true then 2 ^ n else 0) + t))) := by
      rw [show sumN (2 ^ (n + 1)) = sumN (2 ^ n + 2 ^ n) from by rw [e], sumN_split]
      congr 1
      · refine sumN_congr fun t ht => ?_
        rw [PW, Nat.testBit_lt_two_pow ht]
        simp
      · refine sumN_congr fun t ht => ?_
        rw [PW, tb_top ht, PW_congr (g := fun j => M (s.testBit j) (t.testBit j)) fun j hj => by rw [tb_hi hj]]
        simp
    rw [rhs]
    show pass1 M n (passes M n f) s = _
    unfold pass1
    cases hb : s.testBit n with
    | true =>
      rw [hb, if_pos rfl] at hq
      have hge : 2 ^ n ≤ s := by
        rw [hm, hq, Nat.add_mul]
        omega
      have s1 : s - 2 ^ n = 2 * (s / 2 ^ (n + 1)) * 2 ^ n + s % 2 ^ n := by
        have := hm
        rw [hq, Nat.add_mul] at this
        omega
      have d1 : (s - 2 ^ n) / 2 ^ n = 2 * (s / 2 ^ (n + 1)) := by
        rw [s1, Nat.mul_comm, Nat.mul_add_div p0, Nat.div_eq_of_lt hr, Nat.add_zero]
      have tbs : ∀ j, j < n → (s - 2 ^ n).testBit j = s.testBit j := fun j hj => by
        have : s = 2 ^ n + (s - 2 ^ n) := by omega
        rw [this, tb_hi hj]
        congr 1
        omega
      simp only [if_true]
      unfold lin
      dsimp only
      rw [passes_eq M f n (s - 2 ^ n), passes_eq M f n s, d1, hq]
      have b0 := body false (fun t => (PW n fun j => M (s.testBit j) (t.testBit j)) * f (2 * (s / 2 ^ (n + 1)) * 2 ^ n + t)) (fun t ht => by
        rw [hB]
        simp only [Bool.false_eq_true, if_false, Nat.zero_add]
        rw [Int.mul_comm (PW n _), Int.mul_assoc])
      have b1 := body true (fun t => (PW n fun j => M (s.testBit j) (t.testBit j)) * f ((2 * (s / 2 ^ (n + 1)) + 1) * 2 ^ n + t)) (fun t ht => by
        rw [hB]
        simp only [if_true]
        rw [Int.mul_comm (PW n _), Int.mul_assoc, Nat.add_mul, Nat.one_mul, Nat.add_assoc])
      rw [hb] at b0 b1
      simp only [if_true] at b1
      rw [b0, b1]
      congr 1
      congr 1
      exact sumN_congr fun t ht => by rw [PW_congr (g := fun j => M (s.testBit j) (t.testBit j)) fun j hj => by rw [tbs j hj]]
    | false =>
      rw [hb, if_neg (by decide), Nat.add_zero] at hq
      have s1 : s + 2 ^ n = (2 * (s / 2 ^ (n + 1)) + 1) * 2 ^ n + s % 2 ^ n := by
        have := hm
        rw [hq] at this
        rw [Nat.add_mul]
        omega
      have d1 : (s + 2 ^ n) / 2 ^ n = 2 * (s / 2 ^ (n + 1)) + 1 := by
        rw [s1, Nat.mul_comm, Nat.mul_add_div p0, Nat.div_eq_of_lt hr, Nat.add_zero]
      have tbs : ∀ j, j < n → (s + 2 ^ n).testBit j = s.testBit j := fun j hj => by
        rw [Nat.add_comm, tb_hi hj]
      simp only [Bool.false_eq_true, if_false, if_true]
      unfold lin
      dsimp only
      rw [passes_eq M f n (s + 2 ^ n), passes_eq M f n s, d1, hq]
      have b0 := body false (fun t => (PW n fun j => M (s.testBit j) (t.testBit j)) * f (2 * (s / 2 ^ (n + 1)) * 2 ^ n + t)) (fun t ht => by
        rw [hB]
        simp only [Bool.false_eq_true, if_false, Nat.zero_add]
        rw [Int.mul_comm (PW n _), Int.mul_assoc])
      have b1 := body true (fun t => (PW n fun j => M (s.testBit j) (t.testBit j)) * f ((2 * (s / 2 ^ (n + 1)) + 1) * 2 ^ n + t)) (fun t ht => by
        rw [hB]
        simp only [if_true]
        rw [Int.mul_comm (PW n _), Int.mul_assoc, Nat.add_mul, Nat.one_mul, Nat.add_assoc])
      rw [hb] at b0 b1
      simp only [Bool.false_eq_true, if_false] at b0
      simp only [if_true] at b1
      rw [b0, b1]
      congr 1
      congr 1
      exact sumN_congr fun t ht => by rw [PW_congr (g := fun j => M (s.testBit j) (t.testBit j)) fun j hj => by rw [tbs j hj]]
theorem passes_T2 (M : M2) (f : Nat → Int) {n s : Nat} (h : s < 2 ^ n) : passes M n f s = T2 M n f s := by
  rw [passes_eq, Nat.div_eq_of_lt h]
  unfold T2
  exact sumN_congr fun t _ => by rw [Nat.zero_mul, Nat.zero_add]
end DY
namespace DY
/-! ### tables as lists, one name's way through a table -/
def tabL (n : Nat) (f : Nat → Int) : List Int := (List.range (2 ^ n)).map f
theorem tabL_len {n : Nat} {f : Nat → Int} : (tabL n f).length = 2 ^ n := by unfold tabL; rw [List.length_map, List.length_range]
theorem tabL_get {n : Nat} {f : Nat → Int} {i : Nat} (h : i < 2 ^ n) : (tabL n f)[i]? = some (f i) := by
  unfold tabL
  rw [List.getElem?_map, List.getElem?_range h] <;> rfl
theorem tabL_getD {n : Nat} {f : Nat → Int} {i : Nat} (h : i < 2 ^ n) : (tabL n f).getD i 0 = f i := by
  rw [List.getD_eq_getElem?_getD, tabL_get h] <;> rfl
theorem tabL_congr {n : Nat} {f g : Nat → Int} (h : ∀ s, s < 2 ^ n → f s = g s) : tabL n f = tabL n g :=
  List.map_congr_left fun s hs => h s (List.mem_range.mp hs)
theorem tabL_of {n : Nat} {ns : List Int} (h : ns.length = 2 ^ n) : tabL n (fun i => ns.getD i 0) = ns := by
  refine List.ext_getElem? fun i => ?_
  by_cases hi : i < 2 ^ n
  · rw [tabL_get hi, List.getD_eq_getElem?_getD, List.getElem?_eq_getElem (by omega)] <;> rfl
  · rw [List.getElem?_eq_none (by rw [tabL_len]; omega), List.getElem?_eq_none (by omega)]
theorem tabL_set {n i : Nat} {f : Nat → Int} {v : Int} : (tabL n f).set i v = tabL n fun s => if s = i then v else f s := by
  refine List.ext_getElem? fun s => ?_
  by_cases hs : s < 2 ^ n
  · by_cases e : i = s
    · subst e
      rw [List.getElem?_set_self (by rw [tabL_len]; exact hs), tabL_get hs, if_pos rfl]
    · rw [List.getElem?_set_ne e, tabL_get hs, tabL_get hs, if_neg (Ne.symm e)]
  · rw [List.getElem?_eq_none (by rw [List.length_set, tabL_len]; omega), List.getElem?_eq_none (by rw [tabL_len]; omega)]
theorem tabL_inj {n : Nat} {f g : Nat → Int} (h : tabL n f = tabL n g) {s : Nat} (hs : s < 2 ^ n) : f s = g s := by
  have e : (tabL n f)[s]? = (tabL n g)[s]? := by rw [h]
  rw [tabL_get hs, tabL_get hs] at e
  exact Option.some.inj e
theorem tabL_map {n : Nat} {f : Nat → Int} {g : Int → Int} : (tabL n f).map g = tabL n fun s => g (f s) := by
  unfold tabL
  rw [List.map_map] <;> rfl
theorem tabL_zip {n : Nat} {f g : Nat → Int} {op : Int → Int → Int} : List.zipWith op (tabL n f) (tabL n g) = tabL n fun s => op (f s) (g s) := by
  unfold tabL
  rw [List.zipWith_map, List.zipWith_self]
/-- s without the name j -/
def clr (j s : Nat) : Nat := if s.testBit j then s - 2 ^ j else s
theorem clr_le {j s : Nat} : clr j s ≤ s := by
  unfold clr
  split
  · exact Nat.sub_le _ _
  · exact Nat.le_refl _
theorem clr_bit {j s : Nat} : (clr j s).testBit j = false := by
  unfold clr
  split
  · rename_i h
    have e : 2 ^ j + (s - 2 ^ j) = s := by
      have := Nat.ge_two_pow_of_testBit h
      omega
    have z := Nat.testBit_two_pow_add_eq (s - 2 ^ j) j
    rw [e, h] at z
    cases q : (s - 2 ^ j).testBit j with
    | false => rfl
    | true =>
      rw [q] at z
      cases z
  · rename_i h
    exact Bool.eq_false_iff.mpr h
theorem clr_eq {j s i : Nat} (h : clr j s = i) : s = i ∨ (s = i + 2 ^ j ∧ s.testBit j = true) := by
  unfold clr at h
  split at h
  · rename_i hb
    have := Nat.ge_two_pow_of_testBit hb
    exact .inr ⟨by omega, hb⟩
  · exact .inl h
theorem addN_bit {j i : Nat} (h : i.testBit j = false) : (i + 2 ^ j).testBit j = true := by
  rw [Nat.add_comm, Nat.testBit_two_pow_add_eq, h] <;> rfl
theorem orN_bit {j i : Nat} (h : i.testBit j = false) : i ||| 2 ^ j = i + 2 ^ j := by
  refine Nat.eq_of_testBit_eq fun x => ?_
  rw [Nat.testBit_or, Nat.testBit_two_pow]
  rcases Nat.lt_trichotomy x j with c | c | c
  · rw [decide_eq_false (by omega), Bool.or_false, Nat.add_comm, Nat.testBit_two_pow_add_gt c]
  · subst c
    rw [addN_bit h]
    simp
  · rw [decide_eq_false (by omega), Bool.or_false]
    obtain ⟨z, rfl⟩ : ∃ z, x = (j + 1) + z := ⟨x - (j + 1), by omega⟩
    have sh : ∀ y : Nat, y.testBit (j + 1 + z) = (y / 2 ^ (j + 1)).testBit z := fun y => by
      rw [Nat.testBit_div_two_pow, Nat.add_comm]
    rw [sh, sh]
    congr 1
    have hm : i / 2 ^ j % 2 = 0 := by
      have := Nat.testBit_eq_decide_div_mod_eq (x := i) (i := j)
      rw [h] at this
      have := of_decide_eq_false this.symm
      omega
    have p0 : 0 < 2 ^ j := Nat.two_pow_pos j
    rw [Nat.pow_succ, ← Nat.div_div_eq_div_mul, ← Nat.div_div_eq_div_mul, Nat.add_div_right _ p0]
    omega
theorem andN_bit {j i : Nat} : (i &&& 2 ^ j = 0) ↔ i.testBit j = false := by
  constructor
  · intro h
    have : (i &&& 2 ^ j).testBit j = (0 : Nat).testBit j := by rw [h]
    rw [Nat.testBit_and, Nat.testBit_two_pow, Nat.zero_testBit] at this
    simpa using this
  · intro h
    refine Nat.eq_of_testBit_eq fun x => ?_
    rw [Nat.testBit_and, Nat.testBit_two_pow, Nat.zero_testBit]
    by_cases c : j = x
    · rw [← c, h] <;> rfl
    · rw [decide_eq_false c, Bool.and_false]
/-- ahead of i the name j is done -/
def mid (M : M2) (j : Nat) (f : Nat → Int) (i s : Nat) : Int := if clr j s < i then pass1 M j f s else f s
theorem mid_0 {M : M2} {j : Nat} {f : Nat → Int} {s : Nat} : mid M j f 0 s = f s := if_neg (by omega)
theorem mid_end {M : M2} {j i : Nat} {f : Nat → Int} {s : Nat} (h : s < i) : mid M j f i s = pass1 M j f s := if_pos (Nat.lt_of_le_of_lt clr_le h)
theorem mid_skip {M : M2} {j i : Nat} {f : Nat → Int} (h : i.testBit j = true) (s : Nat) : mid M j f (i + 1) s = mid M j f i s := by
  unfold mid
  have n : clr j s ≠ i := fun e => by
    have := clr_bit (j := j) (s := s)
    rw [e, h] at this
    cases this
  by_cases c : clr j s < i
  · rw [if_pos c, if_pos (by omega)]
  · rw [if_neg c, if_neg (by omega)]
theorem mid_at {M : M2} {j i : Nat} {f : Nat → Int} (h : i.testBit j = false) : mid M j f i i = f i ∧ mid M j f i (i + 2 ^ j) = f (i + 2 ^ j) := by
  have e1 : clr j i = i := if_neg (by rw [h]; decide)
  have e2 : clr j (i + 2 ^ j) = i := (if_pos (addN_bit h)).trans (by omega)
  exact ⟨if_neg (by omega), if_neg (by omega)⟩
theorem mid_step {M : M2} {j i : Nat} {f : Nat → Int} (h : i.testBit j = false) (s : Nat) :
    (if s = i + 2 ^ j then (lin M (f i) (f (i + 2 ^ j))).2 else if s = i then (lin M (f i) (f (i + 2 ^ j))).1 else mid M j f i s) = mid M j f (i + 1) s := by
  have p0 : 0 < 2 ^ j := Nat.two_pow_pos j
  have e2 : clr j (i + 2 ^ j) = i := (if_pos (addN_bit h)).trans (by omega)
  by_cases c1 : s = i + 2 ^ j
  · subst c1
    rw [if_pos rfl]
    unfold mid pass1
    rw [e2, if_pos (by omega), if_pos (addN_bit h), Nat.add_sub_cancel]
  · rw [if_neg c1]
    by_cases c2 : s = i
    · subst c2
      rw [if_pos rfl]
      unfold mid pass1
      rw [if_neg (show ¬ s.testBit j = true by rw [h]; decide), if_pos (Nat.lt_of_le_of_lt clr_le (by omega))]
    · rw [if_neg c2]
      unfold mid
      have n : clr j s ≠ i := fun e => by
        rcases clr_eq e with z | z
        · exact c2 z
        · exact c1 z.1
      by_cases c : clr j s < i
      · rw [if_pos c, if_pos (by omega)]
      · rw [if_neg c, if_neg (by omega)]
theorem add_lt {j i n : Nat} (h : i.testBit j = false) (hj : j < n) (hi : i < 2 ^ n) : i + 2 ^ j < 2 ^ n := by
  rw [← orN_bit h]
  exact Nat.or_lt_two_pow hi (Nat.pow_lt_pow_right (by decide) hj)
/-! ### the five ways -/
def MK : Nat → M2
  | 0 => fun a b => if a || !b then 1 else 0
  | 1 => fun a b => if !a || b then 1 else 0
  | 2 => fun a b => if a && b then -1 else 1
  | 3 => fun a b => if a then (if b then 1 else -1) else (if b then 0 else 1)
  | 4 => fun a b => if a then (if b then 1 else 0) else (if b then -1 else 1)
  | _ => fun _ _ => 0
theorem lin_0 (a b : Int) : lin (MK 0) a b = (a, a + b) := by
  show ((1 : Int) * a + 0 * b, (1 : Int) * a + 1 * b) = _
  simp
theorem lin_1 (a b : Int) : lin (MK 1) a b = (a + b, b) := by
  show ((1 : Int) * a + 1 * b, (0 : Int) * a + 1 * b) = _
  simp
theorem lin_2 (a b : Int) : lin (MK 2) a b = (a + b, a - b) := by
  show ((1 : Int) * a + 1 * b, (1 : Int) * a + -1 * b) = _
  simp [Int.sub_eq_add_neg]
theorem lin_3 (a b : Int) : lin (MK 3) a b = (a, b - a) := by
  show ((1 : Int) * a + 0 * b, (-1 : Int) * a + 1 * b) = _
  simp [Int.sub_eq_add_neg, Int.add_comm]
theorem lin_4 (a b : Int) : lin (MK 4) a b = (a - b, b) := by
  show ((1 : Int) * a + -1 * b, (0 : Int) * a + 1 * b) = _
  simp [Int.sub_eq_add_neg]
end DY
namespace DY
/-! ### ways put behind each other, products of sums -/
theorem sumN_prod {f g : Nat → Int} {n m : Nat} : sumN n f * sumN m g = sumN n fun x => sumN m fun y => f x * g y := by
  rw [← sumN_mulr]
  exact sumN_congr fun x _ => by rw [← sumN_mul]
theorem T2_comp {M M' : M2} {C : Bool → Bool → Int} (hC : ∀ s x, M' s false * M false x + M' s true * M true x = C s x) (n : Nat) (f : Nat → Int) (s : Nat) :
    T2 M' n (T2 M n f) s = sumN (2 ^ n) fun x => PW n (fun j => C (s.testBit j) (x.testBit j)) * f x := by
  have e1 : T2 M' n (T2 M n f) s = sumN (2 ^ n) fun u => sumN (2 ^ n) fun x => PW n (fun j => M' (s.testBit j) (u.testBit j) * M (u.testBit j) (x.testBit j)) * f x := by
    refine sumN_congr fun u _ => ?_
    show PW n _ * T2 M n f u = _
    unfold T2
    rw [← sumN_mul]
    exact sumN_congr fun x _ => by rw [← Int.mul_assoc, PW_mul]
  rw [e1, sumN_swap]
  refine sumN_congr fun x _ => ?_
  rw [sumN_mulr, PW_sum (g := fun j b => M' (s.testBit j) b * M b (x.testBit j))]
  congr 1
  exact PW_congr fun j _ => hC _ _
theorem T2_prod {M M' : M2} {C : Bool → Bool → Bool → Int} (hC : ∀ s x y, M' s false * (M false x * M false y) + M' s true * (M true x * M true y) = C s x y) (n : Nat) (f g : Nat → Int) (s : Nat) :
    T2 M' n (fun u => T2 M n f u * T2 M n g u) s = sumN (2 ^ n) fun x => sumN (2 ^ n) fun y => PW n (fun j => C (s.testBit j) (x.testBit j) (y.testBit j)) * (f x * g y) := by
  have e1 : T2 M' n (fun u => T2 M n f u * T2 M n g u) s = sumN (2 ^ n) fun u => sumN (2 ^ n) fun x => sumN (2 ^ n) fun y => PW n (fun j => M' (s.testBit j) (u.testBit j) * (M (u.testBit j) (x.testBit j) * M (u.testBit j) (y.testBit j))) * (f x * g y) := by
    refine sumN_congr fun u _ => ?_
    show PW n _ * (T2 M n f u * T2 M n g u) = _
    unfold T2
    rw [sumN_prod, ← sumN_mul]
    refine sumN_congr fun x _ => ?_
    rw [← sumN_mul]
    refine sumN_congr fun y _ => ?_
    rw [← PW_mul, ← PW_mul]
    simp only [Int.mul_assoc, Int.mul_left_comm, Int.mul_comm]
  rw [e1, sumN_swap]
  refine sumN_congr fun x _ => ?_
  rw [sumN_swap]
  refine sumN_congr fun y _ => ?_
  rw [sumN_mulr, PW_sum (g := fun j b => M' (s.testBit j) b * (M b (x.testBit j) * M b (y.testBit j)))]
  congr 1
  exact PW_congr fun j _ => hC _ _ _
theorem T2_id {C : M2} (hC : ∀ s x, C s x = if (s == x) = true then 1 else 0) {n : Nat} {f : Nat → Int} {s : Nat} (hs : s < 2 ^ n) : (sumN (2 ^ n) fun x => PW n (fun j => C (s.testBit j) (x.testBit j)) * f x) = f s := by
  rw [← sumN_delta (f := f) hs]
  exact sumN_congr fun x hx => by rw [PW_congr (g := fun j => if (s.testBit j == x.testBit j) = true then 1 else 0) fun j _ => hC _ _, PW_delta hs hx]
/-- two sets tell a third, name by name -/
theorem PW_op {op : Bool → Bool → Bool} {o : Nat → Nat → Nat} (ho : ∀ x y j, (o x y).testBit j = op (x.testBit j) (y.testBit j)) {n s x y : Nat} (hs : s < 2 ^ n) (hxy : o x y < 2 ^ n) :
    PW n (fun j => if (s.testBit j == op (x.testBit j) (y.testBit j)) = true then 1 else 0) = if o x y = s then 1 else 0 := by
  rw [PW_congr (g := fun j => if (s.testBit j == (o x y).testBit j) = true then 1 else 0) fun j _ => by rw [ho], PW_delta hs hxy]
  by_cases h : o x y = s
  · rw [if_pos h, if_pos h.symm]
  · rw [if_neg h, if_neg (Ne.symm h)]
/-- for each set the sum over pairs -/
def pairS (q : Nat → Nat → Nat → Bool) (N : Nat) (f g : Nat → Int) (s : Nat) : Int := sumN N fun a => sumN N fun b => if q a b s = true then f a * g b else 0
theorem pairS_of {q : Nat → Nat → Nat → Bool} {w : Nat → Nat → Nat → Int} {N : Nat} {f g : Nat → Int} {s : Nat} (h : ∀ a b, a < N → b < N → w a b s = if q a b s = true then 1 else 0) : (sumN N fun a => sumN N fun b => w a b s * (f a * g b)) = pairS q N f g s := by
  refine sumN_congr fun a ha => sumN_congr fun b hb => ?_
  rw [h a b ha hb]
  split
  · rw [Int.one_mul]
  · rw [Int.zero_mul]
/-- the pairs ahead of (i, j) -/
def partS (q : Nat → Nat → Nat → Bool) (N : Nat) (f g : Nat → Int) (i j s : Nat) : Int := (sumN i fun a => sumN N fun b => if q a b s = true then f a * g b else 0) + sumN j fun b => if q i b s = true then f i * g b else 0
theorem partS_0 {q : Nat → Nat → Nat → Bool} {N : Nat} {f g : Nat → Int} {s : Nat} : partS q N f g 0 0 s = 0 := rfl
theorem partS_row {q : Nat → Nat → Nat → Bool} {N : Nat} {f g : Nat → Int} {i s : Nat} : partS q N f g i N s = partS q N f g (i + 1) 0 s := by
  show _ = sumN (i + 1) _ + 0
  rw [Int.add_zero] <;> rfl
theorem partS_end {q : Nat → Nat → Nat → Bool} {N : Nat} {f g : Nat → Int} {s : Nat} : partS q N f g N 0 s = pairS q N f g s := Int.add_zero _
theorem partS_step {q : Nat → Nat → Nat → Bool} {N : Nat} {f g : Nat → Int} {i j : Nat} (s : Nat) : partS q N f g i (j + 1) s = partS q N f g i j s + if q i j s = true then f i * g j else 0 := by
  unfold partS
  rw [sumN, Int.add_assoc]
/-! ### how great the numbers become -/
theorem MK_one (k : Nat) (a b : Bool) : (MK k a b).natAbs ≤ 1 := by
  match k with
  | 0 => revert a b; decide
  | 1 => revert a b; decide
  | 2 => revert a b; decide
  | 3 => revert a b; decide
  | 4 => revert a b; decide
  | k + 5 => exact Nat.zero_le 1
theorem lin_le {M : M2} (h : ∀ a b, (M a b).natAbs ≤ 1) (a b : Int) : (lin M a b).1.natAbs ≤ a.natAbs + b.natAbs ∧ (lin M a b).2.natAbs ≤ a.natAbs + b.natAbs := by
  have m : ∀ x y (z : Int), (M x y * z).natAbs ≤ z.natAbs := fun x y z => by
    rw [Int.natAbs_mul]
    exact Nat.le_trans (Nat.mul_le_mul_right _ (h x y)) (by omega)
  unfold lin
  exact ⟨Nat.le_trans (Int.natAbs_add_le _ _) (Nat.add_le_add (m _ _ _) (m _ _ _)), Nat.le_trans (Int.natAbs_add_le _ _) (Nat.add_le_add (m _ _ _) (m _ _ _))⟩
theorem passes_le {M : M2} (h : ∀ a b, (M a b).natAbs ≤ 1) {f : Nat → Int} {B : Nat} (hf : ∀ s, (f s).natAbs ≤ B) : ∀ n s, (passes M n f s).natAbs ≤ 2 ^ n * B
  | 0, s => by
    show (f s).natAbs ≤ 1 * B
    have := hf s
    omega
  | n + 1, s => by
    have ih := passes_le h hf n
    have e : 2 ^ (n + 1) * B = 2 ^ n * B + 2 ^ n * B := by rw [Nat.pow_succ, Nat.mul_assoc, Nat.two_mul, Nat.mul_add]
    show (pass1 M n (passes M n f) s).natAbs ≤ _
    unfold pass1
    split
    · exact Nat.le_trans (lin_le h _ _).2 (by rw [e]; exact Nat.add_le_add (ih _) (ih _))
    · exact Nat.le_trans (lin_le h _ _).1 (by rw [e]; exact Nat.add_le_add (ih _) (ih _))
end DY
namespace DY
/-! ### ways of two tables, by pairs: which pairs, what they come to -/
def io (b : Bool) : Int := if b = true then 1 else 0
def qco (c : Nat → Nat → Bool) (o : Nat → Nat → Nat) (a b s : Nat) : Bool := c a b && (o a b == s)
theorem pairS_io {q : Nat → Nat → Nat → Bool} {N : Nat} {f g : Nat → Int} {s : Nat} : pairS q N f g s = sumN N fun a => sumN N fun b => io (q a b s) * (f a * g b) := (pairS_of (w := fun a b s => io (q a b s)) fun _ _ _ _ => rfl).symm
theorem pairS_congr {q : Nat → Nat → Nat → Bool} {N : Nat} {f g f' g' : Nat → Int} {s : Nat} (hf : ∀ i, i < N → f i = f' i) (hg : ∀ i, i < N → g i = g' i) : pairS q N f g s = pairS q N f' g' s := by
  unfold pairS
  exact sumN_congr fun a ha => sumN_congr fun b hb => by rw [hf a ha, hg b hb]
theorem pairS_q {q q' : Nat → Nat → Nat → Bool} {N : Nat} {f g : Nat → Int} {s : Nat} (h : ∀ a b, a < N → b < N → q a b s = q' a b s) : pairS q N f g s = pairS q' N f g s := by
  unfold pairS
  exact sumN_congr fun a ha => sumN_congr fun b hb => by rw [h a b ha hb]
theorem pairS_push {c : Nat → Nat → Bool} {o : Nat → Nat → Nat} {N : Nat} (ho : ∀ a b, a < N → b < N → o a b < N) (F f g : Nat → Int) : (sumN N fun u => F u * pairS (qco c o) N f g u) = sumN N fun a => sumN N fun b => io (c a b) * F (o a b) * (f a * g b) := by
  have e1 : (sumN N fun u => F u * pairS (qco c o) N f g u) = sumN N fun u => sumN N fun a => sumN N fun b => F u * io (qco c o a b u) * (f a * g b) := by
    refine sumN_congr fun u _ => ?_
    rw [pairS_io, ← sumN_mul]
    refine sumN_congr fun a _ => ?_
    rw [← sumN_mul]
    exact sumN_congr fun b _ => (Int.mul_assoc _ _ _).symm
  rw [e1, sumN_swap]
  refine sumN_congr fun a ha => ?_
  rw [sumN_swap]
  refine sumN_congr fun b hb => ?_
  rw [sumN_mulr]
  congr 1
  rw [sumN_one (ho a b ha hb) fun u _ hu => ?_]
  · unfold qco
    rw [beq_self_eq_true, Bool.and_true, Int.mul_comm]
  · unfold qco
    rw [beq_eq_false_iff_ne.mpr (Ne.symm hu), Bool.and_false]
    exact Int.mul_zero _
theorem io_mul3 (x y z : Bool) (p r : Int) : io x * (io (y && z) * p) * r = io ((x && y) && z) * (p * r) := by
  cases x <;> cases y <;> cases z <;> simp [io]
theorem pairS_assoc {c : Nat → Nat → Bool} {o : Nat → Nat → Nat} {N : Nat} (ho : ∀ a b, a < N → b < N → o a b < N) (h1 : ∀ a b d, (c a b && c (o a b) d) = (c b d && c a (o b d))) (h2 : ∀ a b d, (c a b && c (o a b) d) = true → o (o a b) d = o a (o b d)) (f g h : Nat → Int) (s : Nat) :
    pairS (qco c o) N (pairS (qco c o) N f g) h s = pairS (qco c o) N f (pairS (qco c o) N g h) s := by
  have l : pairS (qco c o) N (pairS (qco c o) N f g) h s = sumN N fun u => (sumN N fun d => io (qco c o u d s) * h d) * pairS (qco c o) N f g u := by
    rw [pairS_io]
    refine sumN_congr fun u _ => ?_
    rw [← sumN_mulr]
    exact sumN_congr fun d _ => by simp only [Int.mul_comm, Int.mul_left_comm]
  have r : pairS (qco c o) N f (pairS (qco c o) N g h) s = sumN N fun a => sumN N fun v => (io (qco c o a v s) * f a) * pairS (qco c o) N g h v := by
    rw [pairS_io]
    exact sumN_congr fun a _ => sumN_congr fun v _ => (Int.mul_assoc _ _ _).symm
  rw [l, r, pairS_push ho]
  refine sumN_congr fun a ha => ?_
  rw [pairS_push ho (fun v => io (qco c o a v s) * f a)]
  refine sumN_congr fun b hb => ?_
  rw [← sumN_mul, ← sumN_mulr]
  refine sumN_congr fun d hd => ?_
  show io (c a b) * (io (c (o a b) d && (o (o a b) d == s)) * h d) * (f a * g b) = io (c b d) * (io (c a (o b d) && (o a (o b d) == s)) * f a) * (g b * h d)
  rw [io_mul3, io_mul3, ← h1 a b d]
  cases hc : (c a b && c (o a b) d) with
  | false => simp [io]
  | true =>
    rw [h2 a b d hc]
    congr 1
    simp only [Int.mul_comm, Int.mul_left_comm]
theorem pairS_comm {q : Nat → Nat → Nat → Bool} (hq : ∀ a b s, q a b s = q b a s) (N : Nat) (f g : Nat → Int) (s : Nat) : pairS q N f g s = pairS q N g f s := by
  rw [pairS_io, pairS_io, sumN_swap]
  exact sumN_congr fun a _ => sumN_congr fun b _ => by rw [hq, Int.mul_comm (f b)]
theorem pairS_add {q : Nat → Nat → Nat → Bool} {N : Nat} {f f' g : Nat → Int} {s : Nat} : pairS q N (fun i => f i + f' i) g s = pairS q N f g s + pairS q N f' g s := by
  rw [pairS_io, pairS_io, pairS_io, ← sumN_add]
  refine sumN_congr fun a _ => ?_
  rw [← sumN_add]
  exact sumN_congr fun b _ => by rw [Int.add_mul, Int.mul_add]
theorem pairS_unit {q : Nat → Nat → Nat → Bool} {N e s : Nat} {f : Nat → Int} (he : e < N) (hs : s < N) (hq : ∀ a, a < N → q a e s = (a == s)) : pairS q N f (fun i => if i = e then 1 else 0) s = f s := by
  rw [pairS_io, sumN_one hs fun a ha hne => ?_]
  · rw [sumN_one he fun b _ hb => by rw [if_neg hb, Int.mul_zero, Int.mul_zero], hq s hs, if_pos rfl, beq_self_eq_true, Int.mul_one]
    exact Int.one_mul _
  · rw [sumN_one he fun b _ hb => by rw [if_neg hb, Int.mul_zero, Int.mul_zero], hq a ha, beq_eq_false_iff_ne.mpr hne]
    exact Int.zero_mul _
theorem T2_pairS {M : M2} {op : Bool → Bool → Bool} {o : Nat → Nat → Nat} (hM : ∀ s x y, M s (op x y) = M s x * M s y) (hj : ∀ x y j, (o x y).testBit j = op (x.testBit j) (y.testBit j)) {n : Nat} (ho : ∀ a b, a < 2 ^ n → b < 2 ^ n → o a b < 2 ^ n) (f g : Nat → Int) (s : Nat) :
    T2 M n (pairS (qco (fun _ _ => true) o) (2 ^ n) f g) s = T2 M n f s * T2 M n g s := by
  unfold T2
  rw [pairS_push ho, sumN_prod]
  refine sumN_congr fun a _ => sumN_congr fun b _ => ?_
  rw [PW_congr (g := fun j => M (s.testBit j) (a.testBit j) * M (s.testBit j) (b.testBit j)) fun j _ => by rw [hj, hM], ← PW_mul]
  show 1 * _ * _ = _
  rw [Int.one_mul]
  simp only [Int.mul_assoc, Int.mul_left_comm]
theorem T2_sumN {M : M2} {n k : Nat} {F : Nat → Nat → Int} {s : Nat} : T2 M n (fun u => sumN k fun i => F i u) s = sumN k fun i => T2 M n (F i) s := by
  unfold T2
  rw [sumN_swap]
  exact sumN_congr fun u _ => sumN_mul.symm
theorem orW {n s : Nat} {f g : Nat → Int} (hs : s < 2 ^ n) : T2 (MK 3) n (fun u => T2 (MK 0) n f u * T2 (MK 0) n g u) s = pairS (fun a b s => (a ||| b) == s) (2 ^ n) f g s := by
  rw [T2_prod (M := MK 0) (M' := MK 3) (C := fun s x y => if (s == (x || y)) = true then 1 else 0) (by decide)]
  refine pairS_of (w := fun a b s => PW n fun j => if (s.testBit j == (a.testBit j || b.testBit j)) = true then 1 else 0) fun a b ha hb => ?_
  rw [PW_op (op := fun x y => x || y) (o := fun x y => x ||| y) (fun x y j => Nat.testBit_or ..) hs (Nat.or_lt_two_pow ha hb)]
  by_cases c : a ||| b = s
  · rw [if_pos c, if_pos (by rw [c]; exact beq_self_eq_true _)]
  · rw [if_neg c, if_neg (by rw [beq_iff_eq]; exact c)]
/-- sizes that come to one -/
theorem by_sizes {sz : Nat → Nat} {N k s : Nat} {f g : Nat → Int} {q q' : Nat → Nat → Nat → Bool} (h : ∀ a b, a < N → b < N → (q a b s && (sz a + sz b == k)) = q' a b s) :
    (sumN (k + 1) fun i => pairS q N (fun t => if sz t = i then f t else 0) (fun t => if sz t = k - i then g t else 0) s) = pairS q' N f g s := by
  have e : (sumN (k + 1) fun i => pairS q N (fun t => if sz t = i then f t else 0) (fun t => if sz t = k - i then g t else 0) s) = sumN (k + 1) fun i => sumN N fun a => sumN N fun b => io (q a b s) * ((if sz a = i then f a else 0) * (if sz b = k - i then g b else 0)) := sumN_congr fun i _ => pairS_io
  rw [e, sumN_swap, pairS_io]
  refine sumN_congr fun a ha => ?_
  rw [sumN_swap]
  refine sumN_congr fun b hb => ?_
  rw [← h a b ha hb]
  by_cases c : sz a < k + 1
  · rw [sumN_one c fun i _ hi => by rw [if_neg (Ne.symm hi), Int.zero_mul, Int.mul_zero], if_pos rfl]
    by_cases d : sz a + sz b = k
    · rw [if_pos (by omega), d, beq_self_eq_true, Bool.and_true]
    · rw [if_neg (by omega), beq_eq_false_iff_ne.mpr d, Bool.and_false, Int.mul_zero, Int.mul_zero]
      exact (Int.zero_mul _).symm
  · rw [beq_eq_false_iff_ne.mpr (by omega), Bool.and_false, sumN_congr (g := fun _ => 0) fun i hi => by rw [if_neg (by omega), Int.zero_mul, Int.mul_zero], sumN_zero]
    exact (Int.zero_mul _).symm
end DY
namespace DY
/-! ### names in another order -/
theorem sumI_perm {a b : List Int} (p : a.Perm b) : a.sum = b.sum := by
  induction p with
  | nil => rfl
  | cons x _ ih => rw [List.sum_cons, List.sum_cons, ih]
  | swap x y l =>
    simp only [List.sum_cons]
    omega
  | trans _ _ h1 h2 => rw [h1, h2]
def prodI : List Int → Int
  | [] => 1
  | x :: xs => prodI xs * x
theorem prodI_perm {a b : List Int} (p : a.Perm b) : prodI a = prodI b := by
  induction p with
  | nil => rfl
  | cons x _ ih => rw [prodI, prodI, ih]
  | swap x y l =>
    rw [prodI, prodI, prodI, prodI, Int.mul_assoc, Int.mul_assoc, Int.mul_comm x y]
  | trans _ _ h1 h2 => rw [h1, h2]
theorem prodI_snoc (x : Int) : ∀ l : List Int, prodI (l ++ [x]) = prodI l * x
  | [] => by
    show 1 * x = 1 * x
    rfl
  | y :: l => by
    rw [List.cons_append, prodI, prodI, prodI_snoc x l, Int.mul_assoc, Int.mul_assoc, Int.mul_comm x y]
theorem sumN_list (f : Nat → Int) : ∀ n, sumN n f = ((List.range n).map f).sum
  | 0 => rfl
  | n + 1 => by
    rw [sumN, sumN_list f n, List.range_succ, List.map_append, List.sum_append]
    show _ = _ + (f n + 0)
    rw [Int.add_zero]
theorem PW_list (f : Nat → Int) : ∀ n, PW n f = prodI ((List.range n).map f)
  | 0 => rfl
  | n + 1 => by
    rw [PW, PW_list f n, List.range_succ, List.map_append]
    exact (prodI_snoc _ _).symm
theorem permN : ∀ (n : Nat) (l : List Nat), l.length ≤ n → (∀ k, k < n → k ∈ l) → l.Perm (List.range n)
  | 0, l, hl, _ => by
    have e : l = [] := List.eq_nil_of_length_eq_zero (by omega)
    rw [e]
    exact List.Perm.refl _
  | n + 1, l, hl, hm => by
    have hn := hm n (by omega)
    have hp := List.length_erase_of_mem hn
    have ih := permN n (l.erase n) (by omega) fun k hk => (List.mem_erase_of_ne (by omega)).mpr (hm k (by omega))
    rw [List.range_succ]
    exact (List.perm_cons_erase hn).trans ((ih.cons n).trans (List.perm_append_singleton n (List.range n)).symm)
theorem sumN_perm {N : Nat} {π : Nat → Nat} (sur : ∀ b, b < N → ∃ a, a < N ∧ π a = b) (h : Nat → Int) : (sumN N fun a => h (π a)) = sumN N h := by
  rw [sumN_list, sumN_list]
  have p := permN N ((List.range N).map π) (by rw [List.length_map, List.length_range]; exact Nat.le_refl _) fun k hk => by
    obtain ⟨a, ha, rfl⟩ := sur k hk
    exact List.mem_map.mpr ⟨a, List.mem_range.mpr ha, rfl⟩
  have := sumI_perm (p.map h)
  rw [List.map_map] at this
  exact this
theorem PW_perm {n : Nat} {o : Nat → Nat} (sur : ∀ b, b < n → ∃ a, a < n ∧ o a = b) (h : Nat → Int) : (PW n fun a => h (o a)) = PW n h := by
  rw [PW_list, PW_list]
  have p := permN n ((List.range n).map o) (by rw [List.length_map, List.length_range]; exact Nat.le_refl _) fun k hk => by
    obtain ⟨a, ha, rfl⟩ := sur k hk
    exact List.mem_map.mpr ⟨a, List.mem_range.mpr ha, rfl⟩
  have := prodI_perm (p.map h)
  rw [List.map_map] at this
  exact this
/-- a set of given names -/
theorem of_bits (p : Nat → Bool) : ∀ n, ∃ a, a < 2 ^ n ∧ ∀ k, k < n → a.testBit k = p k
  | 0 => ⟨0, by decide, fun k hk => by omega⟩
  | n + 1 => by
    obtain ⟨a, ha, hb⟩ := of_bits p n
    have e : 2 ^ (n + 1) = 2 ^ n + 2 ^ n := by rw [Nat.pow_succ]; omega
    cases hp : p n with
    | true =>
      refine ⟨2 ^ n + a, by omega, fun k hk => ?_⟩
      by_cases c : k = n
      · rw [c, tb_top ha, hp]
      · rw [tb_hi (by omega)]
        exact hb k (by omega)
    | false =>
      refine ⟨a, by omega, fun k hk => ?_⟩
      by_cases c : k = n
      · rw [c, Nat.testBit_lt_two_pow ha, hp]
      · exact hb k (by omega)
/-- π tells each set by the names o -/
structure Ren (n : Nat) (o π : Nat → Nat) : Prop where
  sur : ∀ b, b < n → ∃ a, a < n ∧ o a = b
  lt : ∀ s, s < 2 ^ n → π s < 2 ^ n
  bit : ∀ s, s < 2 ^ n → ∀ k, k < n → (π s).testBit (o k) = s.testBit k
theorem Ren.onto {n : Nat} {o π : Nat → Nat} (r : Ren n o π) : ∀ b, b < 2 ^ n → ∃ a, a < 2 ^ n ∧ π a = b := fun b hb => by
  obtain ⟨a, ha, h⟩ := of_bits (fun k => b.testBit (o k)) n
  refine ⟨a, ha, tb_eq (r.lt a ha) hb fun j hj => ?_⟩
  obtain ⟨k, hk, rfl⟩ := r.sur j hj
  rw [r.bit a ha k hk, h k hk]
theorem Ren.inj {n : Nat} {o π : Nat → Nat} (r : Ren n o π) {a b : Nat} (ha : a < 2 ^ n) (hb : b < 2 ^ n) (h : π a = π b) : a = b :=
  tb_eq ha hb fun k hk => by rw [← r.bit a ha k hk, ← r.bit b hb k hk, h]
theorem Ren.op {n : Nat} {o π : Nat → Nat} (r : Ren n o π) {op : Bool → Bool → Bool} {O : Nat → Nat → Nat} (hO : ∀ x y j, (O x y).testBit j = op (x.testBit j) (y.testBit j)) (lO : ∀ x y, x < 2 ^ n → y < 2 ^ n → O x y < 2 ^ n) {a b : Nat} (ha : a < 2 ^ n) (hb : b < 2 ^ n) : π (O a b) = O (π a) (π b) := by
  refine tb_eq (r.lt _ (lO a b ha hb)) (lO _ _ (r.lt a ha) (r.lt b hb)) fun j hj => ?_
  obtain ⟨k, hk, rfl⟩ := r.sur j hj
  rw [r.bit _ (lO a b ha hb) k hk, hO, hO, r.bit a ha k hk, r.bit b hb k hk]
theorem Ren.zero {n : Nat} {o π : Nat → Nat} (r : Ren n o π) : π 0 = 0 := by
  have p0 := Nat.two_pow_pos n
  refine tb_eq (r.lt 0 p0) p0 fun j hj => ?_
  obtain ⟨k, hk, rfl⟩ := r.sur j hj
  rw [r.bit 0 p0 k hk, Nat.zero_testBit, Nat.zero_testBit]
/-- pairs, told through the names -/
theorem pairS_ren {n : Nat} {o π : Nat → Nat} (r : Ren n o π) {q : Nat → Nat → Nat → Bool} (hq : ∀ a b s, a < 2 ^ n → b < 2 ^ n → s < 2 ^ n → q (π a) (π b) (π s) = q a b s) (f g : Nat → Int) {s : Nat} (hs : s < 2 ^ n) :
    pairS q (2 ^ n) (fun i => f (π i)) (fun i => g (π i)) s = pairS q (2 ^ n) f g (π s) := by
  have e2 : pairS q (2 ^ n) f g (π s) = sumN (2 ^ n) fun a => sumN (2 ^ n) fun b => if q (π a) (π b) (π s) = true then f (π a) * g (π b) else 0 := by
    unfold pairS
    rw [← sumN_perm r.onto fun a => sumN (2 ^ n) fun b => if q a b (π s) = true then f a * g b else 0]
    exact sumN_congr fun a _ => (sumN_perm r.onto fun b => if q (π a) b (π s) = true then f (π a) * g b else 0).symm
  rw [e2]
  unfold pairS
  exact sumN_congr fun a ha => sumN_congr fun b hb => by rw [hq a b s ha hb hs]
/-- sums, told through the names -/
theorem T2_ren {n : Nat} {o π : Nat → Nat} (r : Ren n o π) (M : M2) (f : Nat → Int) {s : Nat} (hs : s < 2 ^ n) : T2 M n (fun i => f (π i)) s = T2 M n f (π s) := by
  unfold T2
  rw [← sumN_perm r.onto fun t => (PW n fun j => M ((π s).testBit j) (t.testBit j)) * f t]
  refine sumN_congr fun t ht => ?_
  rw [← PW_perm r.sur fun j => M ((π s).testBit j) ((π t).testBit j)]
  congr 1
  exact PW_congr fun k hk => by rw [r.bit s hs k hk, r.bit t ht k hk]
/-! ### one name more -/
/-- a table's way to sets with one name more at m: ι s the set, ι s + 2^m the set with the name -/
structure Ins (n m : Nat) (ι : Nat → Nat) (sk : Nat → Nat) : Prop where
  m_le : m ≤ n
  lt : ∀ s, s < 2 ^ n → ι s + 2 ^ m < 2 ^ (n + 1)
  all : ∀ u, u < 2 ^ (n + 1) → ∃ s, s < 2 ^ n ∧ (u = ι s ∨ u = ι s + 2 ^ m)
  skm : ∀ k, k < n → sk k < n + 1 ∧ sk k ≠ m
  ska : ∀ j, j < n + 1 → j = m ∨ ∃ k, k < n ∧ j = sk k
  bit : ∀ s, s < 2 ^ n → ∀ k, k < n → (ι s).testBit (sk k) = s.testBit k ∧ (ι s + 2 ^ m).testBit (sk k) = s.testBit k
  bm : ∀ s, s < 2 ^ n → (ι s).testBit m = false ∧ (ι s + 2 ^ m).testBit m = true
theorem sumN_app {f : Nat → Int} {l1 l2 : List Nat} : ((l1 ++ l2).map f).sum = (l1.map f).sum + (l2.map f).sum := by rw [List.map_append, List.sum_append]
theorem Ins.sum {n m : Nat} {ι sk : Nat → Nat} (r : Ins n m ι sk) (h : Nat → Int) : sumN (2 ^ (n + 1)) h = (sumN (2 ^ n) fun s => h (ι s)) + sumN (2 ^ n) fun s => h (ι s + 2 ^ m) := by
  have e : 2 ^ (n + 1) = 2 ^ n + 2 ^ n := by rw [Nat.pow_succ]; omega
  have p := permN (2 ^ (n + 1)) ((List.range (2 ^ n)).map ι ++ (List.range (2 ^ n)).map fun s => ι s + 2 ^ m) (by rw [List.length_append, List.length_map, List.length_map, List.length_range]; omega) fun u hu => by
    obtain ⟨s, hs, c⟩ := r.all u hu
    rcases c with c | c
    · exact List.mem_append_left _ (List.mem_map.mpr ⟨s, List.mem_range.mpr hs, c.symm⟩)
    · exact List.mem_append_right _ (List.mem_map.mpr ⟨s, List.mem_range.mpr hs, c.symm⟩)
  have := sumI_perm (p.map h)
  rw [sumN_app, List.map_map, List.map_map] at this
  rw [sumN_list h, sumN_list fun s => h (ι s), sumN_list fun s => h (ι s + 2 ^ m)]
  exact this.symm
theorem Ins.PW {n m : Nat} {ι sk : Nat → Nat} (r : Ins n m ι sk) (h : Nat → Int) : DY.PW (n + 1) h = h m * DY.PW n fun k => h (sk k) := by
  have p := permN (n + 1) (m :: (List.range n).map sk) (by rw [List.length_cons, List.length_map, List.length_range]; exact Nat.le_refl _) fun j hj => by
    rcases r.ska j hj with c | ⟨k, hk, c⟩
    · rw [c]
      exact List.mem_cons_self
    · exact List.mem_cons_of_mem _ (List.mem_map.mpr ⟨k, List.mem_range.mpr hk, c.symm⟩)
  have := prodI_perm (p.map h)
  rw [List.map_cons, List.map_map, ← PW_list, prodI] at this
  rw [← this, PW_list, Int.mul_comm] <;> rfl
/-- the sums of a table with one name more -/
theorem Ins.T2 {n m : Nat} {ι sk : Nat → Nat} (r : Ins n m ι sk) (M : M2) (w : Nat → Int) (f g : Nat → Int) (hf : ∀ s, s < 2 ^ n → w (ι s) = f s) (hg : ∀ s, s < 2 ^ n → w (ι s + 2 ^ m) = g s) {s : Nat} (hs : s < 2 ^ n) :
    DY.T2 M (n + 1) w (ι s) = (lin M (DY.T2 M n f s) (DY.T2 M n g s)).1 ∧ DY.T2 M (n + 1) w (ι s + 2 ^ m) = (lin M (DY.T2 M n f s) (DY.T2 M n g s)).2 := by
  have key : ∀ (u : Nat) (c : Bool), (∀ k, k < n → u.testBit (sk k) = s.testBit k) → u.testBit m = c → DY.T2 M (n + 1) w u = M c false * DY.T2 M n f s + M c true * DY.T2 M n g s := fun u c hu hc => by
    unfold DY.T2
    rw [r.sum, ← sumN_mul, ← sumN_mul]
    congr 1
    · refine sumN_congr fun t ht => ?_
      rw [r.PW, hf t ht, hc, (r.bm t ht).1, PW_congr (g := fun j => M (s.testBit j) (t.testBit j)) fun k hk => by rw [hu k hk, (r.bit t ht k hk).1], Int.mul_assoc]
    · refine sumN_congr fun t ht => ?_
      rw [r.PW, hg t ht, hc, (r.bm t ht).2, PW_congr (g := fun j => M (s.testBit j) (t.testBit j)) fun k hk => by rw [hu k hk, (r.bit t ht k hk).2], Int.mul_assoc]
  exact ⟨key _ false (fun k hk => (r.bit s hs k hk).1) (r.bm s hs).1, key _ true (fun k hk => (r.bit s hs k hk).2) (r.bm s hs).2⟩
/-- the pairs of tables with one name more: at ι s + c 2^m those halves whose names come to c -/
theorem Ins.pairS {n m : Nat} {ι sk : Nat → Nat} (r : Ins n m ι sk) {Q q : Nat → Nat → Nat → Bool} {b : Bool → Bool → Bool → Bool} (u : Nat) (c : Bool) (s : Nat)
    (h00 : ∀ x y, x < 2 ^ n → y < 2 ^ n → Q (ι x) (ι y) u = (b false false c && q x y s)) (h01 : ∀ x y, x < 2 ^ n → y < 2 ^ n → Q (ι x) (ι y + 2 ^ m) u = (b false true c && q x y s))
    (h10 : ∀ x y, x < 2 ^ n → y < 2 ^ n → Q (ι x + 2 ^ m) (ι y) u = (b true false c && q x y s)) (h11 : ∀ x y, x < 2 ^ n → y < 2 ^ n → Q (ι x + 2 ^ m) (ι y + 2 ^ m) u = (b true true c && q x y s))
    (v w f g f' g' : Nat → Int) (hf : ∀ s, s < 2 ^ n → v (ι s) = f s) (hg : ∀ s, s < 2 ^ n → v (ι s + 2 ^ m) = g s) (hf' : ∀ s, s < 2 ^ n → w (ι s) = f' s) (hg' : ∀ s, s < 2 ^ n → w (ι s + 2 ^ m) = g' s) :
    DY.pairS Q (2 ^ (n + 1)) v w u = io (b false false c) * DY.pairS q (2 ^ n) f f' s + io (b false true c) * DY.pairS q (2 ^ n) f g' s + (io (b true false c) * DY.pairS q (2 ^ n) g f' s + io (b true true c) * DY.pairS q (2 ^ n) g g' s) := by
  have part : ∀ (e : Bool) (F G : Nat → Int), io e * DY.pairS q (2 ^ n) F G s = sumN (2 ^ n) fun x => sumN (2 ^ n) fun y => if (e && q x y s) = true then F x * G y else 0 := fun e F G => by
    cases e with
    | true =>
      rw [show io true = 1 from rfl, Int.one_mul] <;> rfl
    | false =>
      rw [show io false = 0 from rfl, Int.zero_mul]
      refine (sumN_congr (g := fun _ => 0) fun x _ => ?_).trans sumN_zero |>.symm
      exact (sumN_congr (g := fun _ => 0) fun y _ => rfl).trans sumN_zero
  rw [part, part, part, part]
  unfold DY.pairS
  rw [r.sum]
  refine (fun {a b c d : Int} (h1 : a = c) (h2 : b = d) => (by rw [h1, h2] : a + b = c + d)) ?_ ?_
  · rw [← sumN_add]
    refine sumN_congr fun x hx => ?_
    rw [r.sum]
    congr 1
    · exact sumN_congr fun y hy => by rw [h00 x y hx hy, hf x hx, hf' y hy]
    · exact sumN_congr fun y hy => by rw [h01 x y hx hy, hf x hx, hg' y hy]
  · rw [← sumN_add]
    refine sumN_congr fun x hx => ?_
    rw [r.sum]
    congr 1
    · exact sumN_congr fun y hy => by rw [h10 x y hx hy, hg x hx, hf' y hy]
    · exact sumN_congr fun y hy => by rw [h11 x y hx hy, hg x hx, hg' y hy]
end DY
namespace DY
open PySem PySem.Spec PyProof.Rows L2
/-! ### methods whose errors are looked at slot by slot -/
section
variable {X : Cx} {CX : CXT} {k : Nat} {f C : Addr} {fd : FuncData} {ps : List Str} {sp : Sp} {E : L2.St → XK} {m : Str} {pos apos : Pos} {e o : Expr} {es : List Expr} {ta : TE} {t : TA}
def tMethS (C : Addr) (m : Str) (sp : Sp) (E : L2.St → XK) (ta : TE) (t : TA) : TE := fun σ H Q => ta σ H fun x H1 => ∃ a dx fs, x = .ref a ∧ H1 a = some (.ins C dx fs) ∧ fs.lookup m = none ∧ t σ H1 fun vs H2 => sp (x :: vs) H2 Q (E σ)
theorem pe_methA {pl : Sem Bool} (he : PE X o ta) (c : Cls X.K C) (hm : Meth X.K C m f) (F : FnOk X.prog X.w X.K X.mg X.base CX k f fd ps sp) (hr : Room k X.A) (hb : Binds X.K fd ps []) (hx : ∀ σ, PassesAt CX X σ (E σ)) (ha : PA X (e :: es) t)
    (hst : starEach (e :: es) X.env = (false, eval e X.env) :: starEach es X.env := by rfl) (hpl : (backTo pos (starEach es X.env)).any (·.1) = false := by rfl)
    (ht : eval (.Call (.Attribute o m apos) (e :: es) [] pos) X.env = (do
      let ov ← eval o X.env
      standAt apos.atName
      let (f, first) ← holding [ov] (getMethod ov m pl)
      callWith pos f first (backTo pos (starEach (e :: es) X.env)) (backToKw pos (keywordEach [] X.env))) := by rfl) :
    PE X (.Call (.Attribute o m apos) (e :: es) [] pos) (tMethS C m sp E ta t) := by
  refine ⟨fun pins s σ H Q I h => ?_⟩
  refine PySem.W.methodCall_KW (pl := pl) (thn (he.run pins s σ H _ I h) fun u s1 ⟨x, H1, I1, rx, a, dx, fs, ex, ea, l, q⟩ => ?_) ht
  subst ex
  obtain rfl : u = Value.ref a := rx
  refine getmeth_ok I1 ea c hm l ?_
  refine PySem.W.callWith_K (first := [.ref a]) (h₀ := X.base) I.ok.mod.kin hm.kp (thn (ha.run pos pins s1 σ H1 _ I1 q) fun us s2 ⟨vs, H2, I2, r, q2⟩ => ⟨I2.kIn, ?_⟩) hst hpl
  exact run_fnS (us := .ref a :: us) (vs := .ref a :: vs) F hr hb (hx σ) I2 (.cons rfl r) q2
theorem pe_methA0 {pl : Sem Bool} (he : PE X o ta) (c : Cls X.K C) (hm : Meth X.K C m f) (F : FnOk X.prog X.w X.K X.mg X.base CX k f fd ps sp) (hr : Room k X.A) (hb : Binds X.K fd ps []) (hx : ∀ σ, PassesAt CX X σ (E σ))
    (ht : eval (.Call (.Attribute o m apos) [] [] pos) X.env = (do
      let ov ← eval o X.env
      standAt apos.atName
      let (f, first) ← holding [ov] (getMethod ov m pl)
      callWith pos f first (backTo pos (starEach [] X.env)) (backToKw pos (keywordEach [] X.env))) := by rfl) :
    PE X (.Call (.Attribute o m apos) [] [] pos) (tMethS C m sp E ta tNil) := by
  refine ⟨fun pins s σ H Q I h => ?_⟩
  refine PySem.W.methodCall_KW (pl := pl) (thn (he.run pins s σ H _ I h) fun u s1 ⟨x, H1, I1, rx, a, dx, fs, ex, ea, l, q⟩ => ?_) ht
  subst ex
  obtain rfl : u = Value.ref a := rx
  refine getmeth_ok I1 ea c hm l ?_
  exact PySem.W.callWith_K0 (first := [.ref a]) I1.kIn hm.kp (run_fnS (us := [.ref a]) (vs := [.ref a]) F hr hb (hx σ) I1 (.cons rfl .nil) q)
/-- a promise or another -/
def spOr (sp sp' : Sp) : Sp := fun vs H Q E => sp vs H Q E ∨ sp' vs H Q E
end
section
variable [NM] {G : Gd} {W : WX} {X : Cx}
/-! ### an attribute of an instance -/
def oAttr (f : Str) : D → Option R
  | .ins ns ds => ((ns.zip ds).lookup f).map R.ok
  | _ => none
theorem lookup_rep {B : Hp} {f : Str} {d : D} : ∀ {ns : List Str} {vs : List V} {ds : List D}, RepL G B vs ds → (ns.zip ds).lookup f = some d → ∃ v, (ns.zip vs).lookup f = some v ∧ Rep G B v d
  | [], _, _, _, h => by simp at h
  | n :: ns, _, _, .nil, h => by simp at h
  | n :: ns, v :: vs, e :: ds, .cons r rl, h => by
    rw [List.zip_cons_cons, List.lookup_cons] at h ⊢
    cases c : f == n with
    | true =>
      rw [c] at h
      cases h
      exact ⟨v, rfl, r⟩
    | false =>
      rw [c] at h
      exact lookup_rep rl h
theorem pd_attr {e : Expr} {f : Str} {pos : Pos} {fx : Fx} (c : Cls X.K (G.T 1001)) (n : NoAttr X.K (G.T 1001) f) (he : PE X e (teD G W fx)) (hb : attributeBase e f X.env (eval e X.env) = eval e X.env := by rfl) : PE X (.Attribute e f pos) (teD G W (f1 (oAttr f) fx)) :=
  (pe_fld he hb).impD fun σ H Q ⟨B, ε, z, hs, he, hf, hq, hx⟩ => by
    refine te_bind hs he hf hx fun d v B1 H1 st e1 rp hk => ?_
    unfold oAttr at hk
    split at hk
    · obtain ⟨d', h1, rfl⟩ := Option.map_eq_some_iff.mp hk
      cases rp with
      | ins hh rl =>
        obtain ⟨u, h2, r2⟩ := lookup_rep rl h1
        exact ⟨_, _, _, _, u, rfl, st.s _ _ hh, c, n, h2, hq u B1 H1 st r2⟩
    · cases hk
/-! ### a method that changes nothing -/
def fMeth (F : List D → Option R) (fo : Fx) (fs : List Fx) : Fx := fun ε => seqR (fo ε) fun x => match x with
  | .ins ns ds => if ns = bkN then seqA (argsV fs ε) fun ys => F (.ins ns ds :: ys) else none
  | _ => none
theorem ta_bind' {B H : Hp} {σ : L2.St} {ε : En} {fs : List Fx} {op : List D → Option R} {z : R} {Q : List V → Hp → Prop} (hs : Same B H) (he : EnvD G B σ ε) (hf : seqA (argsV fs ε) op = some z) (hx : ∀ n, z = .ex n → ∀ H', Same H H' → W (.ref (G.A n)) none σ H')
    (hq : ∀ ds vs B' H', Stp B H B' H' → RepL G B' vs ds → op ds = some z → Q vs H') : taD G W fs σ H Q := ta_bind hs he hf hx hq
theorem look_bk {m : Str} (h : bkN.contains m = false) : ∀ (vs : List V), (bkN.zip vs).lookup m = none := by
  intro vs
  have : ∀ (ns : List Str) (vs : List V), ns.contains m = false → (ns.zip vs).lookup m = none := by
    intro ns
    induction ns with
    | nil => intro vs _; rfl
    | cons n ns ih =>
      intro vs h
      cases vs with
      | nil => rfl
      | cons v vs =>
        rw [List.contains_cons, Bool.or_eq_false_iff] at h
        rw [List.zip_cons_cons, List.lookup_cons, h.1]
        exact ih vs h.2
  exact this _ _ h
structure MtOk (P : Program) (w : World) (K : PySem.W.Frag) (mg : Str → Option Value) (base : Heap) (C : Addr) (m : Str) (k : Nat) (sp : Sp) : Prop where
  ex : ∃ (f : Addr) (fd : FuncData) (ps : List Str), Meth K C m f ∧ FnOk P w K mg base (L2.CX P w) k f fd ps sp ∧ Binds K fd ps []
theorem pd_meth {j k : Nat} {m : Str} {o e : Expr} {es : List Expr} {apos pos : Pos} {pl : Sem Bool} {F : List D → Option R} {fo : Fx} {fs : List Fx} (c : Cls X.K (G.T 1001)) (M : MtOk X.prog X.w X.K X.mg X.base (G.T 1001) m j (spD G F)) (tk : Takes X W) (hr : Room k X.A) (jk : j ≤ k) (hn : bkN.contains m = false) (ho : PE X o (teD G W fo)) (ha : PA X (e :: es) (taD G W fs))
    (hst : starEach (e :: es) X.env = (false, eval e X.env) :: starEach es X.env := by rfl) (hpl : (backTo pos (starEach es X.env)).any (·.1) = false := by rfl)
    (ht : eval (.Call (.Attribute o m apos) (e :: es) [] pos) X.env = (do
      let ov ← eval o X.env
      standAt apos.atName
      let (f, first) ← holding [ov] (getMethod ov m pl)
      callWith pos f first (backTo pos (starEach (e :: es) X.env)) (backToKw pos (keywordEach [] X.env))) := by rfl) :
    PE X (.Call (.Attribute o m apos) (e :: es) [] pos) (teD G W (fMeth F fo fs)) := by
  obtain ⟨f, fd, ps, hm, FO, hb⟩ := M.ex
  refine (pe_methA (E := WE W) (pl := pl) ho c hm FO (hr.mono jk) hb (fun σ => passAt tk σ) ha hst hpl ht).impD fun σ H Q ⟨B, ε, z, hs, he, hf, hq, hx⟩ => ?_
  unfold fMeth at hf
  refine te_bind hs he hf hx fun d v B1 H1 st e1 rp hk => ?_
  split at hk
  · split at hk
    · rename_i en
      subst en
      cases rp with
      | ins hh rl =>
        refine ⟨_, _, _, rfl, st.s _ _ hh, look_bk hn _, ?_⟩
        exact ta_bind st.s e1 hk (fun n q H' s' => hx n q H' (st.h.trans s')) fun ys us B2 H2 st2 rl2 hk2 => ⟨B2, _, z, st2.s, e1.tab.mono st2.b, .cons (.ins (st2.b _ _ hh) (rl.mono st2.b)) rl2, hk2, fun u B3 H3 st3 res => hq u B3 H3 ((st.trans st2).trans st3) (res.back (st.h.trans st2.h)), fun n q H3 s3 => hx n q H3 ((st.h.trans st2.h).trans s3)⟩
    · cases hk
  · cases hk
theorem pd_meth0 {j k : Nat} {m : Str} {o : Expr} {apos pos : Pos} {pl : Sem Bool} {F : List D → Option R} {fo : Fx} (c : Cls X.K (G.T 1001)) (M : MtOk X.prog X.w X.K X.mg X.base (G.T 1001) m j (spD G F)) (tk : Takes X W) (hr : Room k X.A) (jk : j ≤ k) (hn : bkN.contains m = false) (ho : PE X o (teD G W fo))
    (ht : eval (.Call (.Attribute o m apos) [] [] pos) X.env = (do
      let ov ← eval o X.env
      standAt apos.atName
      let (f, first) ← holding [ov] (getMethod ov m pl)
      callWith pos f first (backTo pos (starEach [] X.env)) (backToKw pos (keywordEach [] X.env))) := by rfl) :
    PE X (.Call (.Attribute o m apos) [] [] pos) (teD G W (fMeth F fo [])) := by
  obtain ⟨f, fd, ps, hm, FO, hb⟩ := M.ex
  refine (pe_methA0 (E := WE W) (pl := pl) ho c hm FO (hr.mono jk) hb (fun σ => passAt tk σ) ht).impD fun σ H Q ⟨B, ε, z, hs, he, hf, hq, hx⟩ => ?_
  unfold fMeth at hf
  refine te_bind hs he hf hx fun d v B1 H1 st e1 rp hk => ?_
  split at hk
  · split at hk
    · rename_i en
      subst en
      cases rp with
      | ins hh rl =>
        refine ⟨_, _, _, rfl, st.s _ _ hh, look_bk hn _, ?_⟩
        have hk : F [.ins bkN _] = some z := hk
        exact ⟨B1, _, z, st.s, e1.tab, .cons (.ins hh rl) .nil, hk, fun u B3 H3 st3 res => hq u B3 H3 (st.trans st3) (res.back st.h), fun n q H3 s3 => hx n q H3 (st.h.trans s3)⟩
    · cases hk
  · cases hk
end
end DY
namespace DY
open PySem PySem.Spec PyProof.Rows L2
section
variable [NM] {G : Gd} {W : WX} {X : Cx}
/-! ### things handed in that change -/
inductive Ar where
  | sl (i : Nat) | ex (f : Fx)
def slotsOf : List Ar → List Nat
  | [] => []
  | .sl i :: as => i :: slotsOf as
  | .ex _ :: as => slotsOf as
def argsM : List Ar → Ev → Option (List Sl)
  | [], _ => some []
  | .sl i :: as, δ => match δ[i]? with
    | some s => if s.root.isSome = true then (argsM as δ).map (s :: ·) else none
    | none => none
  | .ex f :: as, δ => match f (pub δ) with
    | some (.ok d) => if d.flat = true then (argsM as δ).map (.dat d :: ·) else none
    | _ => none
def setsM : Ev → List Ar → List Sl → Ev
  | δ, .sl i :: as, s :: ss => setsM (δ.set i s) as ss
  | δ, .ex _ :: as, _ :: ss => setsM δ as ss
  | δ, _, _ => δ
inductive VlOk (G : Gd) (σ : L2.St) (δ : Ev) : List Ar → List Sl → List V → Prop
  | nil : VlOk G σ δ [] [] []
  | sl {i s v ars ss vs} : δ[i]? = some s → s.root.isSome = true → σ[i]? = some (some v) → VlOk G σ δ ars ss vs → VlOk G σ δ (.sl i :: ars) (s :: ss) (v :: vs)
  | ex {f d v ars ss vs} : (∀ B, Rep G B v d) → VlOk G σ δ ars ss vs → VlOk G σ δ (.ex f :: ars) (.dat d :: ss) (v :: vs)
theorem VlOk.len {σ : L2.St} {δ : Ev} : ∀ {ars ss vs}, VlOk G σ δ ars ss vs → ss.length = vs.length ∧ ars.length = ss.length
  | _, _, _, .nil => ⟨rfl, rfl⟩
  | _, _, _, .sl _ _ _ t => ⟨congrArg (· + 1) t.len.1, congrArg (· + 1) t.len.2⟩
  | _, _, _, .ex _ t => ⟨congrArg (· + 1) t.len.1, congrArg (· + 1) t.len.2⟩
theorem VlOk.get {σ : L2.St} {δ : Ev} : ∀ {ars ss vs} (j : Nat) (s : Sl), VlOk G σ δ ars ss vs → ss[j]? = some s → (∃ i v, ars[j]? = some (.sl i) ∧ δ[i]? = some s ∧ s.root.isSome = true ∧ vs[j]? = some v ∧ σ[i]? = some (some v)) ∨ ∃ f d v, ars[j]? = some (.ex f) ∧ s = .dat d ∧ vs[j]? = some v ∧ ∀ B, Rep G B v d
  | _, _, _, j, s, .nil, h => by simp at h
  | _, _, _, 0, s, .sl h1 h2 h3 t, h => by
    simp at h
    subst h
    exact .inl ⟨_, _, rfl, h1, h2, rfl, h3⟩
  | _, _, _, 0, s, .ex h1 t, h => by
    simp at h
    subst h
    exact .inr ⟨_, _, _, rfl, rfl, rfl, h1⟩
  | _, _, _, j + 1, s, .sl _ _ _ t, h => by
    have := t.get j s (by simpa using h)
    simpa using this
  | _, _, _, j + 1, s, .ex _ t, h => by
    have := t.get j s (by simpa using h)
    simpa using this
theorem VlOk.at {σ : L2.St} {δ : Ev} {ars ss vs} {j i : Nat} (h : VlOk G σ δ ars ss vs) (e : ars[j]? = some (.sl i)) : ∃ s v, ss[j]? = some s ∧ δ[i]? = some s ∧ s.root.isSome = true ∧ vs[j]? = some v ∧ σ[i]? = some (some v) := by
  have hl := (List.getElem?_eq_some_iff.mp e).1
  have hl2 : j < ss.length := by rw [← h.len.2]; exact hl
  have hs : ss[j]? = some ss[j] := List.getElem?_eq_getElem hl2
  rcases h.get j _ hs with ⟨i', v, h1, h2, h3, h4, h5⟩ | ⟨f, d, v, h1, _⟩
  · rw [e] at h1
    cases h1
    exact ⟨_, v, hs, h2, h3, h4, h5⟩
  · rw [e] at h1
    cases h1
theorem slots_mem : ∀ {ars : List Ar} {i : Nat}, i ∈ slotsOf ars ↔ ∃ j : Nat, ars[j]? = some (Ar.sl i)
  | [], i => by simp [slotsOf]
  | .sl k :: as, i => by
    have ih := slots_mem (ars := as) (i := i)
    rw [slotsOf, List.mem_cons, ih]
    constructor
    · rintro (rfl | ⟨j, h⟩)
      · exact ⟨0, rfl⟩
      · exact ⟨j + 1, by simpa using h⟩
    · rintro ⟨j, h⟩
      cases j with
      | zero =>
        cases h
        exact .inl rfl
      | succ j => exact .inr ⟨j, by simpa using h⟩
  | .ex f :: as, i => by
    have ih := slots_mem (ars := as) (i := i)
    rw [slotsOf, ih]
    constructor
    · rintro ⟨j, h⟩
      exact ⟨j + 1, by simpa using h⟩
    · rintro ⟨j, h⟩
      cases j with
      | zero => cases h
      | succ j => exact ⟨j, by simpa using h⟩
theorem slots_inj : ∀ {ars : List Ar} {i j k : Nat}, (slotsOf ars).Nodup → ars[j]? = some (.sl i) → ars[k]? = some (.sl i) → j = k
  | [], _, _, _, _, h, _ => by simp at h
  | .sl m :: as, i, 0, 0, _, _, _ => rfl
  | .sl m :: as, i, 0, k + 1, nd, h1, h2 => by
    cases h1
    exact absurd (slots_mem.mpr ⟨k, by simpa using h2⟩) (List.nodup_cons.mp nd).1
  | .sl m :: as, i, j + 1, 0, nd, h1, h2 => by
    cases h2
    exact absurd (slots_mem.mpr ⟨j, by simpa using h1⟩) (List.nodup_cons.mp nd).1
  | .sl m :: as, i, j + 1, k + 1, nd, h1, h2 => congrArg (· + 1) (slots_inj (List.nodup_cons.mp nd).2 (by simpa using h1) (by simpa using h2))
  | .ex f :: as, i, 0, _, _, h, _ => by cases h
  | .ex f :: as, i, _ + 1, 0, _, _, h => by cases h
  | .ex f :: as, i, j + 1, k + 1, nd, h1, h2 => congrArg (· + 1) (slots_inj (ars := as) nd (by simpa using h1) (by simpa using h2))
theorem setsM_len : ∀ (ars : List Ar) (ss : List Sl) (δ : Ev), (setsM δ ars ss).length = δ.length
  | [], _, _ => by unfold setsM; rfl
  | .sl i :: as, [], _ => by unfold setsM; rfl
  | .ex f :: as, [], _ => by unfold setsM; rfl
  | .sl i :: as, s :: ss, δ => by rw [setsM, setsM_len as ss, List.length_set]
  | .ex f :: as, s :: ss, δ => by rw [setsM, setsM_len as ss]
theorem setsM_out : ∀ (ars : List Ar) (ss : List Sl) (δ : Ev) (i : Nat), i ∉ slotsOf ars → (setsM δ ars ss)[i]? = δ[i]?
  | [], _, _, _, _ => by unfold setsM; rfl
  | .sl i :: as, [], _, _, _ => by unfold setsM; rfl
  | .ex f :: as, [], _, _, _ => by unfold setsM; rfl
  | .sl k :: as, s :: ss, δ, i, h => by
    rw [setsM, setsM_out as ss _ i fun z => h (List.mem_cons_of_mem _ z), List.getElem?_set_ne fun z => h (by rw [z]; exact List.mem_cons_self)]
  | .ex f :: as, s :: ss, δ, i, h => by rw [setsM, setsM_out as ss _ i h]
theorem setsM_in : ∀ (ars : List Ar) (ss : List Sl) (δ : Ev) (i j : Nat) (s : Sl), (slotsOf ars).Nodup → ars[j]? = some (.sl i) → ss[j]? = some s → i < δ.length → (setsM δ ars ss)[i]? = some s
  | [], _, _, _, _, _, _, h, _, _ => by simp at h
  | .sl k :: as, [], _, _, _, _, _, _, h, _ => by simp at h
  | .ex f :: as, [], _, _, _, _, _, _, h, _ => by simp at h
  | .sl k :: as, s0 :: ss, δ, i, 0, s, nd, h1, h2, hl => by
    cases h1
    cases h2
    rw [setsM, setsM_out as ss _ k (List.nodup_cons.mp nd).1, List.getElem?_set_self hl]
  | .sl k :: as, s0 :: ss, δ, i, j + 1, s, nd, h1, h2, hl => by
    rw [setsM]
    exact setsM_in as ss _ i j s (List.nodup_cons.mp nd).2 (by simpa using h1) (by simpa using h2) (by rw [List.length_set]; exact hl)
  | .ex f :: as, s0 :: ss, δ, i, 0, s, nd, h1, h2, hl => by cases h1
  | .ex f :: as, s0 :: ss, δ, i, j + 1, s, nd, h1, h2, hl => by
    rw [setsM]
    exact setsM_in as ss _ i j s nd (by simpa using h1) (by simpa using h2) hl
theorem root_ok {B H : Hp} {x : Option V} {R : List Addr} {s : Sl} {b : Addr} (h : SlOk G B H x R s) (e : s.root = some b) : x = some (.ref b) := by
  cases s <;> first | (cases e; done) | skip
  · cases e
    obtain ⟨_, _, _, _, _, h, _⟩ := h
    exact h
  · cases e
    obtain ⟨_, _, h, _⟩ := h
    exact h
  · cases e
    obtain ⟨_, _, h, _⟩ := h
    exact h
/-- what stands of it at the end -/
structure Fin (G : Gd) (B' H0 H' : Hp) (ρ : Nat → List Addr) (ss : List Sl) : Prop where
  ok : ∀ j s b, ss[j]? = some s → s.root = some b → SlOk G B' H' (some (.ref b)) (ρ j) s
  new : ∀ (i : Nat) (p : Addr), p ∈ ρ i → H0 p = none ∧ B' p = none ∧ ∃ o, H' p = some o ∧ Own o
  sep : ∀ (i j : Nat) (p : Addr), p ∈ ρ i → p ∈ ρ j → i = j
section
variable {B0 H0 B H : Hp} {σ : L2.St} {δ : Ev} {ars : List Ar} {ss : List Sl} {vs : List V} {ρ : Nat → List Addr}
def fpM (ρ : Nat → List Addr) (ars : List Ar) (a : Addr) : Prop := ∃ i, i ∈ slotsOf ars ∧ a ∈ ρ i
open Classical in
noncomputable def cutM (H : Hp) (ρ : Nat → List Addr) (ars : List Ar) : Hp := fun a => if fpM ρ ars a then none else H a
theorem cut_out {a : Addr} (h : ¬ fpM ρ ars a) : cutM H ρ ars a = H a := if_neg h
theorem cut_in {a : Addr} (h : fpM ρ ars a) : cutM H ρ ars a = none := if_pos h
theorem cut_some {a : Addr} {o : HO} (h : cutM H ρ ars a = some o) : H a = some o ∧ ¬ fpM ρ ars a := by
  by_cases c : fpM ρ ars a
  · rw [cut_in c] at h
    cases h
  · rw [cut_out c] at h
    exact ⟨h, c⟩
theorem hand_in (e : EnvS G B0 H0 B H σ δ) (P : PrvS G B H0 H σ δ ρ) (hv : VlOk G σ δ ars ss vs) (nd : (slotsOf ars).Nodup) : EnvS G B (cutM H ρ ars) B H (vs.map some) ss where
  b0 := Same.refl _
  bn := fun a o q => .inl ⟨o, q⟩
  h0 := Same.of fun b o q => (cut_some q).1
  bh := e.bh
  tab := e.tab
  len := by rw [List.length_map]; exact hv.len.1
  prv := by
    refine ⟨fun j => match ars[j]? with | some (.sl i) => ρ i | _ => [], fun j s q => ?_, fun j p m => ?_, fun j k p m1 m2 => ?_⟩
    · rcases hv.get j s q with ⟨i, v, h1, h2, h3, h4, h5⟩ | ⟨f, d, v, h1, rfl, h3, h4⟩
      · obtain ⟨x, z1, z2⟩ := P.ok i s h2
        rw [h5] at z1
        cases z1
        refine ⟨some v, by rw [List.getElem?_map, h4] <;> rfl, ?_⟩
        rw [h1]
        exact z2
      · refine ⟨some v, by rw [List.getElem?_map, h3] <;> rfl, ?_⟩
        rw [h1]
        exact ⟨v, rfl, h4 B⟩
    · cases ea : ars[j]? with
      | none =>
        rw [ea] at m
        exact absurd m List.not_mem_nil
      | some a =>
        rw [ea] at m
        cases a with
        | ex f => exact absurd m List.not_mem_nil
        | sl i =>
          obtain ⟨_, h2, h3⟩ := P.new i p m
          exact ⟨cut_in ⟨i, slots_mem.mpr ⟨j, ea⟩, m⟩, h2, h3⟩
    · cases ea : ars[j]? with
      | none =>
        rw [ea] at m1
        exact absurd m1 List.not_mem_nil
      | some a =>
        cases eb : ars[k]? with
        | none =>
          rw [eb] at m2
          exact absurd m2 List.not_mem_nil
        | some b =>
          rw [ea] at m1
          rw [eb] at m2
          cases a with
          | ex f => exact absurd m1 List.not_mem_nil
          | sl i =>
            cases b with
            | ex f => exact absurd m2 List.not_mem_nil
            | sl i' =>
              have := P.sep i i' p m1 m2
              subst this
              exact slots_inj nd ea eb
theorem hand_out {B' H' : Hp} {ρ' : Nat → List Addr} {ss' : List Sl} (e : EnvS G B0 H0 B H σ δ) (P : PrvS G B H0 H σ δ ρ) (hv : VlOk G σ δ ars ss vs) (nd : (slotsOf ars).Nodup) (st : Stp B (cutM H ρ ars) B' H') (fin : Fin G B' (cutM H ρ ars) H' ρ' ss') (rt : ss'.map Sl.root = ss.map Sl.root) :
    EnvS G B0 H0 B' H' σ (setsM δ ars ss') := by
  have h0n : ∀ b o, H0 b = some o → ¬ fpM ρ ars b := fun b o q ⟨i, _, m⟩ => by
    have := (P.new i b m).1
    rw [q] at this
    cases this
  have ext : ∀ c φ, H c = some (.ext φ) → cutM H ρ ars c = some (.ext φ) := fun c φ q => by
    refine (cut_out fun ⟨i, _, m⟩ => ?_).trans q
    obtain ⟨_, _, o, ho, no⟩ := P.new i c m
    rw [q] at ho
    cases ho
    cases no
  have s0 : Same H0 (cutM H ρ ars) := fun b o q => (e.h0 b o q).out ext (cut_out (h0n b o q))
  have free : ∀ a, cutM H ρ ars a = none → H0 a = none := fun a q => by
    by_cases c : fpM ρ ars a
    · obtain ⟨i, _, m⟩ := c
      exact (P.new i a m).1
    · rw [cut_out c] at q
      exact e.h0.free q
  -- what is no part of what was handed in stays
  have stay : ∀ i p, i ∉ slotsOf ars → p ∈ ρ i → ∃ o, H p = some o ∧ Own o ∧ cutM H ρ ars p = some o ∧ H' p = some o := fun i p hi m => by
    obtain ⟨_, _, o, ho, no⟩ := P.new i p m
    have c : cutM H ρ ars p = some o := by
      rw [cut_out fun ⟨i', h1, h2⟩ => hi (by rw [P.sep i i' p m h2]; exact h1)]
      exact ho
    exact ⟨o, ho, no, c, own_at st.h c no⟩
  refine ⟨e.b0.trans st.b, fun a o q => ?_, s0.trans st.h, st.s, e.tab.mono st.b, by rw [setsM_len]; exact e.len, ?_⟩
  · rcases st.n a o q with ⟨o', z⟩ | z | ⟨φ, z⟩
    · exact e.bn a o' z
    · exact .inr (.inl (free a z))
    · exact .inr (e.h0.fre (.inr ⟨φ, (cut_some z).1⟩))
  · have pos : ∀ i, i ∈ slotsOf ars → ∃ j : Nat, ars[j]? = some (Ar.sl i) := fun i h => slots_mem.mp h
    let jo : Nat → Nat := fun i => Classical.epsilon fun j : Nat => ars[j]? = some (Ar.sl i)
    have hj : ∀ i, i ∈ slotsOf ars → ars[jo i]? = some (Ar.sl i) := fun i h => Classical.epsilon_spec (pos i h)
    refine ⟨fun i => if i ∈ slotsOf ars then ρ' (jo i) else ρ i, fun i s q => ?_, fun i p m => ?_, fun i k p m1 m2 => ?_⟩
    · by_cases c : i ∈ slotsOf ars
      · obtain ⟨s0, v, h1, h2, h3, h4, h5⟩ := hv.at (hj i c)
        have lj : jo i < ss'.length := by
          have := congrArg List.length rt
          rw [List.length_map, List.length_map] at this
          rw [this]
          exact (List.getElem?_eq_some_iff.mp h1).1
        have e1 : ss'[jo i]? = some ss'[jo i] := List.getElem?_eq_getElem lj
        have e2 := setsM_in ars ss' δ i (jo i) _ nd (hj i c) e1 (List.getElem?_eq_some_iff.mp h2).1
        rw [e2] at q
        cases q
        have er : (ss'[jo i]).root = s0.root := by
          have := congrArg (fun l : List (Option Addr) => l[jo i]?) rt
          simp only [List.getElem?_map, e1, h1, Option.map_some] at this
          exact Option.some.inj this
        obtain ⟨b, hb⟩ := Option.isSome_iff_exists.mp h3
        obtain ⟨x, z1, z2⟩ := P.ok i _ h2
        have ex := root_ok z2 hb
        rw [h5] at z1
        cases z1
        refine ⟨some v, h5, ?_⟩
        rw [if_pos c, ex]
        exact fin.ok _ _ b e1 (er.trans hb)
      · rw [setsM_out ars ss' δ i c] at q
        obtain ⟨x, z1, z2⟩ := P.ok i s q
        refine ⟨x, z1, ?_⟩
        rw [if_neg c]
        exact z2.mono st.b fun p m => by
          obtain ⟨o, h1, _, _, h2⟩ := stay i p c m
          rw [h1, h2]
    · by_cases c : i ∈ slotsOf ars
      · rw [if_pos c] at m
        obtain ⟨h1, h2, h3⟩ := fin.new _ p m
        exact ⟨free p h1, h2, h3⟩
      · rw [if_neg c] at m
        obtain ⟨h1, h2, _⟩ := P.new i p m
        obtain ⟨o, ho, no, hc, ho'⟩ := stay i p c m
        refine ⟨h1, ?_, o, ho', no⟩
        cases z : B' p with
        | none => rfl
        | some u =>
          rcases st.n p u z with ⟨o', q⟩ | q
          · rw [h2] at q
            cases q
          · exact (q.no hc no).elim
    · by_cases c1 : i ∈ slotsOf ars
      · rw [if_pos c1] at m1
        by_cases c2 : k ∈ slotsOf ars
        · rw [if_pos c2] at m2
          have := fin.sep _ _ p m1 m2
          have z1 := hj i c1
          have z2 := hj k c2
          rw [this, z2] at z1
          cases z1
          rfl
        · rw [if_neg c2] at m2
          obtain ⟨o, _, _, hc, _⟩ := stay k p c2 m2
          have := (fin.new _ p m1).1
          rw [hc] at this
          cases this
      · rw [if_neg c1] at m1
        by_cases c2 : k ∈ slotsOf ars
        · rw [if_pos c2] at m2
          obtain ⟨o, _, _, hc, _⟩ := stay i p c1 m1
          have := (fin.new _ p m2).1
          rw [hc] at this
          cases this
        · rw [if_neg c2] at m2
          exact P.sep i k p m1 m2
end
end
end DY
namespace DY
open PySem PySem.Spec PyProof.Rows L2
section
variable [NM]
/-! ### a def that changes what is handed in -/
def startM (N : List Str) (ss : List Sl) : Ev := ss ++ List.replicate (N.length - ss.length) Sl.un
abbrev FM := List Sl → Option (Except Nat D × List Sl)
def Keep (ss : List Sl) (δ : Ev) : Prop := ∀ (j : Nat) (s : Sl), ss[j]? = some s → s.root.isSome = true → δ[j]? = some s
def endM (z : Except Nat D) (ss : List Sl) : De := ⟨fun δ => z = .ok .non ∧ Keep ss δ, fun _ => False, fun _ => False, fun _ => False, fun n δ => z = .error n ∧ Keep ss δ, fun d δ => z = .ok d ∧ Keep ss δ⟩
def spM (G : Gd) (F : FM) : Sp := fun vs H Q E => ∃ (B H0 : Hp) (ss : List Sl) (z : Except Nat D) (ss' : List Sl), EnvS G B H0 B H (vs.map some) ss ∧ F ss = some (z, ss') ∧
  (∀ v d B' H' ρ, z = .ok d → Stp B H0 B' H' → Rep G B' v d → Fin G B' H0 H' ρ ss' → Q v H') ∧ (∀ n B' H' ρ, z = .error n → Stp B H0 B' H' → Fin G B' H0 H' ρ ss' → E (.ref (G.A n)) none H')
section
variable {G : Gd} {P : Program} {w : World} {K : PySem.W.Frag} {mg : Str → Option Value} {base : Heap}
theorem env_startM {B H0 H : Hp} {N : List Str} {vs : List V} {ss : List Sl} (e : EnvS G B H0 B H (vs.map some) ss) : EnvS G B H0 B H (L2.start N vs) (startM N ss) := by
  have ln : ss.length = vs.length := by have := e.len; rwa [List.length_map] at this
  obtain ⟨ρ, P⟩ := e.prv
  refine ⟨e.b0, e.bn, e.h0, e.bh, e.tab, ?_, fun j => if j < ss.length then ρ j else [], fun j s q => ?_, fun j p m => ?_, fun j k p m1 m2 => ?_⟩
  · unfold startM L2.start
    rw [List.length_append, List.length_append, List.length_map, List.length_replicate, List.length_replicate, ln]
  · unfold startM at q
    by_cases hj : j < ss.length
    · rw [List.getElem?_append_left hj] at q
      obtain ⟨x, h1, h2⟩ := P.ok j s q
      refine ⟨x, ?_, by rw [if_pos hj]; exact h2⟩
      unfold L2.start
      rw [List.getElem?_append_left (by rw [List.length_map, ← ln]; exact hj)]
      exact h1
    · rw [List.getElem?_append_right (by omega)] at q
      have hm := List.mem_of_getElem? q
      rw [List.mem_replicate] at hm
      have hl := (List.getElem?_eq_some_iff.mp q).1
      rw [List.length_replicate] at hl
      rw [hm.2]
      refine ⟨none, ?_, trivial⟩
      unfold L2.start
      rw [List.getElem?_append_right (by rw [List.length_map]; omega), List.getElem?_replicate, List.length_map, if_pos (by omega)]
  · by_cases hj : j < ss.length
    · rw [if_pos hj] at m
      exact P.new j p m
    · rw [if_neg hj] at m
      exact absurd m List.not_mem_nil
  · by_cases hj : j < ss.length
    · by_cases hk : k < ss.length
      · rw [if_pos hj] at m1
        rw [if_pos hk] at m2
        exact P.sep j k p m1 m2
      · rw [if_neg hk] at m2
        exact absurd m2 List.not_mem_nil
    · rw [if_neg hj] at m1
      exact absurd m1 List.not_mem_nil
theorem fin_of {B0 H0 B' H' : Hp} {σ' : L2.St} {δ' : Ev} {ss' : List Sl} (e : EnvS G B0 H0 B' H' σ' δ') (k : Keep ss' δ') : ∃ ρ, Fin G B' H0 H' ρ ss' := by
  obtain ⟨ρ, P⟩ := e.prv
  refine ⟨ρ, fun j s b hs hb => ?_, P.new, P.sep⟩
  obtain ⟨x, h1, h2⟩ := P.ok j s (k j s hs (by rw [hb] <;> rfl))
  have := root_ok h2 hb
  subst this
  exact h2
theorem ends_m {W : WX} {B H0 : Hp} {z : Except Nat D} {ss' : List Sl} {Q : VK} {E : XK} (hW : ∀ c d σ H, E c d H → W c d σ H)
    (hq : ∀ v d B' H' ρ, z = .ok d → Stp B H0 B' H' → Rep G B' v d → Fin G B' H0 H' ρ ss' → Q v H') (hx : ∀ n B' H' ρ, z = .error n → Stp B H0 B' H' → Fin G B' H0 H' ρ ss' → E (.ref (G.A n)) none H') :
    EndsOk G W B H0 B (endM z ss') { nx := fun _ H' => Q .non H', rt := Q } := by
  refine ⟨fun B' δ' σ' H' s e ⟨ez, k⟩ => ?_, fun _ _ _ _ _ _ z => z.elim, fun _ _ _ _ _ _ z => z.elim, fun _ _ _ _ _ _ z => z.elim, fun n B' δ' σ' H' s e ⟨ez, k⟩ => ?_, fun v d B' δ' σ' H' s e rp ⟨ez, k⟩ => ?_⟩
  · obtain ⟨ρ, f⟩ := fin_of e k
    exact hq .non .non B' H' ρ ez ⟨e.b0, e.h0, e.bh, e.bn⟩ .non f
  · obtain ⟨ρ, f⟩ := fin_of e k
    exact hW _ _ _ _ (hx n B' H' ρ ez ⟨e.b0, e.h0, e.bh, e.bn⟩ f)
  · obtain ⟨ρ, f⟩ := fin_of e k
    exact hq v d B' H' ρ ez ⟨e.b0, e.h0, e.bh, e.bn⟩ rp f
theorem fn_m {x qual : Str} {st : Stmt} {f : Addr} {fd : FuncData} {N ps : List Str} {k : Nat} {F : FM} {g : Ds} (FU : Fun K x qual st f fd) (S : FnScope N ps (defScope st)) (len : ∀ ss z, F ss = some z → ss.length = ps.length)
    (hb : ∀ (cdv : Value) (A : Around) (outer : List Env) (s : Shared) (H : Hp) (E : XK), Room k (A.deeper (envOfC qual (defScope st) s.heap.objs.size f cdv)) → PSs (cxOf (L2.CX P w) P w K mg base N qual (defScope st) f cdv A outer s H E) (defBody st) (tsD G (fun c d _ H => E c d H) g))
    (hg : ∀ ss z ss', F ss = some (z, ss') → g (endM z ss') (startM N ss)) : FnOk P w K mg base (L2.CX P w) (k + 1) f fd ps (spM G F) :=
  FU.okX S (fun vs H Q E ⟨B, H0, ss, z, ss', e, hf, _⟩ => by have := e.len; rw [List.length_map] at this; rw [← this]; exact len ss _ hf) fun cdv A outer s H vs Q E hr ⟨B, H0, ss, z, ss', e, hf, hq, hx⟩ =>
    ⟨tsD G (fun c d _ H => E c d H) g, hb cdv A outer s H E hr, B, H0, B, startM N ss, endM z ss', env_startM e, hg ss z ss' hf, ends_m (fun _ _ _ _ z => z) hq hx⟩
end
section
variable {G : Gd} {W : WX} {X : Cx}
/-! ### such a call -/
def taM (G : Gd) (ars : List Ar) : TA := fun σ H Q => ∃ (B0 H0 B : Hp) (δ : Ev) (ss : List Sl), EnvS G B0 H0 B H σ δ ∧ argsM ars δ = some ss ∧ ∀ vs H', Stp B H B H' → VlOk G σ δ ars ss vs → Q vs H'
theorem pam_nil : PA X [] (taM G []) := pa_nil.impD fun σ H Q ⟨B0, H0, B, δ, ss, e, ha, q⟩ => by
  cases ha
  exact q [] H (Stp.refl e.bh) .nil
theorem pam_sl {i : Nat} {e : Expr} {es : List Expr} {ars : List Ar} (h : PE X e (tVar i)) (hr : PA X es (taM G ars)) (hs : starEach (e :: es) X.env = (false, eval e X.env) :: starEach es X.env := by rfl) : PA X (e :: es) (taM G (.sl i :: ars)) :=
  (pa_cons h hr hs).impD fun σ H Q ⟨B0, H0, B, δ, ss, e, ha, q⟩ => by
    unfold argsM at ha
    split at ha
    · rename_i s hi
      split at ha
      · rename_i hrt
        obtain ⟨ss1, h1, rfl⟩ := Option.map_eq_some_iff.mp ha
        obtain ⟨b, hb⟩ := Option.isSome_iff_exists.mp hrt
        obtain ⟨ρ, P⟩ := e.prv
        obtain ⟨x, z1, z2⟩ := P.ok i s hi
        have := root_ok z2 hb
        subst this
        exact ⟨.ref b, z1, B0, H0, B, δ, ss1, e, h1, fun vs H' st hv => q _ H' st (.sl hi hrt z1 hv)⟩
      · cases ha
    · cases ha
theorem pam_ex {e : Expr} {es : List Expr} {f : Fx} {ars : List Ar} (h : PE X e (teD G W f)) (hr : PA X es (taM G ars)) (hs : starEach (e :: es) X.env = (false, eval e X.env) :: starEach es X.env := by rfl) : PA X (e :: es) (taM G (.ex f :: ars)) :=
  (pa_cons h hr hs).impD fun σ H Q ⟨B0, H0, B, δ, ss, e, ha, q⟩ => by
    unfold argsM at ha
    split at ha
    · rename_i d hf
      split at ha
      · rename_i hfl
        obtain ⟨ss1, h1, rfl⟩ := Option.map_eq_some_iff.mp ha
        refine run_p e hf (fun n er => by cases er) fun v d' B' H' ed st _ rp => ?_
        cases ed
        have e1 := e.stp st
        exact ⟨B0, H0, B, δ, ss1, e1, h1, fun vs H2 st2 hv => q _ H2 (st.trans st2) (.ex (fun B => Rep.any rp hfl) hv)⟩
      · cases ha
    · cases ha
def teM (G : Gd) (W : WX) (ars : List Ar) (F : FM) : TE := fun σ H Q => ∃ (B0 H0 B : Hp) (δ : Ev) (ss : List Sl) (z : Except Nat D) (ss' : List Sl), EnvS G B0 H0 B H σ δ ∧ argsM ars δ = some ss ∧ F ss = some (z, ss') ∧ ss'.map Sl.root = ss.map Sl.root ∧
  (∀ v d B' H', z = .ok d → Same B B' → EnvS G B0 H0 B' H' σ (setsM δ ars ss') → Rep G B' v d → Q v H') ∧ (∀ n B' H', z = .error n → Same B B' → EnvS G B0 H0 B' H' σ (setsM δ ars ss') → W (.ref (G.A n)) none σ H')
/-- what a call of such a def wants -/
theorem call_m {B0 H0 B H : Hp} {σ : L2.St} {δ : Ev} {ars : List Ar} {ss ss' : List Sl} {vs : List V} {F : FM} {z : Except Nat D} {Q : VK} {E : XK} (e : EnvS G B0 H0 B H σ δ) (hv : VlOk G σ δ ars ss vs) (nd : (slotsOf ars).Nodup) (hf : F ss = some (z, ss')) (rt : ss'.map Sl.root = ss.map Sl.root)
    (hq : ∀ v d B' H', z = .ok d → Same B B' → EnvS G B0 H0 B' H' σ (setsM δ ars ss') → Rep G B' v d → Q v H') (hx : ∀ n B' H', z = .error n → Same B B' → EnvS G B0 H0 B' H' σ (setsM δ ars ss') → E (.ref (G.A n)) none H') : spM G F vs H Q E := by
  obtain ⟨ρ, P⟩ := e.prv
  exact ⟨B, cutM H ρ ars, ss, z, ss', hand_in e P hv nd, hf, fun v d B' H' ρ' ez st rp fin => hq v d B' H' ez st.b (hand_out e P hv nd st fin rt) rp, fun n B' H' ρ' ez st fin => hx n B' H' ez st.b (hand_out e P hv nd st fin rt)⟩
theorem pd_callM {k : Nat} {f : Addr} {fd : FuncData} {ps : List Str} {x : Str} {e : Expr} {es : List Expr} {p pos : Pos} {F : FM} {ars : List Ar} (tk : Takes X W) (FO : FnOk X.prog X.w X.K X.mg X.base (L2.CX X.prog X.w) k f fd ps (spM G F)) (hr : Room k X.A) (hg : Gl X x) (hm : X.mg x = some (.ref f))
    (hk : PySem.W.keepIn X.K (.ref f) = true) (hb : Binds X.K fd ps []) (nd : (slotsOf ars).Nodup) (ha : PA X (e :: es) (taM G ars)) (hdb : (x == ("__debug__" : Str)) = false := by decide)
    (hs : starEach (e :: es) X.env = (false, eval e X.env) :: starEach es X.env := by rfl) (hpl : (backTo pos (starEach es X.env)).any (·.1) = false := by rfl) : PE X (.Call (.Name x p) (e :: es) [] pos) (teM G W ars F) :=
  (pe_callS (E := WE W) FO hr hg hm hk hb (fun σ => passAt tk σ) ha hdb hs hpl).impD fun σ H Q ⟨B0, H0, B, δ, ss, z, ss', e, ha, hf, rt, hq, hx⟩ =>
    ⟨B0, H0, B, δ, ss, e, ha, fun vs H' st hv => call_m (e.stp st) hv nd hf rt hq hx⟩
structure ClM (P : Program) (w : World) (K : PySem.W.Frag) (mg : Str → Option Value) (base : Heap) (G : Gd) (x : Str) (k : Nat) (F : FM) : Prop where
  ex : ∃ (f : Addr) (fd : FuncData) (ps : List Str), FnOk P w K mg base (L2.CX P w) k f fd ps (spM G F) ∧ mg x = some (.ref f) ∧ PySem.W.keepIn K (.ref f) = true ∧ Binds K fd ps []
theorem pd_clM {j k : Nat} {x : Str} {e : Expr} {es : List Expr} {p pos : Pos} {F : FM} {ars : List Ar} (C : ClM X.prog X.w X.K X.mg X.base G x j F) (tk : Takes X W) (hr : Room k X.A) (jk : j ≤ k) (hg : Gl X x) (nd : (slotsOf ars).Nodup) (ha : PA X (e :: es) (taM G ars)) (hdb : (x == ("__debug__" : Str)) = false := by decide)
    (hs : starEach (e :: es) X.env = (false, eval e X.env) :: starEach es X.env := by rfl) (hpl : (backTo pos (starEach es X.env)).any (·.1) = false := by rfl) : PE X (.Call (.Name x p) (e :: es) [] pos) (teM G W ars F) := by
  obtain ⟨f, fd, ps, FO, hm, hk, hb⟩ := C.ex
  exact pd_callM tk FO (hr.mono jk) hg hm hk hb nd ha hdb hs hpl
/-! ### such a method -/
def teMm (G : Gd) (W : WX) (i : Nat) (ars : List Ar) (F : FM) : TE := fun σ H Q => ∃ (B0 H0 B : Hp) (δ : Ev) (b : Addr) (β : Bk) (ss : List Sl) (z : Except Nat D) (ss' : List Sl), EnvS G B0 H0 B H σ δ ∧ δ[i]? = some (.bk b β) ∧ argsM ars δ = some ss ∧ F (.bk b β :: ss) = some (z, ss') ∧ ss'.map Sl.root = (Sl.bk b β :: ss).map Sl.root ∧
  (∀ v d B' H', z = .ok d → Same B B' → EnvS G B0 H0 B' H' σ (setsM δ (.sl i :: ars) ss') → Rep G B' v d → Q v H') ∧ (∀ n B' H', z = .error n → Same B B' → EnvS G B0 H0 B' H' σ (setsM δ (.sl i :: ars) ss') → W (.ref (G.A n)) none σ H')
theorem EnvS.book {B0 H0 B H : Hp} {σ : L2.St} {δ : Ev} {i : Nat} {b : Addr} {β : Bk} (e : EnvS G B0 H0 B H σ δ) (h : δ[i]? = some (.bk b β)) : ∃ dx a l ws, σ[i]? = some (some (.ref b)) ∧ BkAt G B H b dx a l ws β := by
  obtain ⟨ρ, P⟩ := e.prv
  obtain ⟨x, h1, dx, a, l, ws, _, rfl, h2, _⟩ := P.ok i _ h
  exact ⟨dx, a, l, ws, h1, h2⟩
theorem bk_look {m : Str} (h : bkN.contains m = false) {x y z : V} : ([("_numbers", x), ("_many", y), ("_done", z)] : List (Str × V)).lookup m = none := look_bk h [x, y, z]
theorem pd_methM {i j k : Nat} {m : Str} {o e : Expr} {es : List Expr} {apos pos : Pos} {pl : Sem Bool} {F : FM} {ars : List Ar} (c : Cls X.K (G.T 1001)) (M : MtOk X.prog X.w X.K X.mg X.base (G.T 1001) m j (spM G F)) (tk : Takes X W) (hr : Room k X.A) (jk : j ≤ k) (hn : bkN.contains m = false) (nd : (i :: slotsOf ars).Nodup) (ho : PE X o (tVar i)) (ha : PA X (e :: es) (taM G ars))
    (hst : starEach (e :: es) X.env = (false, eval e X.env) :: starEach es X.env := by rfl) (hpl : (backTo pos (starEach es X.env)).any (·.1) = false := by rfl)
    (ht : eval (.Call (.Attribute o m apos) (e :: es) [] pos) X.env = (do
      let ov ← eval o X.env
      standAt apos.atName
      let (f, first) ← holding [ov] (getMethod ov m pl)
      callWith pos f first (backTo pos (starEach (e :: es) X.env)) (backToKw pos (keywordEach [] X.env))) := by rfl) :
    PE X (.Call (.Attribute o m apos) (e :: es) [] pos) (teMm G W i ars F) := by
  obtain ⟨f, fd, ps, hm, FO, hb⟩ := M.ex
  refine (pe_methA (E := WE W) (pl := pl) ho c hm FO (hr.mono jk) hb (fun σ => passAt tk σ) ha hst hpl ht).impD fun σ H Q ⟨B0, H0, B, δ, b, β, ss, z, ss', e, hi, ha, hf, rt, hq, hx⟩ => ?_
  obtain ⟨dx, a, l, ws, h1, h2⟩ := e.book hi
  exact ⟨.ref b, h1, b, dx, _, rfl, h2.hb, bk_look hn, B0, H0, B, δ, ss, e, ha, fun vs H' st hv => call_m (ars := .sl i :: ars) (e.stp st) (.sl hi rfl h1 hv) nd hf rt hq hx⟩
theorem pd_methM0 {i j k : Nat} {m : Str} {o : Expr} {apos pos : Pos} {pl : Sem Bool} {F : FM} (c : Cls X.K (G.T 1001)) (M : MtOk X.prog X.w X.K X.mg X.base (G.T 1001) m j (spM G F)) (tk : Takes X W) (hr : Room k X.A) (jk : j ≤ k) (hn : bkN.contains m = false) (ho : PE X o (tVar i))
    (ht : eval (.Call (.Attribute o m apos) [] [] pos) X.env = (do
      let ov ← eval o X.env
      standAt apos.atName
      let (f, first) ← holding [ov] (getMethod ov m pl)
      callWith pos f first (backTo pos (starEach [] X.env)) (backToKw pos (keywordEach [] X.env))) := by rfl) :
    PE X (.Call (.Attribute o m apos) [] [] pos) (teMm G W i [] F) := by
  obtain ⟨f, fd, ps, hm, FO, hb⟩ := M.ex
  refine (pe_methA0 (E := WE W) (pl := pl) ho c hm FO (hr.mono jk) hb (fun σ => passAt tk σ) ht).impD fun σ H Q ⟨B0, H0, B, δ, b, β, ss, z, ss', e, hi, ha, hf, rt, hq, hx⟩ => ?_
  cases ha
  obtain ⟨dx, a, l, ws, h1, h2⟩ := e.book hi
  exact ⟨.ref b, h1, b, dx, _, rfl, h2.hb, bk_look hn, call_m (ars := [.sl i]) e (.sl hi rfl h1 .nil) (by simp [slotsOf]) hf rt hq hx⟩
/-! ### statements with such calls -/
def onM (E : De) (δ : Ev) (ars : List Ar) (z : Except Nat D × List Sl) (k : D → Ev → Prop) : Prop := match z.1 with
  | .ok d => k d (setsM δ ars z.2)
  | .error n => E.ex n (setsM δ ars z.2)
/-- the call's data -/
inductive Mc where
  | fn (ars : List Ar) (F : FM) | mt (i : Nat) (ars : List Ar) (F : FM)
def Mc.ars : Mc → List Ar
  | .fn as _ => as
  | .mt i as _ => .sl i :: as
def Mc.te (G : Gd) (W : WX) : Mc → TE
  | .fn as F => teM G W as F
  | .mt i as F => teMm G W i as F
def Mc.run (c : Mc) (δ : Ev) (z : Except Nat D × List Sl) : Prop := match c with
  | .fn as F => ∃ ss, argsM as δ = some ss ∧ F ss = some z ∧ z.2.map Sl.root = ss.map Sl.root
  | .mt i as F => ∃ b β ss, δ[i]? = some (.bk b β) ∧ argsM as δ = some ss ∧ F (.bk b β :: ss) = some z ∧ z.2.map Sl.root = (Sl.bk b β :: ss).map Sl.root
theorem mc_run {c : Mc} {B0 H0 B H : Hp} {σ : L2.St} {δ : Ev} {z : Except Nat D × List Sl} {Q : VK} (e : EnvS G B0 H0 B H σ δ) (h : c.run δ z) (hq : ∀ v d B' H', z.1 = .ok d → Same B B' → EnvS G B0 H0 B' H' σ (setsM δ c.ars z.2) → Rep G B' v d → Q v H') (hx : ∀ n B' H', z.1 = .error n → Same B B' → EnvS G B0 H0 B' H' σ (setsM δ c.ars z.2) → W (.ref (G.A n)) none σ H') : c.te G W σ H Q := by
  obtain ⟨z, ss'⟩ := z
  cases c with
  | fn as F =>
    obtain ⟨ss, h1, h2, h3⟩ := h
    exact ⟨B0, H0, B, δ, ss, z, ss', e, h1, h2, h3, hq, hx⟩
  | mt i as F =>
    obtain ⟨b, β, ss, h0, h1, h2, h3⟩ := h
    exact ⟨B0, H0, B, δ, b, β, ss, z, ss', e, h0, h1, h2, h3, hq, hx⟩
def dAsgM (i : Nat) (c : Mc) : Ds := fun E δ => ∃ z, c.run δ z ∧ onM E δ c.ars z fun d δ' => E.nx (δ'.set i (.dat d))
def dExprM (c : Mc) : Ds := fun E δ => ∃ z, c.run δ z ∧ onM E δ c.ars z fun _ δ' => E.nx δ'
def dAsgTM (is : List Nat) (c : Mc) : Ds := fun E δ => ∃ z, c.run δ z ∧ onM E δ c.ars z fun d δ' => ∃ ds, d = .tup ds ∧ ds.length = is.length ∧ E.nx (setsS δ' is ds)
theorem onM_run {c : Mc} {Dn : Ends} {E : De} {B0 H0 B H : Hp} {σ : L2.St} {δ : Ev} {z : Except Nat D × List Sl} {k : D → Ev → Prop} {Q : VK} (e : EnvS G B0 H0 B H σ δ) (o : EndsOk G W B0 H0 B E Dn) (h : c.run δ z) (q : onM E δ c.ars z k) (hq : ∀ v d B' δ' H', Same B B' → EnvS G B0 H0 B' H' σ δ' → Rep G B' v d → k d δ' → Q v H') : c.te G W σ H Q :=
  mc_run e h (fun v d B' H' ez s e' rp => by
    unfold onM at q
    rw [ez] at q
    exact hq v d B' _ H' s e' rp q) fun n B' H' ez s e' => by
    unfold onM at q
    rw [ez] at q
    exact o.ex n B' _ σ H' s e' q
theorem pd_asgM {i : Nat} {x : Str} {e : Expr} {pos' pos : Pos} {c : Mc} (hN : X.N.Nodup) (hi : X.N[i]? = some x) (hx : Loc X.env.scope x) (he : PE X e (c.te G W)) (hs : swapsWith e (some (.Name x pos')) pos.line X.env = pure false := by rfl) (hf : X.fn x = true ∨ X.env.scope.names.lookup x = some .local := by first | exact .inl rfl | exact .inr rfl) :
    PS X (.Assign [.Name x pos'] e pos) (tsD G W (dAsgM i c)) := (ps_set hN hi hx he hs hf).impD fun D σ H ⟨B0, H0, B, δ, E, e, ⟨z, h, q⟩, o⟩ =>
  onM_run e o h q fun v d B' δ' H' s e' rp k => o.nx B' _ _ H' s (e'.setDat i rp) k
theorem pd_exprM {e : Expr} {pos : Pos} {c : Mc} (he : PE X e (c.te G W)) (hs : swapsWith e none pos.line X.env = pure false := by rfl) : PS X (.Expr e pos) (tsD G W (dExprM c)) := (ps_expr he hs).impD fun D σ H ⟨B0, H0, B, δ, E, e, ⟨z, h, q⟩, o⟩ =>
  onM_run e o h q fun v d B' δ' H' s e' rp k => o.nx B' δ' σ H' s e' k
theorem pd_asgTM {tg e : Expr} {pos : Pos} {is : List Nat} {c : Mc} (hg : PG X tg (gTup X.K is.length (gNs is))) (he : PE X e (c.te G W)) (hs : swapsWithSole [tg] e pos.line X.env = pure false := by rfl) (hw : swappedStores [tg] e X.env = pure none := by rfl) (h1 : (assignEach [tg] X.env).map (·.2) = [assign tg X.env] := by rfl) :
    PS X (.Assign [tg] e pos) (tsD G W (dAsgTM is c)) := (ps_asg he hg hs hw h1).impD fun D σ H ⟨B0, H0, B, δ, E, e, ⟨z, h, q⟩, o⟩ =>
  onM_run e o h q fun v d B' δ' H' s e' rp ⟨ds, ed, hl, k⟩ => by
    subst ed
    cases rp with
    | tup h2 r2 => exact ⟨_, _, rfl, SqT.of (e'.bh _ _ h2), by rw [r2.length]; exact hl, gNs_ok _ _ _ _ _ (by rw [r2.length]; exact hl) (o.nx B' _ _ H' s (e'.sets r2) k)⟩
/-- the one or the other -/
def dOrS (g h : Ds) : Ds := fun E δ => g E δ ∨ h E δ
theorem pd_orS {st : Stmt} {g h : Ds} (a : PS X st (tsD G W g)) (b : PS X st (tsD G W h)) : PS X st (tsD G W (dOrS g h)) := by
  refine ⟨fun pins s σ H D I ⟨B0, H0, B, δ, E, e, q, o⟩ => ?_⟩
  rcases q with q | q
  · exact a.run pins s σ H D I ⟨B0, H0, B, δ, E, e, q, o⟩
  · exact b.run pins s σ H D I ⟨B0, H0, B, δ, E, e, q, o⟩
/-- return e, the slots stay -/
def dRetM (f : Fx) : Ds := fun E δ => ∃ r, getR f δ r ∧ onR r (fun d => E.rm d δ) (fun n => E.ex n δ)
theorem pd_retM {e : Expr} {pos : Pos} {f : Fx} (he : PE X e (teD G W f)) : PS X (.Return (some e) pos) (tsD G W (dRetM f)) := (ps_ret he).impD fun D σ H ⟨B0, H0, B, δ, E, e, ⟨r, g, q⟩, o⟩ => by
  refine run_e e g (fun n er H' st => ?_) fun v d B' H' ed st rp _ => ?_
  · subst er
    exact o.ex n B δ σ H' (Same.refl _) (e.stp st) q
  · exact o.rm v d B' δ σ H' st.b (e.stp st) rp (onR_val q ed)
end
end
end DY
namespace DY
open PySem PySem.Spec PyProof.Rows L2
section
variable [NM] {G : Gd} {W : WX} {X : Cx}
/-! ### a book changes -/
theorem EnvS.rebk {B0 H0 B H H' : Hp} {σ : L2.St} {δ : Ev} {ρ : Nat → List Addr} {i : Nat} {b dx a l : Addr} {ws : List V} {β β' : Bk} (e : EnvS G B0 H0 B H σ δ) (P : PrvS G B H0 H σ δ ρ) (hi : δ[i]? = some (.bk b β)) (hH : ∀ p, p ∉ ρ i → H' p = H p) (k : BkAt G B H' b dx a l ws β') (nd : [b, dx, a, l].Nodup)
    (hn : ∀ p ∈ [b, dx, a, l], p ∈ ρ i ∨ (H0 p = none ∧ B p = none ∧ ∀ j, j ≠ i → p ∉ ρ j)) : EnvS G B0 H0 B H' σ (δ.set i (.bk b β')) := by
  obtain ⟨x, h1, dx0, a0, l0, ws0, e1, rfl, _, _⟩ := P.ok i _ hi
  have := e.put (H' := H') P i (x := some (.ref b)) (s := .bk b β') (R := [b, dx, a, l]) hH ⟨dx, a, l, ws, rfl, rfl, k, nd⟩ (fun p m => ?_) fun j hj p m => ?_
  · rw [set_none h1] at this
    exact this
  · have own : ∃ o, H' p = some o ∧ Own o := by
      simp only [List.mem_cons, List.not_mem_nil, or_false] at m
      rcases m with rfl | rfl | rfl | rfl
      · exact ⟨_, k.hb, rfl⟩
      · exact ⟨_, k.hx, rfl⟩
      · exact ⟨_, k.ha, rfl⟩
      · exact ⟨_, k.hl, rfl⟩
    rcases hn p m with h | ⟨h2, h3, _⟩
    · obtain ⟨z1, z2, _⟩ := P.new i p h
      exact ⟨z1, z2, own⟩
    · exact ⟨h2, h3, own⟩
  · rcases hn p m with h | ⟨_, _, h4⟩
    · exact fun q => hj (P.sep j i p q h)
    · exact h4 j hj
theorem nd4 {b dx a l : Addr} (h : [b, dx, a, l].Nodup) : (b ≠ dx ∧ b ≠ a ∧ b ≠ l) ∧ (dx ≠ a ∧ dx ≠ l) ∧ a ≠ l := by
  simp only [List.nodup_cons, List.mem_cons, List.not_mem_nil, or_false, not_or, not_false_eq_true, List.nodup_nil, and_true] at h
  exact ⟨⟨h.1.1, h.1.2.1, h.1.2.2⟩, ⟨h.2.1.1, h.2.1.2⟩, h.2.2⟩
theorem tfld {i : Nat} {B H : Hp} {σ : L2.St} {b : Addr} {β : Bk} {f : Str} {v : V} {Q : VK} (hK : X.K = G.K) (c : Cls X.K (G.T 1001)) (n : NoAttr X.K (G.T 1001) f) {dx a l : Addr} {ws : List V} (hσ : σ[i]? = some (some (.ref b))) (k : BkAt G B H b dx a l ws β) (hf : ([("_numbers", .ref a), ("_many", .int β.many), ("_done", .ref l)] : List (Str × V)).lookup f = some v) (q : Q v H) : tFld X.K (tVar i) f σ H Q :=
  ⟨.ref b, hσ, b, _, dx, _, v, rfl, k.hb, c, n, hf, q⟩
/-- self._numbers[k] op= e -/
def dBkAug (i : Nat) (fk : Fx) (op : Int → Int → Int) (f : Fx) : Ds := fun E δ => ∃ (b : Addr) (β : Bk) (j : Nat) (a y : Int), δ[i]? = some (.bk b β) ∧ fk (pub δ) = some (.ok (.int (j : Nat))) ∧ β.nums[j]? = some a ∧ f (pub δ) = some (.ok (.int y)) ∧ E.nx (δ.set i (.bk b { β with nums := β.nums.set j (op a y) }))
theorem pd_bkAug {i : Nat} {x k e : Expr} {fpos tpos pos : Pos} {op : Operator} {f fk : Fx} {g : Int → Int → Int} (c : Cls X.K (G.T 1001)) (n : NoAttr X.K (G.T 1001) "_numbers") (hx : PE X x (tVar i)) (hk : PE X k (teD G W fk)) (he : PE X e (teD G W f)) (ho : PIp X op (ipI g)) (hb : attributeBase x "_numbers" X.env (eval x X.env) = eval x X.env := by rfl) (hK : X.K = G.K := by rfl)
    (ha : ∀ ov iv new, augStore k ov iv new = (do holding [new, ov, iv] (setItem ov iv new); release [new, ov, iv] []; pure .next) := by intros; rfl) :
    PS X (.AugAssign (.Subscript (.Attribute x "_numbers" fpos) k tpos) op e pos) (tsD G W (dBkAug i fk g f)) := (ps_augS (pe_fld hx hb) hk get_list he ho set_list ha).impD fun Dn σ H ⟨B0, H0, B, δ, E, e, ⟨b, β, j, y, z, hi, gk, hj, gf, q⟩, o⟩ => by
  obtain ⟨dx, a, l, ws, hσ, kk⟩ := e.book hi
  refine tfld hK c n hσ kk (v := .ref a) rfl (run_p e gk (fun n er => by cases er) fun v d B' H' ed st _ rp => ?_)
  cases ed
  cases rp
  have e1 := e.stp st
  obtain ⟨dx1, a1, l1, ws1, hσ1, k1⟩ := e1.book hi
  have ha0 := own_at st.h kk.ha rfl
  have eq := (own_at st.h kk.hb rfl).symm.trans k1.hb
  cases eq
  have hj' : (β.nums.map V.int)[j]? = some (.int y) := by rw [List.getElem?_map, hj] <;> rfl
  refine ⟨a, _, (j : Int), .int y, rfl, rfl, by omega, by rw [hK]; exact SqL.of k1.ha, atI_nat hj', ?_⟩
  refine run_p e1 gf (fun n er => by cases er) fun v2 d2 B2 H2 ed2 st2 _ rp2 => ?_
  cases ed2
  cases rp2
  have e2 := e1.stp st2
  obtain ⟨ρ, P⟩ := e2.prv
  obtain ⟨x2, h2, dx2, a2, l2, ws2, er2, rfl, k2, nd2⟩ := P.ok i _ hi
  have eq := (own_at st2.h k1.hb rfl).symm.trans k2.hb
  cases eq
  refine ⟨y, z, rfl, rfl, a, (β.nums.map V.int), (j : Int), j, rfl, rfl, k2.ha, ixN_at (by rw [List.length_map]; exact (List.getElem?_eq_some_iff.mp hj).1), ?_⟩
  obtain ⟨⟨n1, n2, n3⟩, ⟨n4, n5⟩, n6⟩ := nd4 nd2
  have ma : a ∈ ρ i := by rw [er2]; simp
  refine o.nx B _ _ _ (Same.refl _) (e2.rebk P hi (fun p m => upd_ne fun w => m (w ▸ ma)) (dx := dx) (a := a) (l := l) (ws := ws2) (β' := { β with nums := β.nums.set j (g y z) }) ⟨(upd_ne n2).trans k2.hb, (upd_ne n4).trans k2.hx, ?_, (upd_ne (Ne.symm n6)).trans k2.hl, k2.hr⟩ nd2 fun p m => .inl (by rw [er2]; exact m)) q
  rw [upd_same, List.map_set]
theorem repL_snoc {B : Hp} {d : D} : ∀ {ds : List D} {vs : List V}, RepL G B vs (ds ++ [d]) → ∃ us v, vs = us ++ [v] ∧ RepL G B us ds ∧ Rep G B v d
  | [], _, .cons r .nil => ⟨[], _, rfl, .nil, r⟩
  | x :: ds, _, .cons r rl => by
    obtain ⟨us, v, h1, h2, h3⟩ := repL_snoc rl
    exact ⟨_ :: us, v, by rw [h1] <;> rfl, .cons r h2, h3⟩
/-- self._done.append(e) -/
def dBkApp (i : Nat) (f : Fx) : Ds := fun E δ => ∃ (b : Addr) (β : Bk) (p q r : Int), δ[i]? = some (.bk b β) ∧ f (vis δ) = some (.ok (.tup [.int p, .int q, .int r])) ∧ β.done.length < 90000 ∧ E.nx (δ.set i (.bk b { β with done := β.done ++ [(p, q, r)] }))
theorem dn_len (β : Bk) : β.dn.length = β.done.length := List.length_map _
theorem pd_bkApp {i : Nat} {x e : Expr} {fpos apos cpos pos : Pos} {f : Fx} (c : Cls X.K (G.T 1001)) (n : NoAttr X.K (G.T 1001) "_done") (hx : PE X x (tVar i)) (he : PE X e (teD G W f)) (hb : attributeBase x "_done" X.env (eval x X.env) = eval x X.env := by rfl) (hK : X.K = G.K := by rfl)
    (hbase : attributeBase (.Attribute x "_done" fpos) "append" X.env (eval (.Attribute x "_done" fpos) X.env) = eval (.Attribute x "_done" fpos) X.env := by rfl)
    (hfew : ((backTo cpos (starEach [e] X.env)).all (fun x => !x.1) && (backToKw cpos (keywordEach [] X.env)).all (fun x => x.1.isSome) && decide (([e] : List Expr).length + ([] : List Keyword).length + (if ([] : List Keyword).isEmpty then 0 else 1) < 30)) = true := by rfl)
    (hline : (apos.endLine == cpos.line) = true := by rfl) (hs : starEach [e] X.env = (false, eval e X.env) :: starEach [] X.env := by rfl) (hsw : swapsWith (.Call (.Attribute (.Attribute x "_done" fpos) "append" apos) [e] [] cpos) none pos.line X.env = pure false := by rfl) :
    PS X (.Expr (.Call (.Attribute (.Attribute x "_done" fpos) "append" apos) [e] [] cpos) pos) (tsD G W (dBkApp i f)) :=
  (ps_expr (pe_bm PySem.F.plainAttrs_list PySem.F.slot_list_append PySem.F.type_list_append mt_append (pe_fld hx hb) (pa_cons he pa_nil hs) hbase hfew hline hs rfl) hsw).impD fun Dn σ H ⟨B0, H0, B, δ, E, e, ⟨b, β, p, q, r, hi, g, hl, k⟩, o⟩ => by
  obtain ⟨dx, a, l, ws, hσ, kk⟩ := e.book hi
  unfold tDrop tBM
  refine tfld hK c n hσ kk (v := .ref l) rfl ?_
  refine ⟨.inl ⟨rfl, ws, SqL.of kk.hl⟩, run_e e (.inl g) (fun n er => by cases er) fun v d B' H' ed st rp _ => ?_⟩
  cases ed
  have e1 := e.stp st
  obtain ⟨ρ, P⟩ := e1.prv
  obtain ⟨x2, h2, dx2, a2, l2, ws2, er2, rfl, k2, nd2⟩ := P.ok i _ hi
  have eq := (own_at st.h kk.hb rfl).symm.trans k2.hb
  cases eq
  refine ⟨l, ws2, v, rfl, rfl, k2.hl, lt_line (by rw [k2.hr.length, dn_len]; omega), ?_⟩
  obtain ⟨⟨n1, n2, n3⟩, ⟨n4, n5⟩, n6⟩ := nd4 nd2
  have ml : l ∈ ρ i := by rw [er2]; simp
  refine o.nx B' _ _ _ st.b (e1.rebk P hi (fun p m => upd_ne fun w => m (w ▸ ml)) (β' := { β with done := β.done ++ [(p, q, r)] }) (dx := dx) (a := a) (l := l) (ws := ws2 ++ [v]) ⟨(upd_ne n3).trans k2.hb, (upd_ne n5).trans k2.hx, (upd_ne n6).trans k2.ha, upd_same, ?_⟩ nd2 fun p m => .inl (by rw [er2]; exact m)) k
  show RepL G B' (ws2 ++ [v]) ((β.done ++ [(p, q, r)]).map _)
  rw [List.map_append]
  exact k2.hr.append (.cons rp .nil)
/-- k, x, y = self._done.pop() -/
def dBkPop (i : Nat) (is : List Nat) : Ds := fun E δ => ∃ (b : Addr) (β : Bk) (ds : List (Int × Int × Int)) (p q r : Int), δ[i]? = some (.bk b β) ∧ β.done = ds ++ [(p, q, r)] ∧ is.length = 3 ∧ E.nx (setsS (δ.set i (.bk b { β with done := ds })) is [.int p, .int q, .int r])
theorem pd_bkPop {i : Nat} {x tg : Expr} {fpos apos cpos pos : Pos} {is : List Nat} (c : Cls X.K (G.T 1001)) (n : NoAttr X.K (G.T 1001) "_done") (hx : PE X x (tVar i)) (hg : PG X tg (gTup X.K is.length (gNs is))) (hb : attributeBase x "_done" X.env (eval x X.env) = eval x X.env := by rfl) (hK : X.K = G.K := by rfl)
    (hbase : attributeBase (.Attribute x "_done" fpos) "pop" X.env (eval (.Attribute x "_done" fpos) X.env) = eval (.Attribute x "_done" fpos) X.env := by rfl) (hline : (apos.endLine == cpos.line) = true := by rfl)
    (hs : swapsWithSole [tg] (.Call (.Attribute (.Attribute x "_done" fpos) "pop" apos) [] [] cpos) pos.line X.env = pure false := by rfl) (hw : swappedStores [tg] (.Call (.Attribute (.Attribute x "_done" fpos) "pop" apos) [] [] cpos) X.env = pure none := by rfl) (h1 : (assignEach [tg] X.env).map (·.2) = [assign tg X.env] := by rfl) :
    PS X (.Assign [tg] (.Call (.Attribute (.Attribute x "_done" fpos) "pop" apos) [] [] cpos) pos) (tsD G W (dBkPop i is)) :=
  (ps_asg (pe_bm0 PySem.F.plainAttrs_list PySem.F.slot_list_pop PySem.F.type_list_pop mt_pop (pe_fld hx hb) hbase hline) hg hs hw h1).impD fun Dn σ H ⟨B0, H0, B, δ, E, e, ⟨b, β, ds, p, q, r, hi, hd, hl, k⟩, o⟩ => by
  obtain ⟨ρ, P⟩ := e.prv
  obtain ⟨x2, hσ, dx, a, l, ws, er2, rfl, kk, nd2⟩ := P.ok i _ hi
  have hr := kk.hr
  have ed : β.dn = ds.map (fun p => D.tup [.int p.1, .int p.2.1, .int p.2.2]) ++ [.tup [.int p, .int q, .int r]] := by
    unfold Bk.dn
    rw [hd, List.map_append] <;> rfl
  rw [ed] at hr
  obtain ⟨us, v, rfl, r1, r2⟩ := repL_snoc hr
  unfold tAsg tBM0
  refine tfld hK c n hσ kk (v := .ref l) rfl ?_
  refine ⟨.inl ⟨rfl, _, SqL.of kk.hl⟩, l, us ++ [v], v, rfl, rfl, kk.hl, by simp, ?_⟩
  obtain ⟨⟨n1, n2, n3⟩, ⟨n4, n5⟩, n6⟩ := nd4 nd2
  have ml : l ∈ ρ i := by rw [er2]; simp
  cases r2 with
  | tup ht rt =>
    have hbt := e.bh _ _ ht
    rename_i t vs
    have tl : t ≠ l := fun w => by
      have := (P.new i l ml).2.1
      rw [← w, ht] at this
      cases this
    refine ⟨t, vs, rfl, SqT.of ((upd_ne tl).trans hbt), by rw [rt.length]; exact hl.symm, gNs_ok _ _ _ _ _ (by rw [rt.length]; exact hl.symm) ?_⟩
    have e2 := e.rebk P hi (H' := upd H l (.lst us)) (β' := { β with done := ds }) (fun p m => upd_ne fun w => m (w ▸ ml)) (dx := dx) (a := a) (l := l) (ws := us) ⟨(upd_ne n3).trans kk.hb, (upd_ne n5).trans kk.hx, (upd_ne n6).trans kk.ha, upd_same, r1⟩ nd2 fun p m => .inl (by rw [er2]; exact m)
    rw [List.dropLast_concat]
    exact o.nx B _ _ _ (Same.refl _) (e2.sets rt) k
/-- self._numbers = e -/
def dBkSet (i : Nat) (f : Fx) : Ds := fun E δ => ∃ (b : Addr) (β : Bk) (ns : List Int), δ[i]? = some (.bk b β) ∧ f (pub δ) = some (.nw (ns.map .int)) ∧ E.nx (δ.set i (.bk b { β with nums := ns }))
theorem pd_bkSet {i : Nat} {x e : Expr} {pos' pos : Pos} {f : Fx} (c : Cls X.K (G.T 1001)) (n : NoAttr X.K (G.T 1001) "_numbers") (hx : PE X x (tVar i)) (he : PE X e (teD G W f)) (hs : swapsWith e (some (.Attribute x "_numbers" pos')) pos.line X.env = pure false := by rfl) :
    PS X (.Assign [.Attribute x "_numbers" pos'] e pos) (tsD G W (dBkSet i f)) := (ps_fld hx he hs).impD fun Dn σ H ⟨B0, H0, B, δ, E, e, ⟨b, β, ns, hi, g, k⟩, o⟩ => by
  refine ⟨H, pub δ, _, Same.refl _, e.pub, g, fun v B' H' st res => ?_, fun n er => by cases er⟩
  obtain ⟨p, vs, rfl, hp, bp, h1, r1⟩ := res
  have st0 : Stp B H B H' := ⟨Same.refl _, st.h, e.bh.trans st.h, fun a o z => .inl ⟨o, z⟩⟩
  have e1 := e.stp st0
  obtain ⟨ρ0, P0⟩ := e.prv
  have e1' := e1
  obtain ⟨_, P⟩ : ∃ ρ, PrvS G B H0 H' σ δ ρ := ⟨ρ0, P0.stp st0⟩
  have P := P0.stp st0
  obtain ⟨x2, hσ, dx, a, l, ws, er2, rfl, kk, nd2⟩ := P.ok i _ hi
  have evs := r1.intsV
  subst evs
  refine ⟨.ref b, hσ, b, _, dx, _, rfl, kk.hb, c, n, (by show 3 < 1000; decide), ?_⟩
  obtain ⟨⟨n1, n2, n3⟩, ⟨n4, n5⟩, n6⟩ := nd4 nd2
  have old : ∀ j q, q ∈ ρ0 j → q ≠ p := fun j q m w => by
    obtain ⟨_, _, o', ho, _⟩ := P0.new j q m
    rw [w, hp] at ho
    cases ho
  have mb : b ∈ ρ0 i := by rw [er2]; simp
  have md : dx ∈ ρ0 i := by rw [er2]; simp
  have ml : l ∈ ρ0 i := by rw [er2]; simp
  refine o.nx B _ _ _ (Same.refl _) (e1.rebk P hi (β' := { β with nums := ns }) (H' := upd H' b (.ins (G.T 1001) dx (putF "_numbers" (.ref p) [("_numbers", .ref a), ("_many", .int β.many), ("_done", .ref l)]))) (fun q m => upd_ne fun w => m (w ▸ mb)) (dx := dx) (a := p) (l := l) (ws := ws) ⟨upd_same, (upd_ne (Ne.symm n1)).trans kk.hx, (upd_ne (Ne.symm (old i b mb))).trans h1, (upd_ne (Ne.symm n3)).trans kk.hl, kk.hr⟩ ?_ fun q m => ?_) k
  · simp only [List.nodup_cons, List.mem_cons, List.not_mem_nil, or_false, not_or, not_false_eq_true, List.nodup_nil, and_true]
    exact ⟨⟨n1, old i b mb, n3⟩, ⟨old i dx md, n5⟩, Ne.symm (old i l ml)⟩
  · simp only [List.mem_cons, List.not_mem_nil, or_false] at m
    rcases m with rfl | rfl | rfl | rfl
    · exact .inl mb
    · exact .inl md
    · exact .inr ⟨e.h0.free hp, e.bh.free hp, fun j _ m => old j _ m rfl⟩
    · exact .inl ml
/-! ### rows handed in -/
theorem EnvS.rows {B0 H0 B H : Hp} {σ : L2.St} {δ : Ev} {i : Nat} {b : Addr} {ds : List D} (e : EnvS G B0 H0 B H σ δ) (h : δ[i]? = some (.rws b ds)) : ∃ vs, σ[i]? = some (some (.ref b)) ∧ H b = some (.lst vs) ∧ RepL G B vs ds ∧ ∀ vs' ds', RepL G B vs' ds' → EnvS G B0 H0 B (upd H b (.lst vs')) σ (δ.set i (.rws b ds')) := by
  obtain ⟨ρ, P⟩ := e.prv
  obtain ⟨x, h1, vs, e1, rfl, h2, h3⟩ := P.ok i _ h
  have mb : b ∈ ρ i := by rw [e1]; exact List.mem_cons_self
  refine ⟨vs, h1, h2, h3, fun vs' ds' r' => ?_⟩
  have := e.put (H' := upd H b (.lst vs')) P i (x := some (.ref b)) (s := .rws b ds') (R := [b]) (fun p m => upd_ne fun w => m (w ▸ mb)) ⟨vs', rfl, rfl, upd_same, r'⟩ (fun q m => ?_) fun j hj q m m2 => hj (P.sep j i q m2 (by rw [e1]; exact m))
  · rw [set_none h1] at this
    exact this
  · rw [List.mem_singleton.mp m]
    obtain ⟨z1, z2, _⟩ := P.new i b mb
    exact ⟨z1, z2, _, upd_same, rfl⟩
def dRwApp (i : Nat) (f : Fx) : Ds := fun E δ => ∃ b ds r, δ[i]? = some (.rws b ds) ∧ getR f δ r ∧ onR r (fun d => ds.length < 90000 ∧ E.nx (δ.set i (.rws b (ds ++ [d])))) (fun n => E.ex n δ)
theorem pd_rwApp {i : Nat} {x e : Expr} {apos cpos pos : Pos} {f : Fx} (hx : PE X x (tVar i)) (he : PE X e (teD G W f)) (hbase : attributeBase x "append" X.env (eval x X.env) = eval x X.env := by rfl)
    (hfew : ((backTo cpos (starEach [e] X.env)).all (fun x => !x.1) && (backToKw cpos (keywordEach [] X.env)).all (fun x => x.1.isSome) && decide (([e] : List Expr).length + ([] : List Keyword).length + (if ([] : List Keyword).isEmpty then 0 else 1) < 30)) = true := by rfl)
    (hline : (apos.endLine == cpos.line) = true := by rfl) (hs : starEach [e] X.env = (false, eval e X.env) :: starEach [] X.env := by rfl) (hsw : swapsWith (.Call (.Attribute x "append" apos) [e] [] cpos) none pos.line X.env = pure false := by rfl) :
    PS X (.Expr (.Call (.Attribute x "append" apos) [e] [] cpos) pos) (tsD G W (dRwApp i f)) :=
  (ps_expr (pe_bm PySem.F.plainAttrs_list PySem.F.slot_list_append PySem.F.type_list_append mt_append hx (pa_cons he pa_nil hs) hbase hfew hline hs rfl) hsw).impD fun Dn σ H ⟨B0, H0, B, δ, E, e, ⟨b, ds, r, hi, g, q⟩, o⟩ => by
  obtain ⟨vs, h1, h2, h3, _⟩ := e.rows hi
  refine ⟨.ref b, h1, .inl ⟨rfl, vs, SqL.of h2⟩, run_e e g (fun n er H' st => ?_) fun v d B' H' ed st rp _ => ?_⟩
  · subst er
    exact o.ex n B δ σ H' (Same.refl _) (e.stp st) q
  · obtain ⟨hl, q'⟩ := onR_val q ed
    obtain ⟨vs1, _, k2, k3, k4⟩ := (e.stp st).rows hi
    exact ⟨b, vs1, v, rfl, rfl, k2, lt_line (by rw [k3.length]; omega), o.nx B' _ _ _ st.b (k4 _ _ (k3.append (.cons rp .nil))) q'⟩
def dRwPop (i : Nat) : Ds := fun E δ => ∃ b ds d, δ[i]? = some (.rws b (ds ++ [d])) ∧ E.nx (δ.set i (.rws b ds))
theorem pd_rwPop {i : Nat} {x : Expr} {apos cpos pos : Pos} (hx : PE X x (tVar i)) (hbase : attributeBase x "pop" X.env (eval x X.env) = eval x X.env := by rfl) (hline : (apos.endLine == cpos.line) = true := by rfl) (hsw : swapsWith (.Call (.Attribute x "pop" apos) [] [] cpos) none pos.line X.env = pure false := by rfl) :
    PS X (.Expr (.Call (.Attribute x "pop" apos) [] [] cpos) pos) (tsD G W (dRwPop i)) :=
  (ps_expr (pe_bm0 PySem.F.plainAttrs_list PySem.F.slot_list_pop PySem.F.type_list_pop mt_pop hx hbase hline) hsw).impD fun Dn σ H ⟨B0, H0, B, δ, E, e, ⟨b, ds, d, hi, q⟩, o⟩ => by
  obtain ⟨vs, h1, h2, h3, h4⟩ := e.rows hi
  obtain ⟨us, v, rfl, r1, r2⟩ := repL_snoc h3
  refine ⟨.ref b, h1, .inl ⟨rfl, _, SqL.of h2⟩, b, us ++ [v], v, rfl, rfl, h2, by simp, ?_⟩
  rw [List.dropLast_concat]
  exact o.nx B _ _ _ (Same.refl _) (h4 _ _ r1) q
def dRwIx (j i : Nat) (fk : Fx) : Ds := fun E δ => ∃ (b : Addr) (ds : List D) (z : Int) (d : D), δ[i]? = some (.rws b ds) ∧ fk (pub δ) = some (.ok (.int z)) ∧ atI ds z = some d ∧ E.nx (δ.set j (.dat d))
theorem pd_rwIx {j i : Nat} {y : Str} {x k : Expr} {p pos' pos : Pos} {fk : Fx} (hN : X.N.Nodup) (hj : X.N[j]? = some y) (hy : Loc X.env.scope y) (hx : PE X x (tVar i)) (hk : PE X k (teD G W fk)) (hsb : PlainIx k := by exact fun _ _ => rfl) (hs : swapsWith (.Subscript x k p) (some (.Name y pos')) pos.line X.env = pure false := by rfl) (hf : X.fn y = true ∨ X.env.scope.names.lookup y = some .local := by first | exact .inl rfl | exact .inr rfl) :
    PS X (.Assign [.Name y pos'] (.Subscript x k p) pos) (tsD G W (dRwIx j i fk)) := (ps_set hN hj hy (pe_ix ix_list hx hk hsb) hs hf).impD fun Dn σ H ⟨B0, H0, B, δ, E, e, ⟨b, ds, z, d, hi, gk, hd, q⟩, o⟩ => by
  obtain ⟨vs, h1, h2, h3, _⟩ := e.rows hi
  refine ⟨.ref b, h1, run_p e gk (fun n er => by cases er) fun v d' B' H' ed st _ rp => ?_⟩
  cases ed
  cases rp
  have e1 := e.stp st
  obtain ⟨vs1, _, k2, k3, _⟩ := e1.rows hi
  obtain ⟨u, hu, ru⟩ := repL_at k3 hd
  exact ⟨b, vs1, z, u, rfl, rfl, SqL.of k2, hu, o.nx B _ _ _ (Same.refl _) (e1.setDat j ru) q⟩
/-! ### pairs of lists, held -/
theorem hadr_app : ∀ (ts us : List Tri), hadr (ts ++ us) = hadr ts ++ hadr us
  | [], _ => rfl
  | t :: ts, us => by
    rw [List.cons_append, hadr, hadr, hadr_app ts us] <;> rfl
theorem HL.snoc {H : Hp} {t : Tri} {p : List Int × List Int} (h1 : H t.1 = some (.tup [.ref t.2.1, .ref t.2.2])) (h2 : H t.2.1 = some (.lst (p.1.map V.int))) (h3 : H t.2.2 = some (.lst (p.2.map V.int))) : ∀ {ts ps}, HL H ts ps → HL H (ts ++ [t]) (ps ++ [p])
  | _, _, .nil => .cons h1 h2 h3 .nil
  | _, _, .cons a b c r => .cons a b c (HL.snoc h1 h2 h3 r)
theorem HL.len {H : Hp} : ∀ {ts ps}, HL H ts ps → ts.length = ps.length
  | _, _, .nil => rfl
  | _, _, .cons _ _ _ r => congrArg (· + 1) r.len
theorem HL.own {H : Hp} : ∀ {ts ps}, HL H ts ps → ∀ p ∈ hadr ts, ∃ o, H p = some o ∧ Own o
  | _, _, .nil, p, m => absurd m List.not_mem_nil
  | _, _, .cons a b c r, p, m => by
    simp only [hadr, List.mem_cons] at m
    rcases m with rfl | rfl | rfl | m
    · exact ⟨_, a, rfl⟩
    · exact ⟨_, b, rfl⟩
    · exact ⟨_, c, rfl⟩
    · exact HL.own r p m
def dHldApp (i j : Nat) (f : Fx) : Ds := fun E δ => ∃ (h : Addr) (ps : List (List Int × List Int)) (u v : List Int), δ[i]? = some (.hld h ps) ∧ δ[j]? = some (.own (u.map .int)) ∧ i ≠ j ∧ f (pub δ) = some (.nw (v.map .int)) ∧ ps.length < 90000 ∧ E.nx ((δ.set j .un).set i (.hld h (ps ++ [(u, v)])))
theorem pd_hldApp {i j : Nat} {x y e : Expr} {x1} {tpos apos cpos pos : Pos} {f : Fx} (hx : PE X x (tVar i)) (hy : PE X y (tVar j)) (he : PE X e (teD G W f)) (hbase : attributeBase x "append" X.env (eval x X.env) = eval x X.env := by rfl)
    (hfew : ((backTo cpos (starEach [.Tuple [y, e] x1 tpos] X.env)).all (fun x => !x.1) && (backToKw cpos (keywordEach [] X.env)).all (fun x => x.1.isSome) && decide (([.Tuple [y, e] x1 tpos] : List Expr).length + ([] : List Keyword).length + (if ([] : List Keyword).isEmpty then 0 else 1) < 30)) = true := by rfl)
    (hline : (apos.endLine == cpos.line) = true := by rfl) (hs : starEach [.Tuple [y, e] x1 tpos] X.env = (false, eval (.Tuple [y, e] x1 tpos) X.env) :: starEach [] X.env := by rfl) (hs1 : starEach [y, e] X.env = (false, eval y X.env) :: starEach [e] X.env := by rfl) (hs2 : starEach [e] X.env = (false, eval e X.env) :: starEach [] X.env := by rfl) (hsw : swapsWith (.Call (.Attribute x "append" apos) [.Tuple [y, e] x1 tpos] [] cpos) none pos.line X.env = pure false := by rfl) :
    PS X (.Expr (.Call (.Attribute x "append" apos) [.Tuple [y, e] x1 tpos] [] cpos) pos) (tsD G W (dHldApp i j f)) :=
  (ps_expr (pe_bm PySem.F.plainAttrs_list PySem.F.slot_list_append PySem.F.type_list_append mt_append hx (pa_cons (pe_tup (pa_cons hy (pa_cons he pa_nil hs2) hs1)) pa_nil hs) hbase hfew hline hs rfl) hsw).impD fun Dn σ H ⟨B0, H0, B, δ, E, e, ⟨h, ps, u, v, hi, hj, ij, g, hl, q⟩, o⟩ => by
  obtain ⟨ρ, P⟩ := e.prv
  obtain ⟨xi, hσi, ts, ei, rfl, k1, k2, k3⟩ := P.ok i _ hi
  obtain ⟨xj, hσj, p, us, ej, rfl, k4, k5⟩ := P.ok j _ hj
  have eu := k5.intsV
  subst eu
  refine ⟨.ref h, hσi, .inl ⟨rfl, _, SqL.of k1⟩, .ref p, hσj, ?_⟩
  refine ⟨H, pub δ, _, Same.refl _, e.pub, g, fun w B' H' st res => ?_, fun n er => by cases er⟩
  obtain ⟨r, vs, rfl, hr, _, h1, r1⟩ := res
  have evs := r1.intsV
  subst evs
  refine ⟨le_line (show 2 ≤ 100000 by decide), fun t ht => ?_⟩
  have st0 : Stp B H B H' := ⟨Same.refl _, st.h, e.bh.trans st.h, fun a o z => .inl ⟨o, z⟩⟩
  have st1 := st0.trans (Stp.hid (o := .tup [.ref p, .ref r]) st0.s ht)
  have e2 := e.stp st1
  have P2 := P.stp st1
  have mh : h ∈ ρ i := by rw [ei]; exact List.mem_cons_self
  have mp : p ∈ ρ j := by rw [ej]; exact List.mem_cons_self
  have at2 : ∀ k a, a ∈ ρ k → upd H' t (.tup [.ref p, .ref r]) a = H a := fun k a m => by
    obtain ⟨_, _, o', ho, no⟩ := P.new k a m
    rw [ho]
    exact own_at st1.h ho no
  have tn : ∀ k a, a ∈ ρ k → a ≠ t := fun k a m w => by
    obtain ⟨_, _, o', ho, no⟩ := P.new k a m
    have := own_at st0.h ho no
    rw [w, ht] at this
    cases this
  have rn : ∀ k a, a ∈ ρ k → a ≠ r := fun k a m w => by
    obtain ⟨_, _, o', ho, no⟩ := P.new k a m
    rw [w, hr] at ho
    cases ho
  have rt : r ≠ t := fun w => by
    rw [w, ht] at h1
    cases h1
  -- the slot of the list handed over is empty
  have P3 := P2.put e2.len j (x := some (.ref p)) (s := .un) (R := []) (fun _ _ => rfl) trivial (fun _ m => absurd m List.not_mem_nil) fun _ _ _ m => absurd m List.not_mem_nil
  have e3 := e2.put P2 j (x := some (.ref p)) (s := .un) (R := []) (fun _ _ => rfl) trivial (fun _ m => absurd m List.not_mem_nil) fun _ _ _ m => absurd m List.not_mem_nil
  rw [set_none hσj] at P3 e3
  have hi3 : (δ.set j .un)[i]? = some (.hld h ps) := by rw [List.getElem?_set_ne (fun z => ij z.symm)]; exact hi
  refine ⟨h, ts.map (fun t => V.ref t.1), .ref t, rfl, rfl, (at2 i h mh).trans k1, lt_line (by rw [List.length_map, k2.len]; omega), ?_⟩
  have hts : ∀ a ∈ hadr ts, a ∈ ρ i := fun a m => by rw [ei]; exact List.mem_cons_of_mem _ m
  have hh : h ≠ p := fun w => ij (P.sep i j h mh (w ▸ mp))
  have HL2 : HL (upd (upd H' t (.tup [.ref p, .ref r])) h (.lst ((ts ++ [(t, p, r)]).map fun t => V.ref t.1))) (ts ++ [(t, p, r)]) (ps ++ [(u, v)]) := by
    refine HL.snoc ?_ ?_ ?_ (k2.mono fun a m => ?_)
    · rw [upd_ne (fun w => tn i h mh w.symm), upd_same]
    · rw [upd_ne (Ne.symm hh)]
      exact (at2 j p mp).trans k4
    · rw [upd_ne (fun w => rn i h mh w.symm), upd_ne rt]
      exact h1
    · rw [upd_ne fun w => ?_]
      · exact at2 i a (hts a m)
      · exact (List.nodup_cons.mp k3).1 (w ▸ m)
  have ein : hadr (ts ++ [(t, p, r)]) = hadr ts ++ [t, p, r] := hadr_app ts _
  have nd' : (h :: hadr (ts ++ [(t, p, r)])).Nodup := by
    rw [ein]
    obtain ⟨c1, c2⟩ := List.nodup_cons.mp k3
    refine List.nodup_cons.mpr ⟨fun m => ?_, List.nodup_append.mpr ⟨c2, ?_, fun a ha b hb w => ?_⟩⟩
    · rcases List.mem_append.mp m with m | m
      · exact c1 m
      · simp only [List.mem_cons, List.not_mem_nil, or_false] at m
        rcases m with m | m | m
        · exact tn i h mh m
        · exact hh m
        · exact rn i h mh m
    · simp only [List.nodup_cons, List.mem_cons, List.not_mem_nil, or_false, not_or, not_false_eq_true, List.nodup_nil, and_true]
      exact ⟨⟨fun w => tn j p mp w.symm, fun w => rt w.symm⟩, rn j p mp⟩
    · simp only [List.mem_cons, List.not_mem_nil, or_false] at hb
      rcases hb with hb | hb | hb
      · exact tn i a (hts a ha) (w.trans hb)
      · exact ij (P.sep i j a (hts a ha) (by rw [w, hb]; exact mp))
      · exact rn i a (hts a ha) (w.trans hb)
  have e4 := e3.put P3 i (H' := upd (upd H' t (.tup [.ref p, .ref r])) h (.lst ((ts ++ [(t, p, r)]).map fun t => V.ref t.1))) (x := some (.ref h)) (s := .hld h (ps ++ [(u, v)])) (R := h :: hadr (ts ++ [(t, p, r)])) (fun b m => upd_ne fun w => m (by rw [if_neg ij, w]; exact mh)) ⟨_, rfl, rfl, upd_same, HL2, nd'⟩ (fun a m => ?_) fun k hk a m m2 => ?_
  · rw [set_none hσi] at e4
    rw [List.map_append] at e4
    exact o.nx B _ _ _ (Same.refl _) e4 q
  · have own : ∃ o, upd (upd H' t (.tup [.ref p, .ref r])) h (.lst ((ts ++ [(t, p, r)]).map fun t => V.ref t.1)) a = some o ∧ Own o := by
      rcases List.mem_cons.mp m with w | w
      · rw [w]
        exact ⟨.lst _, upd_same, rfl⟩
      · exact HL2.own a w
    rw [ein] at m
    rcases List.mem_cons.mp m with w | w
    · obtain ⟨z1, z2, _⟩ := P.new i h mh
      exact ⟨w ▸ z1, w ▸ z2, own⟩
    · rcases List.mem_append.mp w with w | w
      · obtain ⟨z1, z2, _⟩ := P.new i a (hts a w)
        exact ⟨z1, z2, own⟩
      · simp only [List.mem_cons, List.not_mem_nil, or_false] at w
        rcases w with w | w | w
        · subst w
          have := st0.h.free ht
          exact ⟨e.h0.free this, e.bh.free this, own⟩
        · subst w
          obtain ⟨z1, z2, _⟩ := P.new j a mp
          exact ⟨z1, z2, own⟩
        · subst w
          exact ⟨e.h0.free hr, e.bh.free hr, own⟩
  · rw [ein] at m
    by_cases c : k = j
    · rw [if_pos c] at m2
      exact absurd m2 List.not_mem_nil
    · rw [if_neg c] at m2
      rcases List.mem_cons.mp m with w | w
      · exact hk (P.sep k i a m2 (w ▸ mh))
      · rcases List.mem_append.mp w with w | w
        · exact hk (P.sep k i a m2 (hts a w))
        · simp only [List.mem_cons, List.not_mem_nil, or_false] at w
          rcases w with w | w | w
          · exact tn k a m2 w
          · exact c (P.sep k j a m2 (w ▸ mp))
          · exact rn k a m2 w
end
end DY
namespace DY
open PySem PySem.Spec PyProof.Rows L2
section
/-! ### slots that no name of the text has -/
theorem inv_ghost {X : Cx} {pins : List (Addr × Obj)} {σ : L2.St} {H : Hp} {s : Shared} (I : Inv X pins σ H s) {v : Nat} {y : Str} {w : Option V} (hv : X.N[v]? = some y) (hn : ¬ Vis X.env.scope y) : Inv X pins (σ.set v w) H s := by
  obtain ⟨m, h1, h2⟩ := I.loc
  refine { I with loc := ⟨m, h1, fun i x u hi hs hvis => ?_⟩, len := by rw [List.length_set]; exact I.len }
  by_cases c : i = v
  · subst c
    rw [hv] at hi
    cases hi
    exact absurd hvis hn
  · rw [List.getElem?_set_ne (fun z => c z.symm)] at hs
    exact h2 i x u hi hs hvis
theorem ps_ghost {X : Cx} {st : Stmt} {t : TS} {v : Nat} {y : Str} (h : PS X st t) (hv : X.N[v]? = some y) (hn : ¬ Vis X.env.scope y) : PS X st (fun D σ H => t { D with nx := fun σ' H' => ∃ w, D.nx (σ'.set v w) H' } σ H) := by
  refine ⟨fun pins s σ H D I q => thn (h.run pins s σ H _ I q) fun r s' z => ?_⟩
  cases r with
  | next =>
    obtain ⟨σ', H', I', w, q'⟩ := z
    exact ⟨_, H', inv_ghost I' hv hn, q'⟩
  | brk => exact z
  | cont => exact z
  | ret u => exact z
end
section
variable [NM] {G : Gd} {W : WX} {X : Cx}
/-! ### a list of new things -/
structure New (G : Gd) (te : TE) (j : Nat) (i : Int) (sl : Addr → Sl) : Prop where
  run : ∀ (σ : L2.St) (B H : Hp) (Q : VK), Same B H → TabsB G B → σ[j]? = some (some (.int i)) → (∀ x R B' H', Stp B H B' H' → (∀ p ∈ R, H p = none ∧ B' p = none ∧ ∃ o, H' p = some o ∧ Own o) → SlOk G B' H' (some (.ref x)) R (sl x) → Q (.ref x) H') → te σ H Q
def newS (sl : Int → Addr → Sl) : List Int → List Addr → Ev
  | i :: is, b :: bs => sl i b :: newS sl is bs
  | _, _ => []
theorem newS_len {sl : Int → Addr → Sl} : ∀ {xs : List Int} {bs : List Addr}, bs.length ≤ xs.length → (newS sl xs bs).length = bs.length
  | [], [], _ => rfl
  | [], _ :: _, h => by simp at h
  | _ :: _, [], _ => rfl
  | _ :: xs, _ :: bs, h => by
    rw [newS, List.length_cons, List.length_cons, newS_len (by simpa using h)]
theorem newS_nil {sl : Int → Addr → Sl} (xs : List Int) : newS sl xs [] = [] := by cases xs <;> rfl
theorem newS_snoc {sl : Int → Addr → Sl} {x : Int} {b : Addr} : ∀ {xs : List Int} {bs : List Addr}, xs[bs.length]? = some x → newS sl xs (bs ++ [b]) = newS sl xs bs ++ [sl x b]
  | [], [], h => by simp at h
  | [], _ :: _, h => by simp at h
  | i :: xs, [], h => by
    simp at h
    subst h
    rw [List.nil_append, newS, newS_nil, newS_nil] <;> rfl
  | i :: xs, c :: bs, h => by
    rw [List.cons_append, newS, newS, newS_snoc (by simpa using h), List.cons_append]
theorem lcF_go {te : TE} {j : Nat} {sl : Int → Addr → Sl} {xs : List Int} {own : List Nat} (hj : j ∈ own) (hn : ∀ i ∈ xs, New G te j i (sl i)) {J : It} {σ : L2.St} {H : Hp} {Q : VK} {B Bw : Hp} (hs : Same B H) (tb : TabsB G B) (sw : Same Bw B) (wk : Wlk G Bw J (xs.map .int)) (hl : xs.length ≤ 90000) (hjl : j < σ.length)
    (hq : ∀ Dl bs ρ B' H', Stp B H B' H' → H Dl = none → B' Dl = none → H' Dl = some (.lst (bs.map V.ref)) → bs.length = xs.length → PrvS G B' H H' (bs.map fun b => some (.ref b)) (newS sl xs bs) ρ → (∀ i p, p ∈ ρ i → p ≠ Dl) → Q (.ref Dl) H') :
    ∀ Dl, H Dl = none → ∃ Wd : Nat → Nat → Hp → Prop, (∃ m, Wd 0 m (upd H Dl (.lst []))) ∧ ∀ i m H', Wd i m H' →
      (J.stop i H' ∧ Q (.ref Dl) H') ∨ (J.go i H' ∧ ∃ Nx : Hp → Prop, (∀ H'', Nx H'' → ∃ m', m' < m ∧ Wd (i + 1) m' H'') ∧ ∀ x H'', J.yld i H' x H'' → ((Tg.nm j).g G.K) x (L2.wipe σ own) H'' fun σ2 H2 => L2.wipe σ2 own = L2.wipe σ own ∧ ttD G W0 fYes σ2 H2 fun b H3 =>
        if b = true then te σ2 H3 fun y H4 => ∃ acc, H4 Dl = some (.lst acc) ∧ acc.length < sizeLine ∧ Nx (upd H4 Dl (.lst (acc ++ [y]))) else Nx H3) := by
  intro Dl hD
  have bD : B Dl = none := hs.free hD
  let Inv1 : Nat → Hp → Prop := fun i H' => ∃ (B' : Hp) (bs : List Addr) (ρ : Nat → List Addr), Same B B' ∧ Same B' H' ∧ (∀ a o, B' a = some o → (∃ o', B a = some o') ∨ Fre H a) ∧ Same H H' ∧ B' Dl = none ∧ H' Dl = some (.lst (bs.map V.ref)) ∧ bs.length = i ∧ i ≤ xs.length ∧ PrvS G B' H H' (bs.map fun b => some (.ref b)) (newS sl xs bs) ρ ∧ ∀ i p, p ∈ ρ i → p ≠ Dl
  refine ⟨fun i m H' => i + m = xs.length ∧ Inv1 i H', ⟨xs.length, by omega, B, [], fun _ => [], Same.refl _, hs.trans (same_new hD), fun a o e => .inl ⟨o, e⟩, same_new hD, bD, upd_same, rfl, Nat.zero_le _, ⟨fun i s q => ?_, fun _ _ m => absurd m List.not_mem_nil, fun _ _ _ m => absurd m List.not_mem_nil⟩, fun _ _ m => absurd m List.not_mem_nil⟩, fun i m H' hw => ?_⟩
  · have : newS sl xs [] = [] := by cases xs <;> rfl
    rw [this] at q
    simp at q
  obtain ⟨hm, B', bs, ρ, sB, sH, nB, sHH, nD, eD, lb, li, P, pD⟩ := hw
  by_cases hi : i < xs.length
  · have hx : (xs.map D.int)[i]? = some (.int xs[i]) := by rw [List.getElem?_map, List.getElem?_eq_getElem hi] <;> rfl
    obtain ⟨go, yl⟩ := (wk i H' ((sw.trans sB).trans sH)).1 _ hx
    refine .inr ⟨go, Inv1 (i + 1), fun H'' h => ⟨m - 1, by omega, by omega, h⟩, fun v H1 yy => ?_⟩
    obtain ⟨B2, st, rp⟩ := yl v H1 yy B' (sw.trans sB) sH
    cases rp
    refine tg_ok (t := .nm j) (d := .int xs[i]) (ds := [.int xs[i]]) st.s .int rfl fun ws rw1 hwl => ⟨?_, ?_⟩
    · refine (wipe_eq (by rw [setsV_len, wipe_length]) fun k hk => ?_)
      rw [setsV_ne _ _ _ _ (fun z => hk (by rw [List.mem_singleton.mp z]; exact hj)), wipe_get hk]
    · cases rw1 with
      | cons r rn =>
        cases rn
        cases r
        refine tt_w0 (ε := List.replicate (setsV (L2.wipe σ own) [j] [.int xs[i]]).length none) st.s ⟨tb.mono (sB.trans st.b), List.length_replicate, fun k d q => ?_⟩ rfl fun B3 H3 st3 => ite_tru ?_
        · have := List.mem_of_getElem? q
          rw [List.mem_replicate] at this
          cases this.2
        · refine (hn xs[i] (List.getElem_mem hi)).run _ B3 H3 _ st3.s (tb.mono ((sB.trans st.b).trans st3.b)) ?_ fun x R B4 H4 st4 hR sk => ?_
          · show ((L2.wipe σ own).set j (some (.int xs[i])))[j]? = _
            rw [List.getElem?_set_self (by rw [wipe_length]; exact hjl)]
          · have stA := (st.trans st3).trans st4
            have stB := st.trans st3
            have eD3 : H3 Dl = some (.lst (bs.map V.ref)) := own_at stB.h eD rfl
            have eD4 : H4 Dl = some (.lst (bs.map V.ref)) := own_at stA.h eD rfl
            have nD4 : B4 Dl = none := by
              cases e : B4 Dl with
              | none => rfl
              | some o =>
                rcases stA.n Dl o e with ⟨o', q⟩ | q
                · rw [nD] at q
                  cases q
                · exact (q.no eD rfl).elim
            have P4 := P.stp stA
            have RD : ∀ p ∈ R, p ≠ Dl := fun p hp z => by
              have := (hR p hp).1
              rw [z, eD3] at this
              cases this
            have lbx : xs[bs.length]? = some xs[i] := by rw [lb]; exact List.getElem?_eq_getElem hi
            have nl : (newS sl xs bs).length = bs.length := newS_len (by omega)
            have H1n : ∀ p ∈ R, H p = none := fun p hp => (sHH.trans stB.h).free (hR p hp).1
            refine ⟨bs.map V.ref, eD4, lt_line (by rw [List.length_map]; omega), B4, bs ++ [x], fun k => if k = bs.length then R else if k < bs.length then ρ k else [], (sB.trans stA.b), fun b o e => ?_, fun a o e => ?_, fun b o e => ?_, nD4, ?_, by rw [List.length_append, lb] <;> rfl, by omega, ⟨fun k s q => ?_, fun k p hp => ?_, fun k l p h1 h2 => ?_⟩, fun k p hp => ?_⟩
            · exact (st4.s b o e).chg eD4 rfl (ne_of_none e nD4)
            · rcases stA.n a o e with ⟨o', q⟩ | q
              · exact nB a o' q
              · exact .inr (sHH.fre q)
            · exact (((sHH.trans stA.h)) b o e).chg eD4 rfl (ne_of_none e hD)
            · rw [upd_same, List.map_append] <;> rfl
            · rw [newS_snoc lbx] at q
              by_cases c : k = bs.length
              · subst c
                rw [List.getElem?_append_right (by omega), nl, Nat.sub_self] at q
                cases q
                refine ⟨some (.ref x), ?_, ?_⟩
                · rw [List.map_append, List.getElem?_append_right (Nat.le_of_eq (List.length_map _)), List.length_map, Nat.sub_self] <;> rfl
                · rw [if_pos rfl]
                  exact sk.mono (Same.refl _) fun p hp => upd_ne (RD p hp)
              · have hk : k < bs.length := by
                  have := (List.getElem?_eq_some_iff.mp q).1
                  rw [List.length_append, nl, List.length_singleton] at this
                  omega
                rw [List.getElem?_append_left (by omega)] at q
                obtain ⟨y, h1, h2⟩ := P4.ok k s q
                refine ⟨y, ?_, ?_⟩
                · rw [List.map_append, List.getElem?_append_left (by rw [List.length_map]; exact hk)]
                  exact h1
                · rw [if_neg c, if_pos hk]
                  exact h2.mono (Same.refl _) fun p hp => upd_ne (pD k p hp)
            · by_cases c : k = bs.length
              · rw [if_pos c] at hp
                obtain ⟨z1, z2, o, z3, z4⟩ := hR p hp
                exact ⟨H1n p hp, z2, o, by rw [upd_ne (RD p hp)]; exact z3, z4⟩
              · rw [if_neg c] at hp
                by_cases hk : k < bs.length
                · rw [if_pos hk] at hp
                  obtain ⟨z1, z2, o, z3, z4⟩ := P4.new k p hp
                  exact ⟨z1, z2, o, by rw [upd_ne (pD k p hp)]; exact z3, z4⟩
                · rw [if_neg hk] at hp
                  exact absurd hp List.not_mem_nil
            · have old : ∀ k p, p ∈ ρ k → p ∉ R := fun k p hp hq => by
                obtain ⟨_, _, o, z3, z4⟩ := P.new k p hp
                have := own_at stB.h z3 z4
                rw [(hR p hq).1] at this
                cases this
              by_cases c : k = bs.length
              · rw [if_pos c] at h1
                by_cases d : l = bs.length
                · omega
                · rw [if_neg d] at h2
                  by_cases hl : l < bs.length
                  · rw [if_pos hl] at h2
                    exact absurd h1 (old l p h2)
                  · rw [if_neg hl] at h2
                    exact absurd h2 List.not_mem_nil
              · rw [if_neg c] at h1
                by_cases hk : k < bs.length
                · rw [if_pos hk] at h1
                  by_cases d : l = bs.length
                  · rw [if_pos d] at h2
                    exact absurd h2 (old k p h1)
                  · rw [if_neg d] at h2
                    by_cases hl : l < bs.length
                    · rw [if_pos hl] at h2
                      exact P.sep k l p h1 h2
                    · rw [if_neg hl] at h2
                      exact absurd h2 List.not_mem_nil
                · rw [if_neg hk] at h1
                  exact absurd h1 List.not_mem_nil
            · dsimp only at hp
              by_cases c : k = bs.length
              · rw [if_pos c] at hp
                exact RD p hp
              · rw [if_neg c] at hp
                by_cases hk : k < bs.length
                · rw [if_pos hk] at hp
                  exact pD k p hp
                · rw [if_neg hk] at hp
                  exact absurd hp List.not_mem_nil
  · have hi' : xs.length ≤ i := by omega
    refine .inl ⟨(wk i H' ((sw.trans sB).trans sH)).2 (by rw [List.length_map]; exact hi'), ?_⟩
    exact hq Dl bs ρ B' H' ⟨sB, sHH, sH, nB⟩ hD nD eD (by omega) P pD
end
end DY
namespace DY
open PySem PySem.Spec PyProof.Rows L2
section
variable [NM] {G : Gd} {W : WX} {X : Cx}
theorem new_puts {B0 H0 B H B' H' B2 H2 : Hp} {σ : L2.St} {δ : Ev} {Dl b0 b1 : Addr} {ρ : Nat → List Addr} {i v0 v1 : Nat} {s0 s1 : Sl} (e : EnvS G B0 H0 B H σ δ) (st : Stp B H B' H') (st2 : Stp B' H' B2 H2) (hD : H' Dl = none) (nD : B2 Dl = none) (eD : H2 Dl = some (.lst ([b0, b1].map V.ref)))
    (P : PrvS G B2 H' H2 [some (.ref b0), some (.ref b1)] [s0, s1] ρ) (pD : ∀ i p, p ∈ ρ i → p ≠ Dl) (n1 : i ≠ v0) (n2 : i ≠ v1) (n3 : v0 ≠ v1) :
    EnvS G B0 H0 B2 H2 (((σ.set i (some (.ref Dl))).set v0 (some (.ref b0))).set v1 (some (.ref b1))) (((δ.set i (.raw Dl [b0, b1])).set v0 s0).set v1 s1) := by
  obtain ⟨ρ0, P0⟩ := e.prv
  have stA := st.trans st2
  have e1 := e.stp stA
  have P1 := P0.stp stA
  have old : ∀ k p, p ∈ ρ0 k → H' p ≠ none := fun k p m z => by
    obtain ⟨_, _, o, h1, h2⟩ := P0.new k p m
    have := own_at st.h h1 h2
    rw [z] at this
    cases this
  have fr : ∀ p, H' p = none → H0 p = none := fun p z => e.h0.free (st.h.free z)
  have q1 : ∀ p ∈ [Dl], H0 p = none ∧ B2 p = none ∧ ∃ o, H2 p = some o ∧ Own o := fun p m => by
    rw [List.mem_singleton.mp m]
    exact ⟨fr _ hD, nD, _, eD, rfl⟩
  have d1 : ∀ j, j ≠ i → ∀ p ∈ [Dl], p ∉ ρ0 j := fun j _ p m q => old j p q (by rw [List.mem_singleton.mp m]; exact hD)
  have e2 := e1.put P1 i (x := some (.ref Dl)) (s := .raw Dl [b0, b1]) (R := [Dl]) (fun _ _ => rfl) ⟨rfl, rfl, eD⟩ q1 d1
  have P2 := P1.put e1.len i (x := some (.ref Dl)) (s := .raw Dl [b0, b1]) (R := [Dl]) (fun _ _ => rfl) ⟨rfl, rfl, eD⟩ q1 d1
  have nw : ∀ k p, p ∈ ρ k → H0 p = none ∧ B2 p = none ∧ ∃ o, H2 p = some o ∧ Own o := fun k p m => by
    obtain ⟨z1, z2, z3⟩ := P.new k p m
    exact ⟨fr p z1, z2, z3⟩
  have sk : ∀ k (x : Option V) (s : Sl), ([s0, s1] : Ev)[k]? = some s → ([some (V.ref b0), some (.ref b1)] : L2.St)[k]? = some x → SlOk G B2 H2 x (ρ k) s := fun k x s h1 h2 => by
    obtain ⟨y, z1, z2⟩ := P.ok k s h1
    rw [h2] at z1
    cases z1
    exact z2
  have d2 : ∀ k j p, p ∈ ρ k → p ∉ (if j = i then [Dl] else ρ0 j) := fun k j p m q => by
    by_cases c : j = i
    · rw [if_pos c] at q
      exact pD k p m (List.mem_singleton.mp q)
    · rw [if_neg c] at q
      exact old j p q (P.new k p m).1
  have e3 := e2.put P2 v0 (x := some (.ref b0)) (s := s0) (R := ρ 0) (fun _ _ => rfl) (sk 0 _ _ rfl rfl) (nw 0) fun j _ p m => d2 0 j p m
  have P3 := P2.put e2.len v0 (x := some (.ref b0)) (s := s0) (R := ρ 0) (fun _ _ => rfl) (sk 0 _ _ rfl rfl) (nw 0) fun j _ p m => d2 0 j p m
  exact e3.put P3 v1 (x := some (.ref b1)) (s := s1) (R := ρ 1) (fun _ _ => rfl) (sk 1 _ _ rfl rfl) (nw 1) fun j _ p m q => by
    by_cases c : j = v0
    · rw [if_pos c] at q
      exact absurd (P.sep 1 0 p m q) (by decide)
    · rw [if_neg c] at q
      exact d2 1 j p m q
/-- name = [a new thing for each of two] -/
def dNewL (i v0 v1 j : Nat) (fi : Ix) (P : Int → Prop) (sl : Int → Addr → Sl) : Ds := fun E δ => ∃ (x0 x1 : Int) (fr : Bool), fi (vis δ) = some (.it ([x0, x1].map .int) fr) ∧ (P x0 ∧ P x1) ∧ j < δ.length ∧ i ≠ v0 ∧ i ≠ v1 ∧ v0 ≠ v1 ∧ ∀ Dl b0 b1, E.nx (((δ.set i (.raw Dl [b0, b1])).set v0 (sl x0 b0)).set v1 (sl x1 b1))
theorem nvis {sc : Scope} {x : Str} (h : sc.names.lookup x = none) : ¬ Vis sc x := by
  rintro (z | z | z) <;> rw [h] at z <;> cases z
theorem pd_newL {i v0 v1 j : Nat} {y y0 y1 : Str} {py : Pos} {elt tg iter : Expr} {scope : Scope} {own : List (Str × Nat)} {pos spos : Pos} {fi : Ix} {te : TE} {sl : Int → Addr → Sl} (hc : X.calm = true) (hN : X.N.Nodup) (hy : X.N[i]? = some y) (hyl : X.env.scope.names.lookup y = some .local)
    (hsw : swapsWith (.ListComp elt [⟨tg, iter, [], 0⟩] scope pos) (some (.Name y py)) spos.line X.env = pure true) (hi : PI X tg iter (tiD G W fi)) (ok : BlkOk X.N X.env.scope scope own) (ho : j ∈ own.map (·.2))
    (hg : ∀ (s : Shared) (H : Hp) (C : Addr) (cl : List (Str × Addr)) (fp : List Addr), PG (X.blk s H scope (compEnvC scope cl C X.env) fp) tg (gName j))
    (he : ∀ (s : Shared) (H : Hp) (C : Addr) (cl : List (Str × Addr)) (fp : List Addr), PE (X.blk s H scope (compEnvC scope cl C X.env) fp) elt te) (h0 : X.N[v0]? = some y0) (g0 : ¬ Vis X.env.scope y0) (h1 : X.N[v1]? = some y1) (g1 : ¬ Vis X.env.scope y1) {P : Int → Prop} (hn : ∀ x, P x → New G te j x (sl x)) (hs : ∀ x, foldedSetIterable iter X.env x = pure x := by intro _; rfl) (hK : X.K = G.K := by rfl) :
    PS X (.Assign [.Name y py] (.ListComp elt [⟨tg, iter, [], 0⟩] scope pos) spos) (tsD G W (dNewL i v0 v1 j fi P sl)) :=
  (ps_ghost (ps_ghost (ps_setLc hc hN hy hyl hsw hi ok (g := (Tg.nm j).g G.K) (tt := ttD G W0 fYes) hg (fun _ _ _ _ _ => ptd_nil.ts) he hs) h0 g0) h1 g1).impD fun Dn σ H ⟨B0, H0, B, δ, E, e, ⟨x0, x1, fr, hf, ⟨p0, p1⟩, hj, n1, n2, n3, k⟩, o⟩ => by
    refine ⟨B, vis δ, _, e.bh, e.vis, hf, fun xs fr' J Bw B' H' er st sw wk _ => ?_, fun n q => by cases q⟩
    cases er
    refine lcF_go (te := te) (sl := sl) (Q := fun x H1 => ∃ w0 w1, Dn.nx (((σ.set i (some x)).set v0 w0).set v1 w1) H1) (xs := [x0, x1]) ho (fun x hx => ?_) st.s (e.tab.mono st.b) sw wk (show 2 ≤ 90000 by decide) (by rw [← e.len]; exact hj) fun Dl bs ρ B2 H2 st2 hD nD eD lb P pD => ?_
    · simp only [List.mem_cons, List.not_mem_nil, or_false] at hx
      rcases hx with rfl | rfl
      · exact hn _ p0
      · exact hn _ p1
    · match bs, lb, eD, P with
      | [b0, b1], _, eD, P =>
        exact ⟨_, _, o.nx B2 _ _ H2 (st.b.trans st2.b) (new_puts e st st2 hD nD eD P pD n1 n2 n3) (k Dl b0 b1)⟩
/-! ### a new book -/
def tMakeS (C : Addr) (sp : Sp) (E : L2.St → XK) (t : TA) : TE := fun σ H Q => t σ H fun vs H1 => ∀ x dx, H1 x = none → H1 dx = none → dx ≠ x → sp (.ref x :: vs) (upd (upd H1 dx (.own x)) x (.ins C dx [])) (fun v H2 => v = .non ∧ Q (.ref x) H2) (E σ)
theorem pe_makeS {CX : CXT} {k : Nat} {f C : Addr} {fd : FuncData} {ps : List Str} {sp : Sp} {E : L2.St → XK} {x : Str} {p pos : Pos} {e : Expr} {es : List Expr} {t : TA} (M : Mk X.K C f) (F : FnOk X.prog X.w X.K X.mg X.base CX k f fd ps sp) (hr : Room (k + 1) X.A) (hg : Gl X x) (hm : X.mg x = some (.ref C)) (hb : Binds X.K fd ps []) (hx : ∀ σ, PassesAt CX X σ (E σ))
    (ha : PA X (e :: es) t) (hdb : (x == ("__debug__" : Str)) = false := by decide) (he : starEach (e :: es) X.env = (false, eval e X.env) :: starEach es X.env := by rfl) (hpl : (backTo pos (starEach es X.env)).any (·.1) = false := by rfl) :
    PE X (.Call (.Name x p) (e :: es) [] pos) (tMakeS C sp E t) := by
  refine ⟨fun pins s σ H Q I h => ?_⟩
  refine wpAny_Call_Name_kw (ld_glob I hg hm ?_ hdb)
  refine PySem.W.callWith_K (h₀ := X.base) I.ok.mod.kin M.kp (thn (ha.run pos pins s σ H _ I h) fun us s1 ⟨vs, H1, I1, r, q⟩ => ⟨I1.kIn, ?_⟩) he hpl
  have hq := q (s1.heap.objs.size + 1) s1.heap.objs.size (I1.hok.fresh (Nat.le_succ _)) (I1.hok.fresh (Nat.le_refl _)) (Nat.ne_of_lt (Nat.lt_succ_self _))
  have I2 := Inv.made (C := C) I1
  have r2 : Vals (V.ref (s1.heap.objs.size + 1) :: vs) (Value.ref (s1.heap.objs.size + 1) :: us) := .cons rfl r
  have hl : (Value.ref (s1.heap.objs.size + 1) :: us).length = ps.length := by
    have e := r2.length
    rw [F.len _ _ _ _ hq] at e
    exact e.symm
  have b := hb _ (Value.ref (s1.heap.objs.size + 1) :: us) I2.kIn (by rw [List.append_nil]; exact hl)
  rw [List.append_nil] at b
  refine wpAny_call (make_map (f := f) I1.kIn M.makes M.init (beq_iff_eq.mp M.fn) (codeAny_mono (F.run _ X.stack _ _ ⟨Value.ref (s1.heap.objs.size + 1) :: us, []⟩ _ _ _ (E σ) (hr.make C us [])
    (I2.env0.make C us []) b r2 hq) fun r s' hq' => ?_))
  cases r with
  | error e => exact hx σ pins _ _ e s' I2 hq'
  | ok fl =>
    cases fl with
    | ret u =>
      obtain ⟨v, H', I3, rv, ev, q3⟩ := I2.after hq'
      subst ev
      exact ⟨rv, ⟨V.ref (s1.heap.objs.size + 1), H', I3, rfl, q3⟩⟩
    | next => exact False.elim hq'
    | brk => exact False.elim hq'
    | cont => exact False.elim hq'
/-- what the class's __init__ does; bad: what it refuses -/
def spI (G : Gd) (bad : D → Bool) (zs : Int → List Int) : Sp := fun vs H Q E => ∃ (x dx : Addr) (B H1 : Hp) (d : D) (v : V), vs = [.ref x, v] ∧ H = upd (upd H1 dx (.own x)) x (.ins (G.T 1001) dx []) ∧ H1 x = none ∧ H1 dx = none ∧ dx ≠ x ∧ Same B H1 ∧ TabsB G B ∧ Rep G B v d ∧
  ((bad d = true ∧ ∀ H', Same H H' → E (.ref (G.A 0)) none H') ∨ ∃ m : Int, d = .int m ∧ bad d = false ∧ ∀ p l H', [x, dx, p, l].Nodup → H1 p = none → H1 l = none → H' x = some (.ins (G.T 1001) dx [("_numbers", .ref p), ("_many", v), ("_done", .ref l)]) → H' dx = some (.own x) → H' p = some (.lst ((zs m).map V.int)) → H' l = some (.lst []) → Same H1 H' → Q .non H')
structure MkOk (P : Program) (w : World) (K : PySem.W.Frag) (mg : Str → Option Value) (base : Heap) (G : Gd) (x : Str) (k : Nat) (bad : D → Bool) (zs : Int → List Int) : Prop where
  ex : ∃ (f : Addr) (fd : FuncData) (ps : List Str), mg x = some (.ref (G.T 1001)) ∧ Mk K (G.T 1001) f ∧ FnOk P w K mg base (L2.CX P w) k f fd ps (spI G bad zs) ∧ Binds K fd ps []
def fBad (bad : D → Bool) : List D → Option R
  | [d] => if bad d = true then some (.ex 0) else none
  | _ => none
theorem pd_bad {j k : Nat} {x : Str} {e : Expr} {p pos : Pos} {f : Fx} {bad : D → Bool} {zs : Int → List Int} (M : MkOk X.prog X.w X.K X.mg X.base G x j bad zs) (tk : Takes X W) (hr : Room k X.A) (jk : j + 1 ≤ k) (hg : Gl X x) (he : PE X e (teD G W f)) (hs : starEach [e] X.env = (false, eval e X.env) :: starEach [] X.env := by rfl) (hdb : (x == ("__debug__" : Str)) = false := by decide) (hpl : (backTo pos (starEach [] X.env)).any (·.1) = false := by rfl) :
    PE X (.Call (.Name x p) [e] [] pos) (teD G W (fA (fBad bad) [f])) := by
  obtain ⟨fa, fd, ps, hm, MK, FO, hb⟩ := M.ex
  refine (pe_makeS (E := WE W) MK FO (hr.mono jk) hg hm hb (fun σ => passAt tk σ) (pda_cons he pda_nil hs) hdb hs hpl).impD fun σ H Q ⟨B, ε, z, hs, he, hf, hq, hx⟩ => ?_
  refine ta_bind hs he hf hx fun ds vs B1 H1 st rl hk x dx hx1 hdx ne => ?_
  unfold fBad at hk
  split at hk
  · rename_i d
    split at hk
    · rename_i hbad
      cases hk
      cases rl with
      | cons r rn =>
        cases rn
        refine ⟨x, dx, B1, H1, d, _, rfl, rfl, hx1, hdx, ne, st.s, he.tab.mono st.b, r, .inl ⟨hbad, fun H' s => hx 0 rfl H' (st.h.trans ?_)⟩⟩
        refine Same.trans ?_ s
        exact (same_new hdx).trans (same_new (by rw [upd_ne ne.symm]; exact hx1))
    · cases hk
  · cases hk
theorem new_book {j : Nat} {i : Int} {bad : D → Bool} {zs : Int → List Int} (hb : bad (.int i) = false) : New G (tMakeS (G.T 1001) (spI G bad zs) (WE W0) (tCons (tVar j) tNil)) j i (fun x => .bk x ⟨i, zs i, []⟩) := ⟨fun σ B H Q hs tb hσ q => by
  refine ⟨.int i, hσ, fun x dx hx hdx ne => ⟨x, dx, B, H, .int i, .int i, rfl, rfl, hx, hdx, ne, hs, tb, .int, .inr ⟨i, rfl, hb, fun p l H' nd hp hl h1 h2 h3 h4 sm => ⟨rfl, ?_⟩⟩⟩⟩
  refine q x [x, dx, p, l] B H' ⟨Same.refl _, sm, hs.trans sm, fun a o e => .inl ⟨o, e⟩⟩ (fun a m => ?_) ⟨dx, p, l, [], rfl, rfl, ⟨h1, h2, h3, h4, .nil⟩, nd⟩
  simp only [List.mem_cons, List.not_mem_nil, or_false] at m
  rcases m with rfl | rfl | rfl | rfl
  · exact ⟨hx, hs.free hx, _, h1, rfl⟩
  · exact ⟨hdx, hs.free hdx, _, h2, rfl⟩
  · exact ⟨hp, hs.free hp, _, h3, rfl⟩
  · exact ⟨hl, hs.free hl, _, h4, rfl⟩⟩
theorem new_rows {j : Nat} {i : Int} {f : Fx} {ds : Int → List D} (hf : ∀ ε : En, ε[j]? = some (some (.int i)) → f ε = some (.nw (ds i))) : New G (teD G W0 f) j i (fun x => .rws x (ds i)) := ⟨fun σ B H Q hs tb hσ q => by
  have hj := (List.getElem?_eq_some_iff.mp hσ).1
  refine ⟨B, (List.replicate σ.length none).set j (some (.int i)), _, hs, ⟨tb, by rw [List.length_set, List.length_replicate], fun k d hk => ?_⟩, hf _ (by rw [List.getElem?_set_self (by rw [List.length_replicate]; exact hj)]), fun v B' H' st res => ?_, fun n er => by cases er⟩
  · by_cases c : j = k
    · subst c
      rw [List.getElem?_set_self (by rw [List.length_replicate]; exact hj)] at hk
      cases hk
      exact ⟨_, hσ, .int⟩
    · rw [List.getElem?_set_ne c] at hk
      have := List.mem_of_getElem? hk
      rw [List.mem_replicate] at this
      cases this.2
  · obtain ⟨p, vs, rfl, hp, bp, h1, r1⟩ := res
    refine q p [p] B' H' st (fun a m => ?_) ⟨vs, rfl, rfl, h1, r1⟩
    rw [List.mem_singleton.mp m]
    exact ⟨hp, bp, _, h1, rfl⟩⟩
/-! ### an empty list that will hold pairs -/
def dHld0 (i : Nat) (g : Ds) : Ds := fun E δ => δ[i]? = some (.own []) ∧ ∀ h, g E (δ.set i (.hld h []))
theorem pd_hld0 {i : Nat} {sts : List Stmt} {g : Ds} (h : PSs X sts (tsD G W g)) : PSs X sts (tsD G W (dHld0 i g)) := h.impD fun D σ H ⟨B0, H0, B, δ, E, e, ⟨hi, q⟩, o⟩ => by
  obtain ⟨ρ, P⟩ := e.prv
  obtain ⟨x, h1, a, vs, e1, rfl, ha, r⟩ := P.ok i _ hi
  cases r
  have ma : a ∈ ρ i := by rw [e1]; exact List.mem_cons_self
  have e2 := e.put P i (x := some (.ref a)) (s := .hld a []) (R := [a]) (fun _ _ => rfl) ⟨[], rfl, rfl, ha, .nil, by simp [hadr]⟩ (fun p m => ?_) fun j hj p m m2 => hj (P.sep j i p m2 (by rw [List.mem_singleton.mp m]; exact ma))
  · rw [set_none h1] at e2
    exact ⟨B0, H0, B, _, E, e2, q a, o⟩
  · rw [List.mem_singleton.mp m]
    exact P.new i a ma
/-! ### calls with elements of a list of things -/
inductive Av where
  | sl (i : Nat) | ex (f : Fx) | ix (i : Nat) (fk : Fx)
inductive ResV (δ : Ev) : List Av → List Ar → Prop
  | nil : ResV δ [] []
  | sl {i as ars} : ResV δ as ars → ResV δ (.sl i :: as) (.sl i :: ars)
  | ex {f as ars} : ResV δ as ars → ResV δ (.ex f :: as) (.ex f :: ars)
  | ix {i fk a rs z b v s as ars} : δ[i]? = some (.raw a rs) → fk (pub δ) = some (.ok (.int ((z : Nat) : Int))) → rs[z]? = some b → δ[v]? = some s → s.root = some b → ResV δ as ars → ResV δ (.ix i fk :: as) (.sl v :: ars)
def taV (G : Gd) (as : List Av) : TA := fun σ H Q => ∃ (B0 H0 B : Hp) (δ : Ev) (ars : List Ar) (ss : List Sl), EnvS G B0 H0 B H σ δ ∧ ResV δ as ars ∧ argsM ars δ = some ss ∧ ∀ vs H', Stp B H B H' → VlOk G σ δ ars ss vs → Q vs H'
theorem pav_nil : PA X [] (taV G []) := pa_nil.impD fun σ H Q ⟨B0, H0, B, δ, ars, ss, e, hr, ha, q⟩ => by
  cases hr
  cases ha
  exact q [] H (Stp.refl e.bh) .nil
theorem args_sl {ars : List Ar} {δ : Ev} {i : Nat} {ss : List Sl} (ha : argsM (.sl i :: ars) δ = some ss) : ∃ s ss1, δ[i]? = some s ∧ s.root.isSome = true ∧ argsM ars δ = some ss1 ∧ ss = s :: ss1 := by
  unfold argsM at ha
  split at ha
  · rename_i s hi
    split at ha
    · rename_i hrt
      obtain ⟨ss1, h1, rfl⟩ := Option.map_eq_some_iff.mp ha
      exact ⟨s, ss1, hi, hrt, h1, rfl⟩
    · cases ha
  · cases ha
theorem pav_sl {i : Nat} {e : Expr} {es : List Expr} {as : List Av} (h : PE X e (tVar i)) (hr : PA X es (taV G as)) (hs : starEach (e :: es) X.env = (false, eval e X.env) :: starEach es X.env := by rfl) : PA X (e :: es) (taV G (.sl i :: as)) :=
  (pa_cons h hr hs).impD fun σ H Q ⟨B0, H0, B, δ, ars, ss, e, hr, ha, q⟩ => by
    cases hr with
    | sl hr =>
      obtain ⟨s, ss1, hi, hrt, h1, rfl⟩ := args_sl ha
      obtain ⟨b, hb⟩ := Option.isSome_iff_exists.mp hrt
      obtain ⟨ρ, P⟩ := e.prv
      obtain ⟨x, z1, z2⟩ := P.ok i s hi
      have := root_ok z2 hb
      subst this
      exact ⟨.ref b, z1, B0, H0, B, δ, _, ss1, e, hr, h1, fun vs H' st hv => q _ H' st (.sl hi hrt z1 hv)⟩
theorem pav_ex {e : Expr} {es : List Expr} {f : Fx} {as : List Av} (h : PE X e (teD G W f)) (hr : PA X es (taV G as)) (hs : starEach (e :: es) X.env = (false, eval e X.env) :: starEach es X.env := by rfl) : PA X (e :: es) (taV G (.ex f :: as)) :=
  (pa_cons h hr hs).impD fun σ H Q ⟨B0, H0, B, δ, ars, ss, e, hr, ha, q⟩ => by
    cases hr with
    | ex hr =>
      unfold argsM at ha
      split at ha
      · rename_i d hf
        split at ha
        · rename_i hfl
          obtain ⟨ss1, h1, rfl⟩ := Option.map_eq_some_iff.mp ha
          refine run_p e hf (fun n er => by cases er) fun v d' B' H' ed st _ rp => ?_
          cases ed
          have e1 := e.stp st
          have e1' := e.stp (B2 := B) (H2 := H') ⟨Same.refl _, st.h, e.bh.trans st.h, fun a o z => .inl ⟨o, z⟩⟩
          exact ⟨B0, H0, B, δ, _, ss1, e1', hr, h1, fun vs H2 st2 hv => q _ H2 ((Stp.mk (Same.refl B) st.h (e.bh.trans st.h) fun a o z => .inl ⟨o, z⟩).trans st2) (.ex (fun B => Rep.any rp hfl) hv)⟩
        · cases ha
      · cases ha
theorem pav_ix {i : Nat} {x k : Expr} {p : Pos} {es : List Expr} {fk : Fx} {as : List Av} (hx : PE X x (tVar i)) (hk : PE X k (teD G W fk)) (hr : PA X es (taV G as)) (hsb : PlainIx k := by exact fun _ _ => rfl) (hs : starEach (.Subscript x k p :: es) X.env = (false, eval (.Subscript x k p) X.env) :: starEach es X.env := by rfl) : PA X (.Subscript x k p :: es) (taV G (.ix i fk :: as)) :=
  (pa_cons (pe_ix ix_list hx hk hsb) hr hs).impD fun σ H Q ⟨B0, H0, B, δ, ars, ss, e, hr, ha, q⟩ => by
    cases hr with
    | @ix _ _ a rs z b v s _ ars1 h1 h2 h3 h4 h5 hr =>
      obtain ⟨s', ss1, hi, hrt, ha1, rfl⟩ := args_sl ha
      rw [h4] at hi
      cases hi
      obtain ⟨ρ, P⟩ := e.prv
      obtain ⟨y, z1, er, rfl, hH⟩ := P.ok i _ h1
      obtain ⟨y2, z3, z4⟩ := P.ok v s h4
      have := root_ok z4 h5
      subst this
      refine ⟨.ref a, z1, run_p e h2 (fun n er => by cases er) fun u d' B' H' ed st _ rp => ?_⟩
      cases ed
      cases rp
      have st' : Stp B H B H' := ⟨Same.refl _, st.h, e.bh.trans st.h, fun a o z => .inl ⟨o, z⟩⟩
      have hH' : H' a = some (.lst (rs.map V.ref)) := own_at st.h hH rfl
      refine ⟨a, rs.map V.ref, (z : Nat), .ref b, rfl, rfl, SqL.of hH', atI_nat (by rw [List.getElem?_map, h3]; rfl), ?_⟩
      exact ⟨B0, H0, B, δ, ars1, ss1, e.stp st', hr, ha1, fun vs H2 st2 hv => q _ H2 (st'.trans st2) (.sl h4 hrt z3 hv)⟩
def teV (G : Gd) (W : WX) (as : List Av) (F : FM) : TE := fun σ H Q => ∃ (B0 H0 B : Hp) (δ : Ev) (ars : List Ar) (ss : List Sl) (z : Except Nat D) (ss' : List Sl), EnvS G B0 H0 B H σ δ ∧ ResV δ as ars ∧ argsM ars δ = some ss ∧ (slotsOf ars).Nodup ∧ F ss = some (z, ss') ∧ ss'.map Sl.root = ss.map Sl.root ∧
  (∀ v d B' H', z = .ok d → Same B B' → EnvS G B0 H0 B' H' σ (setsM δ ars ss') → Rep G B' v d → Q v H') ∧ (∀ n B' H', z = .error n → Same B B' → EnvS G B0 H0 B' H' σ (setsM δ ars ss') → W (.ref (G.A n)) none σ H')
theorem pd_clV {j k : Nat} {x : Str} {e : Expr} {es : List Expr} {p pos : Pos} {F : FM} {as : List Av} (C : ClM X.prog X.w X.K X.mg X.base G x j F) (tk : Takes X W) (hr : Room k X.A) (jk : j ≤ k) (hg : Gl X x) (ha : PA X (e :: es) (taV G as)) (hdb : (x == ("__debug__" : Str)) = false := by decide)
    (hs : starEach (e :: es) X.env = (false, eval e X.env) :: starEach es X.env := by rfl) (hpl : (backTo pos (starEach es X.env)).any (·.1) = false := by rfl) : PE X (.Call (.Name x p) (e :: es) [] pos) (teV G W as F) := by
  obtain ⟨f, fd, ps, FO, hm, hk, hb⟩ := C.ex
  exact (pe_callS (E := WE W) FO (hr.mono jk) hg hm hk hb (fun σ => passAt tk σ) ha hdb hs hpl).impD fun σ H Q ⟨B0, H0, B, δ, ars, ss, z, ss', e, hr, ha, nd, hf, rt, hq, hx⟩ =>
    ⟨B0, H0, B, δ, ars, ss, e, hr, ha, fun vs H' st hv => call_m (e.stp st) hv nd hf rt hq hx⟩
/-- if not f(..): a -/
def dIfNV (as : List Av) (F : FM) (g : Ds) : Ds := fun E δ => ∃ ars ss b ss', ResV δ as ars ∧ argsM ars δ = some ss ∧ (slotsOf ars).Nodup ∧ F ss = some (.ok (.bl b), ss') ∧ ss'.map Sl.root = ss.map Sl.root ∧ (if b = true then E.nx (setsM δ ars ss') else g E (setsM δ ars ss'))
theorem pd_ifNV {c : Expr} {a : List Stmt} {p pos : Pos} {as : List Av} {F : FM} {g : Ds} (hc : PE X c (teV G W as F)) (ha : PSs X a (tsD G W g)) (he : ∀ whole, isTrue c X.env whole = (do let v ← whole; standAt c.pos; holding [v] (truthy v)) := by intro _; rfl) : PS X (.If (.UnaryOp .Not c p) a [] pos) (tsD G W (dIfNV as F g)) :=
  (ps_if (pt_not (pt_val hc he)) ha pd_none).impD fun D σ H ⟨B0, H0, B, δ, E, e, ⟨ars, ss, b, ss', hr, h1, nd, hf, rt, q⟩, o⟩ => by
    refine ⟨B0, H0, B, δ, ars, ss, _, ss', e, hr, h1, nd, hf, rt, fun v d B' H' ez s e' rp => ?_, fun n B' H' ez => by cases ez⟩
    cases ez
    cases rp
    refine ⟨b, rfl, ?_⟩
    cases b with
    | true => exact ite_fal ⟨B0, H0, B', _, E, e', q, o.mono s⟩
    | false => exact ite_tru ⟨B0, H0, B', _, E, e', q, o.mono s⟩
end
end DY
namespace LX
open PySem PySem.Spec PyProof.Rows L2 DY
section
variable [NM]
abbrev N_is_whole : List Str := ["thing"]
abbrev N_is_whole_below : List Str := ["thing", "end"]
abbrev N_is_table_length : List Str := ["length", "is_power_of_two"]
abbrev N_check_count : List Str := ["many"]
abbrev N_check_set : List Str := ["one", "many"]
abbrev N_check_table : List Str := ["table", "number"]
abbrev N_check_two_tables : List Str := ["one", "other"]
abbrev N_names_of : List Str := ["table"]
abbrev N_blank : List Str := ["many"]
abbrev N_lone : List Str := ["many", "one", "table"]
abbrev N_added : List Str := ["one", "other", "left", "right"]
abbrev N_multiplied : List Str := ["one", "other", "left", "right"]
abbrev N_contrary : List Str := ["table"]
abbrev N__law_cell : List Str := ["_law_script", "_law_k"]
abbrev N__law_mixed : List Str := ["_law_script", "_law_k", "_law_cell_here"]
abbrev N__law_table : List Str := ["_law_script", "_law_many", "_law_turn", "_law_found", "_law_k", "_law_cell_here", "_law_number", "_law_spot", "_law_more"]
abbrev N__law_bits : List Str := ["_law_one", "_law_found", "_law_name"]
abbrev N0__law_is_table : List Str := ["_law_found", "_law_due", "_law_number"]
local macro_rules | `(tactic| walk_at "ev") => `(tactic| simp only [fA, argsV, seqA, seqR, f1, f2, fV, fC, fNot, fAnd, fOr, fIf, fTru, oTru, D.tru, oNot, R.val, pub, vis, Sl.pub, Sl.vis, List.map_cons, List.map_nil, startS, onR,
  List.length_cons, List.length_nil, List.cons_append, List.nil_append, List.getElem?_cons_zero, List.getElem?_cons_succ, Option.map_some, Option.map_none, List.replicate, Nat.reduceSub, Nat.reduceAdd, Nat.zero_add, List.set_cons_zero, List.set_cons_succ, setsS, setsE, wipeE, Tg.ix, Tg.put])
def isExcD : D → Bool
  | .exc _ | .fn _ | .rng _ | .ins _ _ => true
  | _ => false
def isScr : D → Bool
  | .scr _ => true
  | _ => false
def isW : D → Bool
  | .int _ => true
  | _ => false
def inB (d : D) (e : Int) : Bool := match d with
  | .int i => decide (0 ≤ i) && decide (i < e)
  | _ => false
def toI : D → Int
  | .int i => i
  | _ => 0
def F_is_whole : List D → Option R
  | [d] => if isExcD d then none else some (.ok (.bl (isW d)))
  | _ => none
def F_is_whole_below : List D → Option R
  | [d, .int e] => if isExcD d then none else some (.ok (.bl (inB d e)))
  | _ => none
def F_check_set : List D → Option R
  | [d, .int m] => if isExcD d = true ∨ ¬ (0 ≤ m ∧ m ≤ 10) then none else some (if inB d (2 ^ m.toNat) then .ok .non else .ex 1)
  | _ => none
def cellI (ns : List Int) (k : Int) : Int := ((cutI ns (some k) (some (k + 1)) ++ [0]).getD 0 0) % 10 ^ 60
def mixI (ns : List Int) (k : Int) : Int :=
  let c := cellI ns (k % (if (ns.length : Int) > 1 then (ns.length : Int) else 1)) + 7919 * k * k + 104729
  c * c % 2147483647 * (48271 + 2 * k) % 998244353 / 11
def F__law_cell : List D → Option R
  | [.scr ns, .int k] => if ns.length ≤ 63 then some (.ok (.int (cellI ns k))) else none
  | _ => none
def F__law_mixed : List D → Option R
  | [.scr ns, .int k] => if ns.length ≤ 63 ∧ 0 ≤ k ∧ k ≤ 1000 then some (.ok (.int (mixI ns k))) else none
  | _ => none
def F__law_bits : List D → Option R
  | [.int i] => if 0 ≤ i ∧ i < 1024 then some (.nw ((membI i).map .int)) else none
  | _ => none
def F__law_is_table : List D → Option R
  | [.lst a, .lst b] => match toInts a, toInts b with
    | some ns, some ms => if ns.length ≤ 90000 then some (.ok (.bl (decide (ns = ms)))) else none
    | _, _ => none
  | _ => none
def capt : R → R
  | .ex n => .ok (.exc n)
  | _ => .ok .non
def tlenB (n : Int) : Bool := decide (0 < n) && decide (Builtin.bitAnd n (n - 1) = 0) && decide (n ≤ 1024)
def listD : D → List D
  | .lst ds => ds
  | _ => []
def okT : D → Bool
  | .lst ds => decide (ds.length ≤ 90000) && !ds.any isExcD
  | .exc _ => false
  | .fn _ => false
  | .rng _ => false
  | .ins _ _ => false
  | .scr _ => false
  | _ => true
def tabD : D → Bool
  | .lst ds => tlenB (ds.length : Nat) && ds.all isW
  | _ => false
def smallD (d : D) : Bool := (listD d).all fun x => decide ((toI x).natAbs < 2 ^ 499)
def chk2 (a b : D) : R := if tabD a then (if tabD b then (if (listD a).length = (listD b).length then .ok .non else .ex 6) else .ex 5) else .ex 5
def both (f : Int → Int → Int) (a b : D) : R := match chk2 a b with
  | .ok _ => .nw ((List.zipWith f ((listD a).map toI) ((listD b).map toI)).map .int)
  | x => x
def F_is_table_length : List D → Option R
  | [.int n] => some (.ok (.bl (tlenB n)))
  | _ => none
def F_check_count : List D → Option R
  | [d] => if isExcD d then none else some (if inB d 11 then .ok .non else .ex 0)
  | _ => none
def F_check_table : List D → Option R
  | [d] => if okT d then some (if tabD d then .ok .non else .ex 5) else none
  | _ => none
def F_check_two_tables : List D → Option R
  | [a, b] => if okT a && okT b then some (chk2 a b) else none
  | _ => none
def F_names_of : List D → Option R
  | [d] => if okT d then some (if tabD d then .ok (.int ((Builtin.Int.intBits ((listD d).length : Nat) : Int) - 1)) else .ex 5) else none
  | _ => none
def F_blank : List D → Option R
  | [d] => if isExcD d then none else some (if inB d 11 then .nw (List.replicate (2 ^ (toI d).toNat) (.int 0)) else .ex 0)
  | _ => none
def F_lone : List D → Option R
  | [m, d] => if isExcD m = true ∨ isExcD d = true then none else some (if inB m 11 then (if inB d (2 ^ (toI m).toNat) then .nw ((List.replicate (2 ^ (toI m).toNat) (.int 0)).set (toI d).toNat (.int 1)) else .ex 1) else .ex 0)
  | _ => none
def F_added : List D → Option R
  | [a, b] => if okT a && okT b then some (both (· + ·) a b) else none
  | _ => none
def F_multiplied : List D → Option R
  | [a, b] => if (okT a && okT b) && (smallD a && smallD b) then some (both (· * ·) a b) else none
  | _ => none
def F_contrary : List D → Option R
  | [d] => if okT d then some (if tabD d then .nw (listD d).reverse else .ex 5) else none
  | _ => none
def numT (t k c : Int) : Int := c % 10 ^ 60 * (48271 + 2 * t + k) % 10 ^ 60
def moreL (n : Int) : List Int := [n, 0 - n, n % 9, 1, 0 - n % 7]
def moreT (t k n : Int) : Int := (moreL n).getD ((n / 97 + k + t) % 5).toNat 0
def spotT (t k n p : Int) : Nat := ((n / 485 + k * (2 * t + 1)) % p).toNat
def stepT (t : Int) (L : List Int) (k c : Int) : List Int := L.set (spotT t k (numT t k c) (L.length : Nat)) (L.getD (spotT t k (numT t k c) (L.length : Nat)) 0 + moreT t k (numT t k c))
def tabI (t : Int) : List Int → Nat → List Int → List Int
  | [], _, L => L
  | c :: cs, k, L => tabI t cs (k + 1) (stepT t L (k : Nat) c)
def F__law_table : List D → Option R
  | [.scr ns, .int m, .int t] => if ns.length ≤ 63 ∧ (0 ≤ m ∧ m ≤ 8) ∧ 0 ≤ t ∧ t ≤ 20 then some (.nw ((tabI t (cutI ns none (some 400)) 0 (List.replicate (2 ^ m.toNat) 0)).map .int)) else none
  | _ => none
abbrev oddL : List D := [.bl true, .non, .str "1", .lst [.int 1], .tup [.int 1]]
def badL (ds : List D) (n : Int) : List D :=
  let w := oddL.getD (n / 32 % 5).toNat .non
  let sp := n % (ds.length : Nat)
  [.lst (repD ds 5), .lst (DY.cutD ds none (some (-1)) ++ [w]), .lst (DY.cutD ds none (some sp) ++ [w] ++ DY.cutD ds (some (sp + 1)) none), .tup ds, .non, .int 7] ++ [.str "", .emp, .lst [], .lst (List.replicate 3 (.int 0)), .lst (List.replicate 1000 (.int 0)), .lst (List.replicate 2048 (.int 0)), .lst (repD ds 3), .lst [.lst ds], .bl true]
def g_is_whole : Ds :=
  dRet (fAnd (f1 (oIsTy "int") (fV 0)) (fNot (f1 (oIsTy "bool") (fV 0))))
def g_is_whole_below : Ds :=
  dRet (fAnd (fA F_is_whole [fV 0]) (fChain oLe oLt (fC (.int 0)) (fV 0) (fV 1)))
def g_check_set : Ds :=
  dIf (fNot (fTru (fA F_is_whole_below [fV 0, f2 oShl (fC (.int 1)) (fV 1)]))) (dRaise 1) (dNext)
def g__law_cell : Ds :=
  dRet (f2 oMod (f2 oIx (f2 oAdd (fSl (fV 0) (some (fV 1)) (some (f2 oAdd (fV 1) (fC (.int 1))))) (fA oLst [fC (.int 0)])) (fC (.int 0))) (f2 oPow (fC (.int 10)) (fC (.int 60))))
def g__law_mixed : Ds :=
  dSeq (dAsg 2 (f2 oAdd (f2 oAdd (fA F__law_cell [fV 0, f2 oMod (fV 1) (fA oMax [fC (.int 1), fA oLen [fV 0]])]) (f2 oMul (f2 oMul (fC (.int 7919)) (fV 1)) (fV 1))) (fC (.int 104729)))) <|
  dRet (f2 oDiv (f2 oMod (f2 oMul (f2 oMod (f2 oMul (fV 2) (fV 2)) (fC (.int 2147483647))) (f2 oAdd (fC (.int 48271)) (f2 oMul (fC (.int 2)) (fV 1)))) (fC (.int 998244353))) (fC (.int 11)))
def g__law_bits : Ds :=
  dSeq (dOwn 1 (fA oLst [])) <|
  dSeq (dAsg 2 (fC (.int 0))) <|
  dSeq (dWhile (f2 oGt (fV 0) (fC (.int 0))) (dSeq (dIf (f2 oEq (f2 oMod (fV 0) (fC (.int 2))) (fC (.int 1))) (dApp 1 (fV 2)) (dNext)) <|
  dSeq (dAsg 0 (f2 oDiv (fV 0) (fC (.int 2)))) <|
  dAsg 2 (f2 oAdd (fV 2) (fC (.int 1))))) <|
  dRetO 1
def g__law_is_table : Ds :=
  dSeq (dIf (fOr (fNot (fTru (f1 (oIsTy "list") (fV 0)))) (f2 oNe (fV 0) (fV 1))) (dRet (fC (.bl false))) (dNext)) <|
  dRet (fA oAll [fLc (fItL (fV 0)) (.nm 2) fYes (fAnd (f1 (oIsTy "int") (fV 2)) (fNot (f1 (oIsTy "bool") (fV 2)))) [2]])
def g_is_table_length : Ds :=
  dSeq (dAsg 1 (fAnd (f2 oGt (fV 0) (fC (.int 0))) (f2 oEq (f2 oAnd (fV 0) (f2 oSub (fV 0) (fC (.int 1)))) (fC (.int 0))))) <|
  dRet (fAnd (fV 1) (f2 oLe (fV 0) (f2 oShl (fC (.int 1)) (fC (.int 10)))))
def g_check_count : Ds :=
  dIf (fNot (fTru (fA F_is_whole_below [fV 0, f2 oAdd (fC (.int 10)) (fC (.int 1))]))) (dRaise 0) (dNext)
def g_check_table : Ds :=
  dSeq (dIf (fOr (fNot (fTru (f1 (oIsTy "list") (fV 0)))) (fNot (fTru (fA F_is_table_length [fA oLen [fV 0]])))) (dRaise 5) (dNext)) <|
  dFor (fItL (fV 0)) (.nm 1) (dIf (fNot (fTru (fA F_is_whole [fV 1]))) (dRaise 5) (dNext))
def g_check_two_tables : Ds :=
  dSeq (dExpr (fA F_check_table [fV 0])) <|
  dSeq (dExpr (fA F_check_table [fV 1])) <|
  dIf (f2 oNe (fA oLen [fV 0]) (fA oLen [fV 1])) (dRaise 6) (dNext)
def g_names_of : Ds :=
  dSeq (dExpr (fA F_check_table [fV 0])) <|
  dRet (f2 oSub (f1 oBits (fA oLen [fV 0])) (fC (.int 1)))
def g_blank : Ds :=
  dSeq (dExpr (fA F_check_count [fV 0])) <|
  dRet (f2 oMul (fA oLst [fC (.int 0)]) (f2 oShl (fC (.int 1)) (fV 0)))
def g_lone : Ds :=
  dSeq (dExpr (fA F_check_count [fV 0])) <|
  dSeq (dExpr (fA F_check_set [fV 1, fV 0])) <|
  dSeq (dOwn 2 (fA F_blank [fV 0])) <|
  dSeq (dSet 2 (fV 1) (fC (.int 1))) <|
  dRetO 2
def g_added : Ds :=
  dSeq (dExpr (fA F_check_two_tables [fV 0, fV 1])) <|
  dRet (fLc (fItZ (fV 0) (fV 1)) (.tp [2, 3]) fYes (f2 oAdd (fV 2) (fV 3)) [2, 3])
def g_multiplied : Ds :=
  dSeq (dExpr (fA F_check_two_tables [fV 0, fV 1])) <|
  dRet (fLc (fItZ (fV 0) (fV 1)) (.tp [2, 3]) fYes (f2 oMul (fV 2) (fV 3)) [2, 3])
def g_contrary : Ds :=
  dSeq (dExpr (fA F_check_table [fV 0])) <|
  dRet (f1 oRev (fV 0))
def g__law_table : Ds :=
  dSeq (dOwn 3 (f2 oMul (fA oLst [fC (.int 0)]) (f2 oShl (fC (.int 1)) (fV 1)))) <|
  dSeq (dFor (fItE (fSl (fV 0) none (some (fC (.int 400))))) (.tp [4, 5]) (dSeq (dAsg 6 (f2 oMod (f2 oMul (f2 oMod (fV 5) (f2 oPow (fC (.int 10)) (fC (.int 60)))) (f2 oAdd (f2 oAdd (fC (.int 48271)) (f2 oMul (fC (.int 2)) (fV 2))) (fV 4))) (f2 oPow (fC (.int 10)) (fC (.int 60))))) <|
  dSeq (dAsg 7 (f2 oMod (f2 oAdd (f2 oDiv (fV 6) (fC (.int 485))) (f2 oMul (fV 4) (f2 oAdd (f2 oMul (fC (.int 2)) (fV 2)) (fC (.int 1))))) (fA oLen [fV 3]))) <|
  dSeq (dAsg 8 (f2 oIx (fA oLst [fV 6, f2 oSub (fC (.int 0)) (fV 6), f2 oMod (fV 6) (fC (.int 9)), fC (.int 1), f2 oSub (fC (.int 0)) (f2 oMod (fV 6) (fC (.int 7)))]) (f2 oMod (f2 oAdd (f2 oAdd (f2 oDiv (fV 6) (fC (.int 97))) (fV 4)) (fV 2)) (fC (.int 5))))) <|
  dSet 3 (fV 7) (f2 oAdd (f2 oIx (fV 3) (fV 7)) (fV 8)))) <|
  dRetO 3
theorem len_is_whole : ∀ ds r, F_is_whole ds = some r → ds.length = 1 := by
  intro ds r h
  unfold F_is_whole at h
  split at h
  · rfl
  · cases h
theorem h_is_whole : ∀ ds r, F_is_whole ds = some r → g_is_whole (endF r) (startS N_is_whole ds) := by
  intro ds r h
  unfold F_is_whole at h
  split at h
  · rename_i d
    cases d <;> cases h <;> exact ⟨_, rfl, .inl rfl⟩
  · cases h
theorem len_is_whole_below : ∀ ds r, F_is_whole_below ds = some r → ds.length = 2 := by
  intro ds r h
  unfold F_is_whole_below at h
  split at h
  · rfl
  · cases h
theorem h_is_whole_below : ∀ ds r, F_is_whole_below ds = some r → g_is_whole_below (endF r) (startS N_is_whole_below ds) := by
  intro ds r h
  unfold F_is_whole_below at h
  split at h
  · rename_i d e
    cases d <;> cases h <;> try exact ⟨_, rfl, .inl rfl⟩
    rename_i i
    refine ⟨.ok (.bl (inB (.int i) e)), ?_, .inl rfl⟩
    exact fChain_int (f := fC (.int 0)) (g := fV 0) (h := fV 1) (ε := [some (.int i), some (.int e)]) (i := 0) (j := i) (k := e) rfl rfl rfl
  · cases h
theorem len_check_set : ∀ ds r, F_check_set ds = some r → ds.length = 2 := by
  intro ds r h
  unfold F_check_set at h
  split at h
  · rfl
  · cases h
theorem h_check_set : ∀ ds r, F_check_set ds = some r → g_check_set (endF r) (startS N_check_set ds) := by
  intro ds r h
  unfold F_check_set at h
  split at h
  · rename_i d m
    split at h
    · cases h
    · rename_i hc
      cases h
      have hd : isExcD d = false := by
        cases e : isExcD d with
        | false => rfl
        | true => exact absurd (.inl e) hc
      have h0 : 0 ≤ m := by omega
      have h1 : m ≤ 1000000 := by omega
      refine ⟨.ok (.bl (!inB d (2 ^ m.toNat))), ?_, ?_⟩
      · walk_at "ev"
        rw [oShl_one h0 h1]
        simp only [F_is_whole_below, hd, seqR, oTru, D.tru, oNot, Option.map_some, R.val]
        rfl
      · cases inB d (2 ^ m.toNat) with
        | true => exact .inl rfl
        | false => exact rfl
  · cases h
theorem inB_int {d : D} {e : Int} (h : inB d e = true) : ∃ i, d = .int i ∧ 0 ≤ i ∧ i < e := by
  cases d <;> first | (cases h; done) | skip
  rename_i i
  have h : (decide (0 ≤ i) && decide (i < e)) = true := h
  rw [Bool.and_eq_true] at h
  exact ⟨i, rfl, of_decide_eq_true h.1, of_decide_eq_true h.2⟩
theorem inB_ok {i e : Int} (h : 0 ≤ i ∧ i < e) : inB (.int i) e = true := by
  show (decide (0 ≤ i) && decide (i < e)) = true
  rw [decide_eq_true h.1, decide_eq_true h.2] <;> rfl
theorem below_any (d : D) (e : Int) (h : isExcD d = false) : F_is_whole_below [d, .int e] = some (.ok (.bl (inB d e))) := if_neg (by rw [h]; decide)
theorem len__law_cell : ∀ ds r, F__law_cell ds = some r → ds.length = 2 := by
  intro ds r h
  unfold F__law_cell at h
  split at h
  · rfl
  · cases h
theorem h__law_cell : ∀ ds r, F__law_cell ds = some r → g__law_cell (endF r) (startS N__law_cell ds) := by
  intro ds r h
  unfold F__law_cell at h
  split at h
  · rename_i ns k
    split at h
    · rename_i hl
      cases h
      refine ⟨.ok (.int (cellI ns k)), ?_, .inl rfl⟩
      have hc : ((cutI ns (some k) (some (k + 1)) ++ [0]).map D.int).length ≤ 100000 := by
        have := cutI_len ns (some k) (some (k + 1))
        rw [List.length_map, List.length_append, List.length_singleton]
        omega
      refine f2_ok (f2_ok (f2_ok (fSl_ok (i := k) (j := k + 1) rfl rfl rfl rfl rfl) rfl (ry := .nw [.int 0]) rfl rfl (oCat_ok (by rw [cutD_ints, ints_ok, List.length_singleton]; have := cutI_len ns (some k) (some (k + 1)); omega))) rfl (ry := .ok (.int 0)) rfl rfl (oIx_ok (d := .int ((cutI ns (some k) (some (k + 1)) ++ [0]).getD 0 0)) (Int.le_refl _) ?_)) rfl (ry := .ok (.int (10 ^ 60))) (f2_ok (rx := .ok (.int 10)) (ry := .ok (.int 60)) rfl rfl rfl rfl (oPow_ok (by decide))) rfl (oMod_ok (by decide))
      rw [cutD_ints]
      cases cutI ns (some k) (some (k + 1)) <;> rfl
    · cases h
  · cases h
theorem cell_ge (ns : List Int) (k : Int) : 0 ≤ cellI ns k := Int.emod_nonneg _ (by decide)
theorem cell_lt (ns : List Int) (k : Int) : cellI ns k < 10 ^ 60 := Int.emod_lt_of_pos _ (by decide)
theorem len__law_mixed : ∀ ds r, F__law_mixed ds = some r → ds.length = 2 := by
  intro ds r h
  unfold F__law_mixed at h
  split at h
  · rfl
  · cases h
theorem mix_ge (ns : List Int) (k : Int) : 0 ≤ mixI ns k := Int.ediv_nonneg (Int.emod_nonneg _ (by decide)) (by decide)
theorem mix_lt (ns : List Int) (k : Int) : mixI ns k < 90749487 := by
  have := Int.emod_lt_of_pos ((cellI ns (k % (if (ns.length : Int) > 1 then (ns.length : Int) else 1)) + 7919 * k * k + 104729) * (cellI ns (k % (if (ns.length : Int) > 1 then (ns.length : Int) else 1)) + 7919 * k * k + 104729) % 2147483647 * (48271 + 2 * k)) (show (0 : Int) < 998244353 by decide)
  unfold mixI
  dsimp only
  omega
theorem h__law_mixed : ∀ ds r, F__law_mixed ds = some r → g__law_mixed (endF r) (startS N__law_mixed ds) := by
  intro ds r h
  unfold F__law_mixed at h
  split at h
  · rename_i ns k
    split at h
    · rename_i hl
      obtain ⟨h1, h2, h3⟩ := hl
      cases h
      have hm : (0 : Int) < (if (ns.length : Int) > 1 then (ns.length : Int) else 1) := by split <;> omega
      have k0 : 0 ≤ k * k := Int.mul_nonneg h2 h2
      have kk : k * k ≤ 1000 * 1000 := Int.mul_le_mul h3 h3 h2 (by decide)
      refine ⟨.ok (.int (cellI ns (k % (if (ns.length : Int) > 1 then (ns.length : Int) else 1)) + 7919 * k * k + 104729)), .inl ?_, ?_⟩
      · refine f2_ok (f2_ok (fA_2 rfl rfl (f2_ok rfl rfl (fA_2 rfl rfl (fA_1 rfl rfl rfl) rfl rfl) rfl (oMod_ok hm)) rfl (if_pos h1)) rfl (f2_ok (f2_ok rfl rfl rfl rfl (oMul_ok (mul_l (by decide) (by decide)))) rfl rfl rfl (oMul_ok (mul_r (by omega) (by omega)))) rfl rfl) rfl rfl rfl rfl
      · have c0 := cell_ge ns (k % (if (ns.length : Int) > 1 then (ns.length : Int) else 1))
        have c1 := cell_lt ns (k % (if (ns.length : Int) > 1 then (ns.length : Int) else 1))
        refine ⟨.ok (.int (mixI ns k)), ?_, .inl rfl⟩
        unfold mixI
        dsimp only
        have e : 7919 * k * k = 7919 * (k * k) := Int.mul_assoc _ _ _
        generalize hc : cellI ns (k % (if (ns.length : Int) > 1 then (ns.length : Int) else 1)) + 7919 * k * k + 104729 = c
        have b : c.natAbs < 2 ^ 220 := by omega
        refine f2_ok (f2_ok (f2_ok (f2_ok (f2_ok rfl rfl rfl rfl (oMul_ok (mul_w b b (by decide) (by decide) (by decide)))) rfl rfl rfl (oMod_ok (by decide))) rfl (f2_ok rfl rfl (f2_ok rfl rfl rfl rfl (oMul_ok (mul_l (by decide) (by decide)))) rfl rfl) rfl (oMul_ok (mul_r (by omega) (by omega)))) rfl rfl rfl (oMod_ok (by decide))) rfl rfl rfl (oDiv_ok (by decide) (by decide))
    · cases h
  · cases h
theorem len__law_bits : ∀ ds r, F__law_bits ds = some r → ds.length = 1 := by
  intro ds r h
  unfold F__law_bits at h
  split at h
  · rfl
  · cases h
theorem pow_split (i : Int) (k : Nat) : i / 2 ^ k / 2 = i / 2 ^ (k + 1) := by
  rw [Int.ediv_ediv_of_nonneg (Int.pow_nonneg (by decide)), Int.pow_succ]
theorem memb_part {i : Int} {k : Nat} (hk : k ≤ 10) (hz : i / 2 ^ k = 0) : membI i = (upI 0 k).filter fun j => i / 2 ^ j.toNat % 2 != 0 := by
  have e : upI 0 10 = upI 0 k ++ upI (k : Int) (10 - k) := by
    unfold upI
    have r : List.range 10 = List.range k ++ (List.range (10 - k)).map (k + ·) := by
      rw [← List.range_add]
      congr 1
      omega
    rw [r, List.map_append, List.map_map]
    congr 1
    exact List.map_congr_left fun j _ => by simp only [Function.comp]; omega
  unfold membI
  rw [e, List.filter_append]
  have z : (upI (k : Int) (10 - k)).filter (fun j => i / 2 ^ j.toNat % 2 != 0) = [] := by
    rw [List.filter_eq_nil_iff]
    intro j hj
    have := mem_upI.mp hj
    obtain ⟨m, e2⟩ : ∃ m, j.toNat = k + m := ⟨j.toNat - k, by omega⟩
    have : i / 2 ^ j.toNat = 0 := by
      rw [e2, Int.pow_add, ← Int.ediv_ediv_of_nonneg (Int.pow_nonneg (by decide)), hz, Int.zero_ediv]
    rw [this]
    decide
  rw [z, List.append_nil]
theorem upI_succ (k : Nat) : upI 0 (k + 1) = upI 0 k ++ [(k : Int)] := by
  unfold upI
  rw [List.range_succ, List.map_append, List.map_singleton, Int.zero_add]
theorem h__law_bits : ∀ ds r, F__law_bits ds = some r → g__law_bits (endF r) (startS N__law_bits ds) := by
  intro ds r h
  unfold F__law_bits at h
  split at h
  · rename_i i
    split at h
    · rename_i hl
      cases h
      refine ⟨.nw [], .inl rfl, .ok (.int 0), .inl rfl, fun m δ => ∃ k : Nat, k ≤ 10 ∧ m = (i / 2 ^ k).toNat ∧ δ = [.dat (.int (i / 2 ^ k)), .own (((upI 0 k).filter fun j => i / 2 ^ j.toNat % 2 != 0).map .int), .dat (.int k)], ⟨i.toNat, 0, by decide, by simp, by simp [startS, upI]⟩, fun m δ ⟨k, hk, em, ed⟩ => ?_⟩
      subst ed
      have pos : 0 ≤ i / 2 ^ k := Int.ediv_nonneg hl.1 (Int.pow_nonneg (by decide))
      by_cases hz : i / 2 ^ k = 0
      · refine ⟨false, ?_, ?_⟩
        · show some (R.ok (.bl (decide (0 < i / 2 ^ k)))) = _
          rw [hz] <;> rfl
        · exact ⟨_, rfl, .inl (by rw [memb_part hk hz])⟩
      · have hk9 : k < 10 := by
          rcases Nat.lt_or_ge k 10 with c | c
          · exact c
          · have : k = 10 := by omega
            subst this
            exact absurd (by omega : i / 2 ^ 10 = 0) hz
        refine ⟨true, ?_, ?_⟩
        · show some (R.ok (.bl (decide (0 < i / 2 ^ k)))) = _
          rw [decide_eq_true (by omega)]
        · have nxt : ∀ ds2 : List Int, ds2 = (upI 0 (k + 1)).filter (fun j => i / 2 ^ j.toNat % 2 != 0) → dSeq (dAsg 0 (f2 oDiv (fV 0) (fC (.int 2)))) (dAsg 2 (f2 oAdd (fV 2) (fC (.int 1)))) { endF (.nw ((membI i).map .int)) with nx := fun δ2 => ∃ m', m' < m ∧ ∃ k : Nat, k ≤ 10 ∧ m' = (i / 2 ^ k).toNat ∧ δ2 = [.dat (.int (i / 2 ^ k)), .own (((upI 0 k).filter fun j => i / 2 ^ j.toNat % 2 != 0).map .int), .dat (.int k)] } [.dat (.int (i / 2 ^ k)), .own (ds2.map .int), .dat (.int k)] := fun ds2 e2 => by
            refine ⟨.ok (.int (i / 2 ^ k / 2)), .inl (f2_ok rfl rfl rfl rfl (oDiv_ok (by decide) (by decide))), .ok (.int (k + 1)), .inl rfl, (i / 2 ^ (k + 1)).toNat, ?_, k + 1, by omega, rfl, ?_⟩
            · rw [em, ← pow_split]
              omega
            · rw [← pow_split, ← e2] <;> rfl
          rw [if_pos rfl]
          refine ⟨.ok (.bl (decide (i / 2 ^ k % 2 = 1))), ?_, ?_⟩
          · exact f2_ok (f2_ok rfl rfl rfl rfl (oMod_ok (by decide))) rfl rfl rfl (oEq_int _ _)
          · have es : (upI 0 (k + 1)).filter (fun j => i / 2 ^ j.toNat % 2 != 0) = (upI 0 k).filter (fun j => i / 2 ^ j.toNat % 2 != 0) ++ (if i / 2 ^ k % 2 = 1 then [(k : Int)] else []) := by
              rw [upI_succ, List.filter_append]
              congr 1
              have ek : ((k : Int)).toNat = k := Int.toNat_natCast k
              by_cases c : i / 2 ^ k % 2 = 1
              · rw [if_pos c, List.filter_cons_of_pos (by rw [ek, c]; decide)] <;> rfl
              · rw [if_neg c, List.filter_cons_of_neg (by rw [ek, show i / 2 ^ k % 2 = 0 by omega]; decide)] <;> rfl
            by_cases c : i / 2 ^ k % 2 = 1
            · rw [decide_eq_true c]
              refine ⟨_, .ok (.int k), rfl, .inl rfl, ?_, ?_⟩
              · rw [List.length_map]
                have : ((upI 0 k).filter fun j => i / 2 ^ j.toNat % 2 != 0).length ≤ (upI 0 k).length := List.length_filter_le _ _
                rw [upI_len] at this
                omega
              · have := nxt _ rfl
                rw [es, if_pos c, List.map_append] at this
                exact this
            · rw [decide_eq_false c]
              have := nxt _ rfl
              rw [es, if_neg c, List.append_nil] at this
              exact this
    · cases h
  · cases h
theorem bits_ok {i : Int} (h : 0 ≤ i ∧ i < 1024) : F__law_bits [.int i] = some (.nw ((membI i).map .int)) := if_pos h
theorem len__law_is_table : ∀ ds r, F__law_is_table ds = some r → ds.length = 2 := by
  intro ds r h
  unfold F__law_is_table at h
  split at h
  · rfl
  · cases h
theorem table_ok (ns ms : List Int) (h : ns.length ≤ 90000) : F__law_is_table [.lst (ns.map .int), .lst (ms.map .int)] = some (.ok (.bl (decide (ns = ms)))) := by
  show (match toInts (ns.map .int), toInts (ms.map .int) with | some ns, some ms => if ns.length ≤ 90000 then some (R.ok (.bl (decide (ns = ms)))) else none | _, _ => none) = _
  rw [toInts_map, toInts_map]
  exact if_pos h
theorem h0__law_is_table : ∀ ds r, F__law_is_table ds = some r → g__law_is_table (endF r) (startS N0__law_is_table ds) := by
  intro ds r h
  unfold F__law_is_table at h
  split at h
  · rename_i a b
    split at h
    · rename_i ns ms ha hb
      rw [toInts_eq ha, toInts_eq hb]
      split at h
      · rename_i hl
        cases h
        refine ⟨.ok (.bl (!decide (ns = ms))), ?_, ?_⟩
        · exact fOr_f rfl (oNe_ints ns ms)
        · by_cases c : ns = ms
          · rw [decide_eq_true c]
            refine ⟨.ok (.bl true), ?_, .inl rfl⟩
            refine fA_1 (fLc_ok (fItL_ok rfl) (by rw [ints_ok]; exact hl) (lcR_to (fun _ => true) (fun _ => .bl true) _ (fun _ _ => rfl) fun d hd _ => ?_)) rfl ?_
            · obtain ⟨n, _, rfl⟩ := List.mem_map.mp hd
              exact ⟨.ok (.bl true), rfl, rfl⟩
            · have e : ((ns.map D.int).filter fun _ => true).map (fun _ => D.bl true) = (List.replicate ns.length true).map D.bl := by
                rw [List.filter_eq_self.mpr (fun _ _ => rfl), List.map_const', ints_ok, List.map_replicate]
              rw [e]
              show (toBls ((List.replicate ns.length true).map D.bl)).map (fun ns => R.ok (.bl (ns.all id))) = _
              rw [toBls_map]
              show some (R.ok (.bl ((List.replicate ns.length true).all id))) = _
              rw [List.all_eq_true.mpr (fun x hx => (List.eq_of_mem_replicate hx) ▸ rfl)]
          · rw [decide_eq_false c]
            exact ⟨.ok (.bl false), rfl, .inl rfl⟩
      · cases h
    · cases h
  · cases h
theorem pick_call {k w : Int} {f : Fx} {h : Ds} {E : De} {δ : Ev} (h0 : fV 0 (pub δ) = some (.ok (.int w))) (hp : w = k → dExpr f E δ) (hn : w ≠ k → h E δ) : dIf (f2 oEq (fV 0) (fC (.int k))) (dExpr f) h E δ := by
  refine ⟨.ok (.bl (decide (w = k))), f2_ok h0 rfl rfl rfl (oEq_int _ _), ?_⟩
  by_cases c : w = k
  · rw [decide_eq_true c]
    exact hp c
  · rw [decide_eq_false c]
    exact hn c
theorem ix_mod {ds : List D} {n : Int} (h : 0 < ds.length) : ∃ d ∈ ds, oIx (.lst ds) (.int (n % (ds.length : Int))) = some (.ok d) := by
  have h1 : 0 ≤ n % (ds.length : Int) := Int.emod_nonneg _ (by omega)
  have h2 : n % (ds.length : Int) < ds.length := Int.emod_lt_of_pos _ (by omega)
  have hl : (n % (ds.length : Int)).toNat < ds.length := by omega
  exact ⟨ds[(n % (ds.length : Int)).toNat], List.getElem_mem hl, oIx_ok h1 (List.getElem?_eq_getElem hl)⟩
theorem cutD_len {ds : List D} {lo hi : Option Int} : (DY.cutD ds lo hi).length ≤ ds.length := by
  unfold DY.cutD
  rw [List.length_take, List.length_drop]
  omega
theorem ints_any (ns : List Int) : (ns.map D.int).any isExcD = false := by
  rw [List.any_eq_false]
  intro x hx
  obtain ⟨k, _, rfl⟩ := List.mem_map.mp hx
  exact Bool.false_ne_true
theorem fAnd_b {f g : Fx} {ε : En} {a b : Bool} (hf : f ε = some (.ok (.bl a))) (hg : g ε = some (.ok (.bl b))) : fAnd f g ε = some (.ok (.bl (a && b))) := by
  cases a with
  | true => exact fAnd_t hf (hg.trans rfl)
  | false => exact fAnd_f hf
theorem pow_cast (k : Nat) : ((2 : Int) ^ k) = ((2 ^ k : Nat) : Int) := by simp
theorem pow_le {m k : Nat} (h : m ≤ k) : 2 ^ m ≤ 2 ^ k := Nat.pow_le_pow_right (by decide) h
theorem len_is_table_length : ∀ ds r, F_is_table_length ds = some r → ds.length = 1 := by
  intro ds r h
  unfold F_is_table_length at h
  split at h
  · rfl
  · cases h
theorem h_is_table_length : ∀ ds r, F_is_table_length ds = some r → g_is_table_length (endF r) (startS N_is_table_length ds) := by
  intro ds r h
  unfold F_is_table_length at h
  split at h
  · rename_i n
    cases h
    refine ⟨.ok (.bl (decide (0 < n) && decide (Builtin.bitAnd n (n - 1) = 0))), .inl (fAnd_b rfl (f2_ok rfl rfl rfl rfl (oEq_int _ _))), .ok (.bl (tlenB n)), ?_, .inl rfl⟩
    exact fAnd_b rfl (f2_ok rfl rfl (f2_ok (rx := .ok (.int 1)) (ry := .ok (.int 10)) rfl rfl rfl rfl (oShl_one (by decide) (by decide))) rfl rfl)
  · cases h
theorem len_check_count : ∀ ds r, F_check_count ds = some r → ds.length = 1 := by
  intro ds r h
  unfold F_check_count at h
  split at h
  · rfl
  · cases h
theorem h_check_count : ∀ ds r, F_check_count ds = some r → g_check_count (endF r) (startS N_check_count ds) := by
  intro ds r h
  unfold F_check_count at h
  split at h
  · rename_i d
    split at h
    · cases h
    · rename_i hc
      cases h
      have hd : isExcD d = false := by simpa using hc
      refine ⟨.ok (.bl (!inB d 11)), fNot_ok (fTru_ok (fA_2 rfl rfl rfl rfl (below_any d 11 hd))), ?_⟩
      cases inB d 11 with
      | true => exact .inl rfl
      | false => exact rfl
  · cases h
theorem len_check_table : ∀ ds r, F_check_table ds = some r → ds.length = 1 := by
  intro ds r h
  unfold F_check_table at h
  split at h
  · rfl
  · cases h
theorem whole_any (d : D) (h : isExcD d = false) : F_is_whole [d] = some (.ok (.bl (isW d))) := if_neg (by rw [h]; decide)
theorem tab_walk (l : D) : ∀ (ds : List D) (s : Sl) (r : R), ds.any isExcD = false → (if ds.all isW then R.ok .non else .ex 5) = r →
    forW (.nm 1) (dIf (fNot (fTru (fA F_is_whole [fV 1]))) (dRaise 5) (dNext)) (endF r) ds [.dat l, s]
  | [], s, r, _, e => .inl e.symm
  | d :: ds, s, r, hn, e => by
    rw [List.any_cons, Bool.or_eq_false_iff] at hn
    refine ⟨[d], rfl, .ok (.bl (!isW d)), fNot_ok (fTru_ok (fA_1 rfl rfl (whole_any d hn.1))), ?_⟩
    rw [List.all_cons] at e
    cases hw : isW d with
    | false =>
      rw [hw] at e
      exact e.symm
    | true =>
      rw [hw, Bool.true_and] at e
      exact tab_walk l ds (.dat d) r hn.2 e
theorem h_check_table : ∀ ds r, F_check_table ds = some r → g_check_table (endF r) (startS N_check_table ds) := by
  intro ds r h
  unfold F_check_table at h
  split at h
  · rename_i d
    by_cases ho : okT d = true
    · rw [if_pos ho] at h
      cases h
      cases d with
      | lst ds =>
        have ho : (decide (ds.length ≤ 90000) && !ds.any isExcD) = true := ho
        rw [Bool.and_eq_true, Bool.not_eq_true'] at ho
        have e1 : fNot (fTru (fA F_is_table_length [fA oLen [fV 0]])) (pub (startS N_check_table [.lst ds])) = some (.ok (.bl (!tlenB (ds.length : Nat)))) := fNot_ok (fTru_ok (fA_1 (fA_1 rfl rfl rfl) rfl rfl))
        refine ⟨_, fOr_f rfl e1, ?_⟩
        show (match R.ok (.bl (!tlenB (ds.length : Nat))) with | .ok (.bl true) => _ | .ok (.bl false) => _ | .ex n => _ | _ => False)
        have et : tabD (.lst ds) = (tlenB (ds.length : Nat) && ds.all isW) := rfl
        cases ht : tlenB (ds.length : Nat) with
        | false =>
          rw [ht] at et
          rw [et]
          exact rfl
        | true =>
          rw [ht, Bool.true_and] at et
          rw [et]
          exact ⟨.it ds false, .inl rfl, tab_walk (.lst ds) ds .un _ ho.2 rfl⟩
      | scr ns => cases ho
      | fn k => cases ho
      | rng n => cases ho
      | ins ns ds => cases ho
      | exc n => cases ho
      | non => exact ⟨.ok (.bl true), rfl, rfl⟩
      | bl b => exact ⟨.ok (.bl true), rfl, rfl⟩
      | int i => exact ⟨.ok (.bl true), rfl, rfl⟩
      | str x => exact ⟨.ok (.bl true), rfl, rfl⟩
      | tup ds => exact ⟨.ok (.bl true), rfl, rfl⟩
      | emp => exact ⟨.ok (.bl true), rfl, rfl⟩
    · rw [if_neg ho] at h
      cases h
  · cases h
theorem ct_ok {d : D} (h : okT d = true) : F_check_table [d] = some (if tabD d then .ok .non else .ex 5) := if_pos h
theorem tab_lst {d : D} (h : tabD d = true) : ∃ ns : List Int, d = .lst (ns.map .int) ∧ tlenB (ns.length : Nat) = true := by
  cases d <;> first | (cases h; done) | skip
  rename_i ds
  have h : (tlenB (ds.length : Nat) && ds.all isW) = true := h
  rw [Bool.and_eq_true] at h
  have e : ds = (ds.map toI).map .int := by
    rw [List.map_map]
    conv => lhs; rw [← List.map_id ds]
    refine List.map_congr_left fun x hx => ?_
    have := List.all_eq_true.mp h.2 x hx
    cases x <;> first | (cases this; done) | rfl
  exact ⟨ds.map toI, by rw [← e], by rw [List.length_map]; exact h.1⟩
theorem len_check_two_tables : ∀ ds r, F_check_two_tables ds = some r → ds.length = 2 := by
  intro ds r h
  unfold F_check_two_tables at h
  split at h
  · rfl
  · cases h
theorem h_check_two_tables : ∀ ds r, F_check_two_tables ds = some r → g_check_two_tables (endF r) (startS N_check_two_tables ds) := by
  intro ds r h
  unfold F_check_two_tables at h
  split at h
  · rename_i a b
    by_cases ho : (okT a && okT b) = true
    · rw [if_pos ho] at h
      cases h
      rw [Bool.and_eq_true] at ho
      refine ⟨_, fA_1 rfl rfl (ct_ok ho.1), ?_⟩
      unfold chk2
      cases ha : tabD a with
      | false => exact rfl
      | true =>
        refine ⟨_, fA_1 rfl rfl (ct_ok ho.2), ?_⟩
        cases hb : tabD b with
        | false => exact rfl
        | true =>
          obtain ⟨ns, rfl, _⟩ := tab_lst ha
          obtain ⟨ms, rfl, _⟩ := tab_lst hb
          refine ⟨.ok (.bl (!decide ((((ns.map D.int).length : Nat) : Int) = (((ms.map D.int).length : Nat) : Int)))), f2_ok (fA_1 rfl rfl rfl) rfl (fA_1 rfl rfl rfl) rfl (oNe_int _ _), ?_⟩
          have el : (listD (.lst (ns.map .int))).length = (ns.map D.int).length := rfl
          have em : (listD (.lst (ms.map .int))).length = (ms.map D.int).length := rfl
          by_cases c : (ns.map D.int).length = (ms.map D.int).length
          · rw [decide_eq_true (by omega)]
            show okR (if true = true then (if true = true then (if (listD (.lst (ns.map .int))).length = (listD (.lst (ms.map .int))).length then R.ok .non else .ex 6) else .ex 5) else .ex 5) (.ok .non)
            rw [if_pos rfl, if_pos rfl, if_pos (by rw [el, em]; exact c)]
            exact .inl rfl
          · rw [decide_eq_false (by omega)]
            show (if true = true then (if true = true then (if (listD (.lst (ns.map .int))).length = (listD (.lst (ms.map .int))).length then R.ok .non else .ex 6) else .ex 5) else .ex 5) = .ex 6
            rw [if_pos rfl, if_pos rfl, if_neg (by rw [el, em]; exact c)]
    · rw [if_neg ho] at h
      cases h
  · cases h
theorem len_names_of : ∀ ds r, F_names_of ds = some r → ds.length = 1 := by
  intro ds r h
  unfold F_names_of at h
  split at h
  · rfl
  · cases h
theorem h_names_of : ∀ ds r, F_names_of ds = some r → g_names_of (endF r) (startS N_names_of ds) := by
  intro ds r h
  unfold F_names_of at h
  split at h
  · rename_i d
    by_cases ho : okT d = true
    · rw [if_pos ho] at h
      cases h
      refine ⟨_, fA_1 rfl rfl (ct_ok ho), ?_⟩
      cases hd : tabD d with
      | false => exact rfl
      | true =>
        obtain ⟨ns, rfl, _⟩ := tab_lst hd
        exact ⟨_, f2_ok (f1_ok (fA_1 rfl rfl rfl) rfl rfl) rfl rfl rfl rfl, .inl rfl⟩
    · rw [if_neg ho] at h
      cases h
  · cases h
theorem cc_ok {d : D} (h : isExcD d = false) : F_check_count [d] = some (if inB d 11 then .ok .non else .ex 0) := by
  show (if isExcD d = true then none else some (if inB d 11 then R.ok .non else .ex 0)) = _
  rw [h] <;> rfl
theorem len_blank : ∀ ds r, F_blank ds = some r → ds.length = 1 := by
  intro ds r h
  unfold F_blank at h
  split at h
  · rfl
  · cases h
theorem h_blank : ∀ ds r, F_blank ds = some r → g_blank (endF r) (startS N_blank ds) := by
  intro ds r h
  unfold F_blank at h
  split at h
  · rename_i d
    split at h
    · cases h
    · rename_i hc
      cases h
      have hd : isExcD d = false := by simpa using hc
      refine ⟨_, fA_1 rfl rfl (cc_ok hd), ?_⟩
      cases hb : inB d 11 with
      | false => exact rfl
      | true =>
        obtain ⟨m, rfl, h0, h1⟩ := inB_int hb
        have pl : 2 ^ m.toNat ≤ 2 ^ 10 := pow_le (by omega)
        refine ⟨.nw (List.replicate (2 ^ m.toNat) (.int 0)), ?_, .inl rfl⟩
        refine f2_ok (rx := .nw [.int 0]) rfl rfl (f2_ok rfl rfl rfl rfl (oShl_one h0 (by omega))) rfl ?_
        rw [pow_cast]
        have pl : 2 ^ m.toNat ≤ 1024 := pl
        generalize 2 ^ m.toNat = q at pl
        refine (oRep_ok (by omega) (by omega) (by rw [List.length_singleton, Int.toNat_natCast]; omega)).trans ?_
        rw [Int.toNat_natCast, repD_one]
  · cases h
theorem blank_ok {d : D} (h : isExcD d = false) : F_blank [d] = some (if inB d 11 then .nw (List.replicate (2 ^ (toI d).toNat) (.int 0)) else .ex 0) := by
  show (if isExcD d = true then none else some (if inB d 11 then R.nw (List.replicate (2 ^ (toI d).toNat) (.int 0)) else .ex 0)) = _
  rw [h] <;> rfl
theorem cs_ok {d : D} {m : Int} (h : isExcD d = false) (h0 : 0 ≤ m) (h1 : m < 11) : F_check_set [d, .int m] = some (if inB d (2 ^ m.toNat) then .ok .non else .ex 1) := by
  show (if isExcD d = true ∨ ¬ (0 ≤ m ∧ m ≤ 10) then none else some (if inB d (2 ^ m.toNat) then R.ok .non else .ex 1)) = _
  rw [if_neg (by
    rw [h]
    rintro (z | z)
    · cases z
    · exact z ⟨h0, by omega⟩)]
theorem len_lone : ∀ ds r, F_lone ds = some r → ds.length = 2 := by
  intro ds r h
  unfold F_lone at h
  split at h
  · rfl
  · cases h
theorem h_lone : ∀ ds r, F_lone ds = some r → g_lone (endF r) (startS N_lone ds) := by
  intro ds r h
  unfold F_lone at h
  split at h
  · rename_i m d
    by_cases hc : isExcD m = true ∨ isExcD d = true
    · rw [if_pos hc] at h
      cases h
    · rw [if_neg hc] at h
      cases h
      have hm : isExcD m = false := by
        cases q : isExcD m with
        | false => rfl
        | true => exact absurd (.inl q) hc
      have hd : isExcD d = false := by
        cases q : isExcD d with
        | false => rfl
        | true => exact absurd (.inr q) hc
      refine ⟨_, fA_1 rfl rfl (cc_ok hm), ?_⟩
      cases hb : inB m 11 with
      | false => exact rfl
      | true =>
        have hbl := blank_ok hm
        rw [hb] at hbl
        obtain ⟨k, rfl, h0, h1⟩ := inB_int hb
        refine ⟨_, fA_2 rfl rfl rfl rfl (cs_ok hd h0 h1), ?_⟩
        show onR (if inB d (2 ^ k.toNat) = true then R.ok .non else .ex 1) _ _
        have ek : toI (.int k) = k := rfl
        cases hq : inB d (2 ^ k.toNat) with
        | false =>
          show (if true = true then (if inB d (2 ^ (toI (.int k)).toNat) = true then R.nw _ else .ex 1) else .ex 0) = .ex 1
          rw [ek, hq] <;> rfl
        | true =>
          obtain ⟨j, rfl, j0, j1⟩ := inB_int hq
          rw [pow_cast] at j1
          refine ⟨_, .inl (fA_1 rfl rfl hbl), _, .ok (.int 1), .ok (.int j), rfl, .inl rfl, rfl, j.toNat, ?_, ?_, _, rfl, .inl ?_⟩
          · rw [Int.toNat_of_nonneg j0]
          · rw [List.length_replicate, ek]
            omega
          · show (if true = true then (if inB (.int j) (2 ^ (toI (.int k)).toNat) = true then R.nw _ else .ex 1) else .ex 0) = _
            rw [ek, hq] <;> rfl
  · cases h
theorem lcR_zip {fe : Fx} {ε : En} {i j : Nat} (f : Int → Int → Int) : ∀ (xs ys : List Int), (∀ x ∈ xs, ∀ y ∈ ys, fe (setsE ε [i, j] [.int x, .int y]) = some (.ok (.int (f x y)))) →
    lcR (.tp [i, j]) fYes fe ε (zipD (xs.map D.int) (ys.map D.int)) = some ((List.zipWith f xs ys).map D.int)
  | [], [], _ => rfl
  | [], _ :: _, _ => rfl
  | _ :: _, [], _ => rfl
  | x :: xs, y :: ys, h => by
    have ih := lcR_zip f xs ys fun a ha b hb => h a (List.mem_cons_of_mem _ ha) b (List.mem_cons_of_mem _ hb)
    have h1 := h x List.mem_cons_self y List.mem_cons_self
    show (match fe (setsE ε [i, j] [.int x, .int y]) with | some r => (match r.val with | some d => (lcR (.tp [i, j]) fYes fe ε (zipD (xs.map D.int) (ys.map D.int))).map (d :: ·) | none => none) | none => none) = _
    rw [h1]
    show (lcR (.tp [i, j]) fYes fe ε (zipD (xs.map D.int) (ys.map D.int))).map (D.int (f x y) :: ·) = _
    rw [ih] <;> rfl
theorem c2_ok {a b : D} (h : okT a = true) (h2 : okT b = true) : F_check_two_tables [a, b] = some (chk2 a b) := if_pos (by rw [h, h2]; rfl)
theorem toI_map (ns : List Int) : (listD (.lst (ns.map .int))).map toI = ns := by
  show (ns.map D.int).map toI = ns
  rw [List.map_map]
  exact List.map_id'' (fun _ => rfl) ns
theorem chk2_cases (a b : D) : (chk2 a b = .ok .non ∧ ∃ ns ms : List Int, a = .lst (ns.map .int) ∧ b = .lst (ms.map .int) ∧ ns.length = ms.length ∧ tlenB (ns.length : Nat) = true) ∨ ∃ n, chk2 a b = .ex n := by
  unfold chk2
  cases ha : tabD a with
  | false => exact .inr ⟨5, rfl⟩
  | true =>
    cases hb : tabD b with
    | false => exact .inr ⟨5, rfl⟩
    | true =>
      obtain ⟨ns, rfl, t⟩ := tab_lst ha
      obtain ⟨ms, rfl, _⟩ := tab_lst hb
      by_cases c : (listD (.lst (ns.map .int))).length = (listD (.lst (ms.map .int))).length
      · rw [if_pos rfl, if_pos rfl, if_pos c]
        refine .inl ⟨rfl, ns, ms, rfl, rfl, ?_, t⟩
        have c : (ns.map D.int).length = (ms.map D.int).length := c
        rwa [List.length_map, List.length_map] at c
      · rw [if_pos rfl, if_pos rfl, if_neg c]
        exact .inr ⟨6, rfl⟩
theorem tlen_le {n : Nat} (h : tlenB (n : Int) = true) : 0 < n ∧ n ≤ 1024 := by
  unfold tlenB at h
  rw [Bool.and_eq_true, Bool.and_eq_true] at h
  have a := of_decide_eq_true h.1.1
  have b := of_decide_eq_true h.2
  omega
theorem len_added : ∀ ds r, F_added ds = some r → ds.length = 2 := by
  intro ds r h
  unfold F_added at h
  split at h
  · rfl
  · cases h
theorem fItZ_ints {ε : En} {i j : Nat} {ns ms : List Int} (h1 : fV i ε = some (.ok (.lst (ns.map .int)))) (h2 : fV j ε = some (.ok (.lst (ms.map .int)))) : fItZ (fV i) (fV j) ε = some (.it (zipD (ns.map .int) (ms.map .int)) false) := by
  unfold fItZ
  rw [fItL_ok h1, fItL_ok h2]
theorem zipD_le : ∀ xs ys : List D, (zipD xs ys).length ≤ xs.length
  | [], _ => by simp [zipD]
  | _ :: _, [] => by simp [zipD]
  | x :: xs, y :: ys => by
    have := zipD_le xs ys
    simp [zipD]
    omega
theorem both_ok {a b : D} {f : Int → Int → Int} {op : D → D → Option R} (ha : okT a = true) (hb : okT b = true) (h : ∀ ns ms : List Int, a = .lst (ns.map .int) → b = .lst (ms.map .int) → ∀ x ∈ ns, ∀ y ∈ ms, op (.int x) (.int y) = some (.ok (.int (f x y)))) :
    (dSeq (dExpr (fA F_check_two_tables [fV 0, fV 1])) <| dRet (fLc (fItZ (fV 0) (fV 1)) (.tp [2, 3]) fYes (f2 op (fV 2) (fV 3)) [2, 3])) (endF (both f a b)) [.dat a, .dat b, .un, .un] := by
  refine ⟨_, fA_2 rfl rfl rfl rfl (c2_ok ha hb), ?_⟩
  unfold both
  rcases chk2_cases a b with ⟨e, ns, ms, rfl, rfl, hl, ht⟩ | ⟨n, e⟩
  · rw [e]
    have lt := tlen_le ht
    refine ⟨.nw ((List.zipWith f ((listD (.lst (ns.map .int))).map toI) ((listD (.lst (ms.map .int))).map toI)).map .int), ?_, .inl rfl⟩
    rw [toI_map, toI_map]
    refine fLc_ok (fItZ_ints rfl rfl) (Nat.le_trans (zipD_le _ _) (by rw [ints_ok]; omega)) (lcR_zip f ns ms fun x hx y hy => ?_)
    exact f2_ok rfl rfl rfl rfl (h ns ms rfl rfl x hx y hy)
  · rw [e]
    exact rfl
theorem h_added : ∀ ds r, F_added ds = some r → g_added (endF r) (startS N_added ds) := by
  intro ds r h
  unfold F_added at h
  split at h
  · rename_i a b
    by_cases ho : (okT a && okT b) = true
    · rw [if_pos ho] at h
      cases h
      rw [Bool.and_eq_true] at ho
      exact both_ok ho.1 ho.2 fun _ _ _ _ _ _ _ _ => rfl
    · rw [if_neg ho] at h
      cases h
  · cases h
theorem len_multiplied : ∀ ds r, F_multiplied ds = some r → ds.length = 2 := by
  intro ds r h
  unfold F_multiplied at h
  split at h
  · rfl
  · cases h
theorem small_of {ns : List Int} (h : smallD (.lst (ns.map .int)) = true) : ∀ x ∈ ns, x.natAbs < 2 ^ 499 := fun x hx =>
  of_decide_eq_true (List.all_eq_true.mp h (.int x) (List.mem_map.mpr ⟨x, hx, rfl⟩))
theorem h_multiplied : ∀ ds r, F_multiplied ds = some r → g_multiplied (endF r) (startS N_multiplied ds) := by
  intro ds r h
  unfold F_multiplied at h
  split at h
  · rename_i a b
    by_cases ho : ((okT a && okT b) && (smallD a && smallD b)) = true
    · rw [if_pos ho] at h
      cases h
      rw [Bool.and_eq_true, Bool.and_eq_true, Bool.and_eq_true] at ho
      refine both_ok ho.1.1 ho.1.2 fun ns ms ea eb x hx y hy => oMul_ok (mul_w (a := 499) (b := 499) ?_ ?_ (by decide) (by decide) (by decide))
      · subst ea
        exact small_of ho.2.1 x hx
      · subst eb
        exact small_of ho.2.2 y hy
    · rw [if_neg ho] at h
      cases h
  · cases h
theorem len_contrary : ∀ ds r, F_contrary ds = some r → ds.length = 1 := by
  intro ds r h
  unfold F_contrary at h
  split at h
  · rfl
  · cases h
theorem h_contrary : ∀ ds r, F_contrary ds = some r → g_contrary (endF r) (startS N_contrary ds) := by
  intro ds r h
  unfold F_contrary at h
  split at h
  · rename_i d
    by_cases ho : okT d = true
    · rw [if_pos ho] at h
      cases h
      refine ⟨_, fA_1 rfl rfl (ct_ok ho), ?_⟩
      cases hd : tabD d with
      | false => exact rfl
      | true =>
        obtain ⟨ns, rfl, _⟩ := tab_lst hd
        exact ⟨_, f1_ok rfl rfl rfl, .inl rfl⟩
    · rw [if_neg ho] at h
      cases h
  · cases h
theorem num_ge (t k c : Int) : 0 ≤ numT t k c := Int.emod_nonneg _ (by decide)
theorem num_lt (t k c : Int) : numT t k c < 10 ^ 60 := Int.emod_lt_of_pos _ (by decide)
theorem more_mem (t k n : Int) : moreT t k n ∈ moreL n := by
  unfold moreT
  have h1 : 0 ≤ (n / 97 + k + t) % 5 := Int.emod_nonneg _ (by decide)
  have h2 : (n / 97 + k + t) % 5 < 5 := Int.emod_lt_of_pos _ (by decide)
  have hl : ((n / 97 + k + t) % 5).toNat < (moreL n).length := by
    show _ < 5
    omega
  rw [List.getD_eq_getElem?_getD, List.getElem?_eq_getElem hl]
  exact List.getElem_mem hl
theorem more_le {t k n : Int} (h0 : 0 ≤ n) (h1 : n < 10 ^ 60) : (moreT t k n).natAbs ≤ 10 ^ 60 := by
  have := more_mem t k n
  simp only [moreL, List.mem_cons, List.not_mem_nil, or_false] at this
  rcases this with e | e | e | e | e <;> rw [e] <;> omega
theorem step_len (t : Int) (L : List Int) (k c : Int) : (stepT t L k c).length = L.length := by
  unfold stepT
  rw [List.length_set]
theorem tabI_len (t : Int) : ∀ (cs : List Int) (k : Nat) (L : List Int), (tabI t cs k L).length = L.length
  | [], _, _ => rfl
  | c :: cs, k, L => (tabI_len t cs (k + 1) _).trans (step_len t L k c)
theorem step_small {t : Int} {L : List Int} {k c : Int} {b : Nat} (h : ∀ x ∈ L, x.natAbs ≤ b) : ∀ x ∈ stepT t L k c, x.natAbs ≤ b + 10 ^ 60 := by
  intro x hx
  unfold stepT at hx
  rcases List.mem_or_eq_of_mem_set hx with m | e
  · have := h x m
    omega
  · have a := more_le (t := t) (k := k) (num_ge t k c) (num_lt t k c)
    generalize spotT t k (numT t k c) (L.length : Nat) = s at e
    have g : (L.getD s 0).natAbs ≤ b := by
      rw [List.getD_eq_getElem?_getD]
      cases q : L[s]? with
      | none => exact Nat.zero_le _
      | some y => exact h y (List.mem_of_getElem? q)
    generalize L.getD s 0 = u at e g
    generalize moreT t k (numT t k c) = v at e a
    omega
theorem tabI_small (t : Int) : ∀ (cs : List Int) (k : Nat) (L : List Int) (b : Nat), (∀ x ∈ L, x.natAbs ≤ b) → ∀ x ∈ tabI t cs k L, x.natAbs ≤ b + cs.length * 10 ^ 60
  | [], _, _, b, h, x, hx => by
    have := h x hx
    omega
  | c :: cs, k, L, b, h, x, hx => by
    have := tabI_small t cs (k + 1) _ (b + 10 ^ 60) (step_small h) x hx
    rw [List.length_cons]
    omega
theorem len__law_table : ∀ ds r, F__law_table ds = some r → ds.length = 3 := by
  intro ds r h
  unfold F__law_table at h
  split at h
  · rfl
  · cases h
theorem table_turns {ns : List Int} {m t : Int} (ht : 0 ≤ t ∧ t ≤ 20) : ∀ (cs : List Int) (k : Nat) (L : List Int) (s4 s5 s6 s7 s8 : Sl) (r : R), 0 < L.length → k + cs.length ≤ 1000 → r = .nw ((tabI t cs k L).map .int) →
    forW (.tp [4, 5]) (dSeq (dAsg 6 (f2 oMod (f2 oMul (f2 oMod (fV 5) (f2 oPow (fC (.int 10)) (fC (.int 60)))) (f2 oAdd (f2 oAdd (fC (.int 48271)) (f2 oMul (fC (.int 2)) (fV 2))) (fV 4))) (f2 oPow (fC (.int 10)) (fC (.int 60))))) <|
  dSeq (dAsg 7 (f2 oMod (f2 oAdd (f2 oDiv (fV 6) (fC (.int 485))) (f2 oMul (fV 4) (f2 oAdd (f2 oMul (fC (.int 2)) (fV 2)) (fC (.int 1))))) (fA oLen [fV 3]))) <|
  dSeq (dAsg 8 (f2 oIx (fA oLst [fV 6, f2 oSub (fC (.int 0)) (fV 6), f2 oMod (fV 6) (fC (.int 9)), fC (.int 1), f2 oSub (fC (.int 0)) (f2 oMod (fV 6) (fC (.int 7)))]) (f2 oMod (f2 oAdd (f2 oAdd (f2 oDiv (fV 6) (fC (.int 97))) (fV 4)) (fV 2)) (fC (.int 5))))) <|
  dSet 3 (fV 7) (f2 oAdd (f2 oIx (fV 3) (fV 7)) (fV 8))) { endF r with nx := dRetO 3 (endF r) } (pairs (cs.map .int) k) [.dat (.scr ns), .dat (.int m), .dat (.int t), .own (L.map .int), s4, s5, s6, s7, s8]
  | [], k, L, s4, s5, s6, s7, s8, r, _, _, e => ⟨_, rfl, .inl e⟩
  | c :: cs, k, L, s4, s5, s6, s7, s8, r, hL, hk, e => by
    rw [List.length_cons] at hk
    refine ⟨[.int k, .int c], rfl, ?_⟩
    have pw : ∀ ε, f2 oPow (fC (.int 10)) (fC (.int 60)) ε = some (.ok (.int (10 ^ 60))) := fun ε => f2_ok (rx := .ok (.int 10)) (ry := .ok (.int 60)) rfl rfl rfl rfl (oPow_ok (by decide))
    refine ⟨.ok (.int (numT t k c)), .inl (f2_ok (f2_ok (f2_ok rfl rfl (pw _) rfl (oMod_ok (by decide))) rfl (f2_ok (f2_ok rfl rfl (f2_ok rfl rfl rfl rfl (oMul_ok (mul_l (by decide) (by decide)))) rfl rfl) rfl rfl rfl rfl) rfl (oMul_ok (mul_r (by omega) (by omega)))) rfl (pw _) rfl (oMod_ok (by decide))), ?_⟩
    have n0 := num_ge t k c
    have lenL : (0 : Int) < (((L.map D.int).length : Nat) : Int) := by
      rw [List.length_map]
      omega
    refine ⟨.ok (.int ((numT t k c / 485 + k * (2 * t + 1)) % (((L.map D.int).length : Nat) : Int))), .inr ⟨f2_ok (f2_ok (f2_ok rfl rfl rfl rfl (oDiv_ok (by decide) (by decide))) rfl (f2_ok rfl rfl (f2_ok (f2_ok rfl rfl rfl rfl (oMul_ok (mul_l (by decide) (by decide)))) rfl rfl rfl rfl) rfl (oMul_ok (mul_l (by omega) (by omega)))) rfl rfl) rfl (fA_1 rfl rfl rfl) rfl (oMod_ok lenL), .inl rfl⟩, ?_⟩
    have sp0 : 0 ≤ (numT t k c / 485 + k * (2 * t + 1)) % (((L.map D.int).length : Nat) : Int) := Int.emod_nonneg _ (by omega)
    have sp1 := Int.emod_lt_of_pos (numT t k c / 485 + k * (2 * t + 1)) lenL
    have h1 : 0 ≤ (numT t k c / 97 + k + t) % 5 := Int.emod_nonneg _ (by decide)
    have h2 : (numT t k c / 97 + k + t) % 5 < 5 := Int.emod_lt_of_pos _ (by decide)
    have mr : oIx (.lst ((moreL (numT t k c)).map .int)) (.int ((numT t k c / 97 + k + t) % 5)) = some (.ok (.int (moreT t k (numT t k c)))) := by
      refine oIx_ok h1 ?_
      have hl : ((numT t k c / 97 + k + t) % 5).toNat < (moreL (numT t k c)).length := by
        show _ < 5
        omega
      unfold moreT
      rw [List.getElem?_map, List.getD_eq_getElem?_getD, List.getElem?_eq_getElem hl] <;> rfl
    refine ⟨.ok (.int (moreT t k (numT t k c))), .inl (f2_ok (rx := .nw ((moreL (numT t k c)).map .int)) (fA_of (argsV_cons (rx := .ok (.int (numT t k c))) rfl rfl (argsV_cons (f2_ok rfl rfl rfl rfl rfl) rfl (argsV_cons (f2_ok rfl rfl rfl rfl (oMod_ok (by decide))) rfl (argsV_cons (rx := .ok (.int 1)) rfl rfl (argsV_cons (f2_ok rfl rfl (f2_ok rfl rfl rfl rfl (oMod_ok (by decide))) rfl rfl) rfl rfl))))) rfl) rfl (f2_ok (f2_ok (f2_ok (f2_ok rfl rfl rfl rfl (oDiv_ok (by decide) (by decide))) rfl rfl rfl rfl) rfl rfl rfl rfl) rfl rfl rfl (oMod_ok (by decide))) rfl mr), ?_⟩
    have es : spotT t k (numT t k c) (L.length : Nat) = ((numT t k c / 485 + k * (2 * t + 1)) % (((L.map D.int).length : Nat) : Int)).toNat := by
      unfold spotT
      rw [List.length_map]
    generalize hsp : (numT t k c / 485 + k * (2 * t + 1)) % (((L.map D.int).length : Nat) : Int) = sp at sp0 sp1 es
    have sl : sp.toNat < L.length := by
      rw [List.length_map] at sp1
      omega
    have ga : oIx (.lst (L.map .int)) (.int sp) = some (.ok (.int (L.getD sp.toNat 0))) := by
      refine oIx_ok sp0 ?_
      rw [List.getElem?_map, List.getD_eq_getElem?_getD, List.getElem?_eq_getElem sl] <;> rfl
    refine ⟨L.map .int, .ok (.int (L.getD sp.toNat 0 + moreT t k (numT t k c))), .ok (.int sp), rfl, .inr ⟨f2_ok (f2_ok rfl rfl rfl rfl ga) rfl rfl rfl rfl, .inl rfl⟩, rfl, sp.toNat, ?_, ?_, ?_⟩
    · rw [Int.toNat_of_nonneg sp0]
    · rw [List.length_map]
      exact sl
    · have em : (L.map D.int).set sp.toNat (.int (L.getD sp.toNat 0 + moreT t k (numT t k c))) = (stepT t L (k : Nat) c).map .int := by
        unfold stepT
        rw [es, List.map_set]
      have := table_turns (ns := ns) (m := m) ht cs (k + 1) (stepT t L (k : Nat) c) (.dat (.int k)) (.dat (.int c)) (.dat (.int (numT t k c))) (.dat (.int sp)) (.dat (.int (moreT t k (numT t k c)))) r (by rw [step_len]; exact hL) (by omega) e
      rw [← em] at this
      exact this
theorem h__law_table : ∀ ds r, F__law_table ds = some r → g__law_table (endF r) (startS N__law_table ds) := by
  intro ds r h
  unfold F__law_table at h
  split at h
  · rename_i ns m t
    split at h
    · rename_i hl
      obtain ⟨h1, hm, ht⟩ := hl
      cases h
      have pl : 2 ^ m.toNat ≤ 2 ^ 8 := pow_le (by omega)
      have p0 : 0 < 2 ^ m.toNat := Nat.pow_pos (by decide)
      have c0 := cutI_len ns none (some 400)
      refine ⟨.nw ((List.replicate (2 ^ m.toNat) (0 : Int)).map .int), .inl (f2_ok (rx := .nw [.int 0]) rfl rfl (f2_ok rfl rfl rfl rfl (oShl_one hm.1 (by omega))) rfl ?_), .it (pairs ((cutI ns none (some 400)).map .int) 0) _, .inl (fItE_ok (fItL_nw ?_)), ?_⟩
      · rw [pow_cast]
        have pl : 2 ^ m.toNat ≤ 256 := pl
        generalize 2 ^ m.toNat = q at pl
        refine (oRep_ok (by omega) (by omega) (by rw [List.length_singleton, Int.toNat_natCast]; omega)).trans ?_
        rw [Int.toNat_natCast, repD_one, List.map_replicate]
      · refine fSl_to (x := .scr ns) (j := 400) rfl rfl rfl ?_
        show some (R.nw (DY.cutD (ns.map .int) none (some 400))) = _
        rw [cutD_ints]
      · exact table_turns ht _ 0 _ .un .un .un .un .un _ (by rw [List.length_replicate]; exact p0) (by omega) rfl
    · cases h
  · cases h
def GoodEl (x : D) : Prop := isExcD x = false ∧ (toI x).natAbs < 2 ^ 499
def NoTab (d : D) : Prop := okT d = true ∧ tabD d = false ∧ smallD d = true
theorem no_tab {l : List D} (hl : l.length ≤ 90000) (hg : ∀ x ∈ l, GoodEl x) (ht : tlenB (l.length : Nat) = false ∨ ∃ x ∈ l, isW x = false) : NoTab (.lst l) := by
  refine ⟨?_, ?_, ?_⟩
  · show (decide (l.length ≤ 90000) && !l.any isExcD) = true
    rw [decide_eq_true hl, List.any_eq_false.mpr fun x hx => by rw [(hg x hx).1]; exact Bool.false_ne_true] <;> rfl
  · show (tlenB (l.length : Nat) && l.all isW) = false
    rcases ht with h | ⟨x, hx, h⟩
    · rw [h, Bool.false_and]
    · have : l.all isW = false := by
        rw [List.all_eq_false]
        exact ⟨x, hx, by rw [h]; exact Bool.false_ne_true⟩
      rw [this, Bool.and_false]
  · exact List.all_eq_true.mpr fun x hx => decide_eq_true (hg x hx).2
theorem mem_repD {x : D} {ds : List D} : ∀ {k}, x ∈ repD ds k → x ∈ ds
  | 0, h => by
    rw [repD] at h
    exact absurd h List.not_mem_nil
  | k + 1, h => by
    rw [repD] at h
    rcases List.mem_append.mp h with m | m
    · exact m
    · exact mem_repD m
theorem mem_cut {x : D} {ds : List D} {lo hi : Option Int} (h : x ∈ DY.cutD ds lo hi) : x ∈ ds := List.mem_of_mem_drop (List.mem_of_mem_take h)
theorem odd_good : ∀ w ∈ oddL, GoodEl w ∧ isW w = false := by
  intro w h
  simp only [List.mem_cons, List.not_mem_nil, or_false] at h
  rcases h with rfl | rfl | rfl | rfl | rfl <;> exact ⟨⟨rfl, by decide⟩, rfl⟩
theorem odd_at (n : Int) : oddL.getD (n / 32 % 5).toNat .non ∈ oddL := by
  have h1 : 0 ≤ n / 32 % 5 := Int.emod_nonneg _ (by decide)
  have h2 : n / 32 % 5 < 5 := Int.emod_lt_of_pos _ (by decide)
  have hl : (n / 32 % 5).toNat < oddL.length := by
    show _ < 5
    omega
  rw [List.getD_eq_getElem?_getD, List.getElem?_eq_getElem hl]
  exact List.getElem_mem hl
theorem tlen_pow {m : Nat} (h : m ≤ 5) : tlenB ((2 ^ m : Nat) : Int) = true ∧ tlenB ((2 ^ m * 2 : Nat) : Int) = true ∧ tlenB ((2 ^ m * 5 : Nat) : Int) = false ∧ tlenB ((2 ^ m * 3 : Nat) : Int) = false ∧ ((Builtin.Int.intBits ((2 ^ m : Nat) : Int) : Int) - 1 = (m : Int)) ∧ (membI (((2 ^ m : Nat) : Int) - 1)).length = m := by
  have : m = 0 ∨ m = 1 ∨ m = 2 ∨ m = 3 ∨ m = 4 ∨ m = 5 := by omega
  rcases this with rfl | rfl | rfl | rfl | rfl | rfl <;> decide +kernel
theorem int_good {ns : List Int} (hs : ∀ x ∈ ns, x.natAbs < 2 ^ 499) : ∀ x ∈ ns.map D.int, GoodEl x := by
  intro x hx
  obtain ⟨k, hk, rfl⟩ := List.mem_map.mp hx
  exact ⟨rfl, hs k hk⟩
theorem ints_okT {ns : List Int} (h : ns.length ≤ 90000) : okT (.lst (ns.map .int)) = true := by
  show (decide ((ns.map D.int).length ≤ 90000) && !(ns.map D.int).any isExcD) = true
  rw [List.length_map, decide_eq_true h, ints_any] <;> rfl
theorem ints_tabD (ns : List Int) : tabD (.lst (ns.map .int)) = tlenB (ns.length : Nat) := by
  show (tlenB ((ns.map D.int).length : Nat) && (ns.map D.int).all isW) = _
  have : (ns.map D.int).all isW = true := by
    rw [List.all_eq_true]
    intro x hx
    obtain ⟨k, _, rfl⟩ := List.mem_map.mp hx
    rfl
  rw [this, Bool.and_true, List.length_map]
theorem ints_small {ns : List Int} (hs : ∀ x ∈ ns, x.natAbs < 2 ^ 499) : smallD (.lst (ns.map .int)) = true :=
  List.all_eq_true.mpr fun x hx => decide_eq_true (int_good hs x hx).2
theorem chk2_ints {ns ms : List Int} (h : tlenB (ns.length : Nat) = true) (h2 : tlenB (ms.length : Nat) = true) : chk2 (.lst (ns.map .int)) (.lst (ms.map .int)) = if ns.length = ms.length then .ok .non else .ex 6 := by
  unfold chk2
  rw [ints_tabD, ints_tabD, h, h2, if_pos rfl, if_pos rfl]
  show (if (ns.map D.int).length = (ms.map D.int).length then R.ok .non else .ex 6) = _
  rw [List.length_map, List.length_map]
theorem both_ints {f : Int → Int → Int} {ns ms : List Int} (h : tlenB (ns.length : Nat) = true) (hl : ns.length = ms.length) : both f (.lst (ns.map .int)) (.lst (ms.map .int)) = .nw ((List.zipWith f ns ms).map .int) := by
  unfold both
  rw [chk2_ints h (hl ▸ h), if_pos hl, toI_map, toI_map]
theorem both_unlike {f : Int → Int → Int} {ns ms : List Int} (h : tlenB (ns.length : Nat) = true) (h2 : tlenB (ms.length : Nat) = true) (hl : ns.length ≠ ms.length) : both f (.lst (ns.map .int)) (.lst (ms.map .int)) = .ex 6 := by
  unfold both
  rw [chk2_ints h h2, if_neg hl]
theorem both_left {f : Int → Int → Int} {a b : D} (h : tabD a = false) : both f a b = .ex 5 := by
  unfold both chk2
  rw [h] <;> rfl
theorem both_right {f : Int → Int → Int} {a b : D} (ha : tabD a = true) (h : tabD b = false) : both f a b = .ex 5 := by
  unfold both chk2
  rw [ha, h] <;> rfl
theorem add_ok {a b : D} (ha : okT a = true) (hb : okT b = true) : F_added [a, b] = some (both (· + ·) a b) := if_pos (by rw [ha, hb]; rfl)
theorem mul_ok {a b : D} (ha : okT a = true) (hb : okT b = true) (sa : smallD a = true) (sb : smallD b = true) : F_multiplied [a, b] = some (both (· * ·) a b) := if_pos (by rw [ha, hb, sa, sb]; rfl)
theorem zip_upI (f : Int → Int → Int) (xs ys : List Int) (h : xs.length = ys.length) : (upI 0 xs.length).map (fun k => f (xs.getD k.toNat 0) (ys.getD k.toNat 0)) = List.zipWith f xs ys := by
  refine List.ext_getElem? fun i => ?_
  rw [List.getElem?_map, List.getElem?_zipWith]
  by_cases hi : i < xs.length
  · rw [upI0, List.getElem?_map, List.getElem?_range hi, List.getElem?_eq_getElem hi, List.getElem?_eq_getElem (by omega)]
    show some (f (xs.getD ((i : Int)).toNat 0) (ys.getD ((i : Int)).toNat 0)) = _
    rw [Int.toNat_natCast, List.getD_eq_getElem?_getD, List.getD_eq_getElem?_getD, List.getElem?_eq_getElem hi, List.getElem?_eq_getElem (by omega : i < ys.length)] <;> rfl
  · rw [List.getElem?_eq_none (by rw [upI_len]; omega), List.getElem?_eq_none (by omega : xs.length ≤ i)] <;> rfl
theorem rev_upI (xs : List Int) : (upI 0 xs.length).map (fun k => xs.getD ((xs.length : Int) - 1 - k).toNat 0) = xs.reverse := by
  refine List.ext_getElem? fun i => ?_
  rw [List.getElem?_map]
  by_cases hi : i < xs.length
  · rw [upI0, List.getElem?_map, List.getElem?_range hi, List.getElem?_reverse hi]
    show some (xs.getD ((xs.length : Int) - 1 - (i : Int)).toNat 0) = _
    have e : ((xs.length : Int) - 1 - (i : Int)).toNat = xs.length - 1 - i := by omega
    rw [e, List.getD_eq_getElem?_getD, List.getElem?_eq_getElem (by omega : xs.length - 1 - i < xs.length)] <;> rfl
  · rw [List.getElem?_eq_none (by rw [upI_len]; omega), List.getElem?_eq_none (by rw [List.length_reverse]; omega)] <;> rfl
theorem ix_ints {ns : List Int} {i : Int} (h : 0 ≤ i) (h2 : i < ns.length) : oIx (.lst (ns.map .int)) (.int i) = some (.ok (.int (ns.getD i.toNat 0))) := by
  refine oIx_ok h ?_
  rw [List.getElem?_map, List.getD_eq_getElem?_getD, List.getElem?_eq_getElem (by omega : i.toNat < ns.length)] <;> rfl
theorem oNe_two (ns ms : List Int) : oNe (.tup [.lst (ns.map .int), .lst (ms.map .int)]) (.tup [.lst (ns.map .int), .lst (ms.map .int)]) = some (.ok (.bl false)) := by
  have hs : shp (.tup [.lst (ns.map .int), .lst (ms.map .int)]) = true := by
    unfold shp SeqAt.shaped
    rw [D.toP, D.plain, D.toPs, D.toPs, D.toPs, D.toP, D.toP, D.plains, D.plains, D.plains, D.plain, D.plain, toPs_ints, toPs_ints, plains_ints, plains_ints, PyData.canLay0, PyData.canLayAll0, PyData.canLayAll0, PyData.canLayAll0, PyData.canLay0, PyData.canLay0, canLay_ints, canLay_ints, PyData.depth, PyData.depthAll, PyData.depthAll, PyData.depthAll, PyData.depth, PyData.depth]
    have := depth_ints ns
    have := depth_ints ms
    rw [decide_eq_true (by omega)] <;> rfl
  have he : eqD (.tup [.lst (ns.map .int), .lst (ms.map .int)]) (.tup [.lst (ns.map .int), .lst (ms.map .int)]) = true := by
    unfold eqD
    rw [D.toP, D.toPs, D.toPs, D.toPs, D.toP, D.toP, toPs_ints, toPs_ints, PyData.eqv, PyData.eqvAll, PyData.eqvAll, PyData.eqvAll, PyData.eqv, PyData.eqv, eqv_ints, eqv_ints, decide_eq_true rfl, decide_eq_true rfl] <;> rfl
  unfold oNe
  rw [hs, he] <;> rfl
end
def raised : List Nat := [0, 1, 2, 3, 4, 5, 8]
def tabC (ns : List Nat) (m : Nat) : Nat → Option Bool := fun n => if ns.contains n then some (n == m) else none
def tabV (ns : List Nat) : Nat → Option Bool := fun n => if ns.contains n then some true else none
instance nmI : NM := ⟨fun _ _ => "", 0, fun _ => noLT⟩
abbrev N_check_name : List Str := ["name", "many"]
abbrev N_check_order : List Str := ["order", "many", "name"]
abbrev N_check_number : List Str := ["number"]
abbrev N_reordered : List Str := ["table", "order", "places", "name", "place"]
abbrev N_parts : List Str := ["one", "part"]
abbrev N___init__ : List Str := ["self", "many"]
abbrev N_put : List Str := ["self", "one", "number"]
abbrev N_swap : List Str := ["self", "name", "other"]
abbrev N_undo : List Str := ["self", "kind", "first", "second"]
abbrev N_value : List Str := ["self", "one"]
abbrev N_under : List Str := ["self", "one", "part"]
abbrev N_over : List Str := ["self", "one", "other", "number"]
abbrev N_table : List Str := ["self"]
abbrev N_many_done : List Str := ["self"]
abbrev N__exchange : List Str := ["self", "name", "other", "order"]
abbrev N__law_kind : List Str := ["_law_caught_here", "_law_found", "_law_word", "_law_is_one"]
abbrev N__law_is_table : List Str := ["_law_found", "_law_due", "_law_number"]
abbrev N__law_turned : List Str := ["_law_one", "_law_name", "_law_other", "_law_names", "_law_found", "_law_this"]
abbrev N__law_behind : List Str := ["_law_numbers", "_law_word", "_law_one", "_law_other", "_law_found", "_law_spot"]
abbrev N__law_caught : List Str := ["_law_book", "_law_word", "_law_one", "_law_other", "_law_caught_here", "_law_told", "error"]
abbrev N__law_made : List Str := ["_law_many", "_law_caught_here", "error"]
abbrev N__law_seen : List Str := ["_law_book", "_law_rows", "_law_number", "_law_held", "_law_numbers", "_law_size", "_law_one", "_law_low", "_law_high", "_law_k", "_law_way", "_law_found", "_law_other"]
abbrev N__law_wrong : List Str := ["_law_many", "_law_number", "_law_odd"]
abbrev N__law_deed : List Str := ["_law_book", "_law_many", "_law_rows", "_law_number", "_law_great", "_law_way", "_law_word", "_law_one", "_law_other", "_law_due", "_law_caught_here", "_law_told", "_law_deed_here"]
abbrev N_law : List Str := ["_law_script", "_law_manys", "_law_books", "_law_rows", "_law_held", "_law_odd", "_law_k", "_law_number", "_law_which", "_law_great", "_law_side", "_law_turn", "_law_many", "_law_pair", "#0", "#1", "#2", "#3"]
theorem upI_cons (i c : Nat) : upI (i : Int) (c + 1) = (i : Int) :: upI ((i + 1 : Nat) : Int) c := by
  unfold upI
  rw [List.range_succ_eq_map, List.map_cons, List.map_map]
  exact List.cons_eq_cons.mpr ⟨by simp, List.map_congr_left fun x _ => by simp only [Function.comp]; omega⟩
theorem ix_tab {n i : Nat} {f : Nat → Int} (h : i < 2 ^ n) : oIx (.lst ((tabL n f).map .int)) (.int (i : Nat)) = some (.ok (.int (f i))) := by
  refine oIx_ok (by omega) ?_
  rw [Int.toNat_natCast, List.getElem?_map, tabL_get h] <;> rfl
theorem tlen_log {L : Nat} (h : tlenB (L : Int) = true) : ∃ n, n ≤ 10 ∧ L = 2 ^ n ∧ Nat.log2 L = n := by
  have all : ∀ L, L < 1025 → tlenB ((L : Nat) : Int) = true → Nat.log2 L ≤ 10 ∧ L = 2 ^ Nat.log2 L := by decide +kernel
  have hl := (tlen_le h).2
  obtain ⟨h1, h2⟩ := all L (by omega) h
  exact ⟨_, h1, h2, rfl⟩
theorem log_pow (n : Nat) : Nat.log2 (2 ^ n) = n := Nat.log2_two_pow
theorem tlenP {n : Nat} (h : n ≤ 10) : tlenB ((2 ^ n : Nat) : Int) = true := by
  have all : ∀ n, n < 11 → tlenB ((2 ^ n : Nat) : Int) = true := by decide
  exact all n (by omega)
theorem law_tab (ns : List Int) (t : Int) (m : Nat) : (tabI t (cutI ns none (some 400)) 0 (List.replicate (2 ^ m) 0)).length = 2 ^ m := by
  rw [tabI_len, List.length_replicate]
theorem law_small (ns : List Int) (hl : ns.length ≤ 63) (t : Int) (m : Nat) : ∀ x ∈ tabI t (cutI ns none (some 400)) 0 (List.replicate (2 ^ m) 0), x.natAbs ≤ 63 * 10 ^ 60 := fun x hx => by
  have c0 := cutI_len ns none (some 400)
  have h := tabI_small t (cutI ns none (some 400)) 0 (List.replicate (2 ^ m) 0) 0 (fun y hy => by rw [List.eq_of_mem_replicate hy]; exact Nat.le_refl _) x hx
  have b : (cutI ns none (some 400)).length * 10 ^ 60 ≤ 63 * 10 ^ 60 := Nat.mul_le_mul_right _ (by omega)
  omega
theorem law_table_ok {ns : List Int} (hl : ns.length ≤ 63) {m : Nat} {t : Int} (hm : m ≤ 8) (ht : 0 ≤ t ∧ t ≤ 20) : F__law_table [.scr ns, .int (m : Nat), .int t] = some (.nw ((tabI t (cutI ns none (some 400)) 0 (List.replicate (2 ^ m) 0)).map .int)) := by
  refine (if_pos ⟨hl, by omega, ht⟩).trans ?_
  rw [Int.toNat_natCast]
theorem map_upI {n : Nat} {g : Int → Int} {f : Nat → Int} (h : ∀ s, s < 2 ^ n → g (s : Nat) = f s) : (upI 0 (2 ^ n)).map g = tabL n f := by
  unfold upI tabL
  rw [List.map_map]
  refine List.map_congr_left fun s hs => ?_
  simp only [Function.comp]
  rw [Int.zero_add]
  exact h s (List.mem_range.mp hs)
def F_members : List D → Option R
  | [d] => if isExcD d then none else some (if inB d 1024 then .nw ((membI (toI d)).map .int) else .ex 1)
  | _ => none
def F_parts : List D → Option R
  | [d] => if isExcD d then none else some (if inB d 1024 then .nw ((partsI (toI d)).map .int) else .ex 1)
  | _ => none
def F_size_of : List D → Option R
  | [d] => if isExcD d then none else some (if inB d 1024 then .ok (.int ((membI (toI d)).length : Nat)) else .ex 1)
  | _ => none
def toIs (d : D) : List Int := (listD d).map toI
/-- a list of all names, each once -/
def permB (n : Nat) (o : List Int) : Bool := decide (o.length = n) && (List.range n).all fun (k : Nat) => decide ((k : Int) ∈ o)
def ordD (n : Nat) : D → Bool
  | .lst ds => ds.all isW && permB n (ds.map toI)
  | _ => false
def spotI (L : List Int) : Int := (L.map fun x => (2 : Int) ^ x.toNat).sum
def spotN (o : List Int) (s : Nat) : Nat := (spotI ((membI (s : Int)).map fun k => o.getD k.toNat 0)).toNat
def reoI (n : Nat) (A o : List Int) : List Int := tabL n fun s => A.getD (spotN o s) 0
def F_reordered : List D → Option R
  | [t, o] => if okT t = true ∧ okT o = true then (if tabD t = true then (if ordD (Nat.log2 (listD t).length) o = true then (if Nat.log2 (listD t).length ≤ 5 then some (.nw ((reoI (Nat.log2 (listD t).length) (toIs t) (toIs o)).map .int)) else none) else some (.ex 4)) else some (.ex 5)) else none
  | _ => none
/-- the set s with room for one more name at m; and without it -/
def insN (m s : Nat) : Nat := s % 2 ^ m + s / 2 ^ m * 2 ^ (m + 1)
def delN (m s : Nat) : Nat := s % 2 ^ m + s / 2 ^ (m + 1) * 2 ^ m
def woI (n m : Nat) (A : List Int) : List Int := tabL (n - 1) fun s => A.getD (insN m s) 0
def hoI (n m : Nat) (A : List Int) : List Int := tabL (n - 1) fun s => A.getD (insN m s + 2 ^ m) 0
def F_parted : List D → Option R
  | [t, m] => if okT t = true ∧ isExcD m = false then (if tabD t = true then (if inB m (Nat.log2 (listD t).length : Nat) = true then (if Nat.log2 (listD t).length ≤ 6 then some (.nn true [.own ((woI (Nat.log2 (listD t).length) (toI m).toNat (toIs t)).map .int), .own ((hoI (Nat.log2 (listD t).length) (toI m).toNat (toIs t)).map .int)]) else none) else some (.ex 2)) else some (.ex 5)) else none
  | _ => none
def withI (n m : Nat) (A B : List Int) : List Int := tabL (n + 1) fun s => if s.testBit m = true then B.getD (delN m s) 0 else A.getD (delN m s) 0
def F_with_name : List D → Option R
  | [a, b, m] => if (okT a = true ∧ okT b = true) ∧ isExcD m = false then (match chk2 a b with
    | .ok _ => if Nat.log2 (listD a).length = 10 then some (.ex 0) else if inB m ((Nat.log2 (listD a).length : Nat) + 1) = true then (if Nat.log2 (listD a).length ≤ 5 then some (.nw ((withI (Nat.log2 (listD a).length) (toI m).toNat (toIs a) (toIs b)).map .int)) else none) else some (.ex 2)
    | x => some x) else none
  | _ => none
def F_check_name : List D → Option R
  | [d, .int m] => if isExcD d then none else some (if inB d m then .ok .non else .ex 2)
  | _ => none
def F_check_order : List D → Option R
  | [o, .int n] => if okT o = true ∧ 0 ≤ n ∧ n ≤ 10 then some (if ordD n.toNat o = true then .ok .non else .ex 4) else none
  | _ => none
/-! a book's defs by data -/
def BkOk (β : Bk) : Prop := (0 ≤ β.many ∧ β.many ≤ 5) ∧ β.nums.length = 2 ^ β.many.toNat
instance (β : Bk) : Decidable (BkOk β) := by unfold BkOk; infer_instance
open Classical in
noncomputable def onBk (k : Bk → List D → Option R) : List D → Option R
  | d :: xs => if h : ∃ β, BkOk β ∧ β.d = d then k h.choose xs else none
  | [] => none
def underI (A : List Int) (i : Int) : Int := ((partsI i).map fun k => A.getD k.toNat 0).sum
def overI (A : List Int) (i : Int) : Int := (((upI 0 A.length).filter fun k => decide (Builtin.bitAnd i k = i)).map fun k => A.getD k.toNat 0).sum
noncomputable def F_value : List D → Option R := onBk fun β xs => match xs with
  | [d] => if isExcD d then none else some (if inB d (2 ^ β.many.toNat) then .ok (.int (β.nums.getD (toI d).toNat 0)) else .ex 1)
  | _ => none
noncomputable def F_under : List D → Option R := onBk fun β xs => match xs with
  | [d] => if isExcD d then none else some (if inB d (2 ^ β.many.toNat) then .ok (.int (underI β.nums (toI d))) else .ex 1)
  | _ => none
noncomputable def F_over : List D → Option R := onBk fun β xs => match xs with
  | [d] => if isExcD d then none else some (if inB d (2 ^ β.many.toNat) then .ok (.int (overI β.nums (toI d))) else .ex 1)
  | _ => none
noncomputable def F_table : List D → Option R := onBk fun β xs => match xs with
  | [] => some (.nw (β.nums.map .int))
  | _ => none
noncomputable def F_many_done : List D → Option R := onBk fun β xs => match xs with
  | [] => if β.done.length ≤ 1000 then some (.ok (.int (β.done.length : Nat))) else none
  | _ => none
def F_check_number : List D → Option R
  | [d] => if isExcD d then none else some (if isW d then .ok .non else .ex 3)
  | _ => none
/-! refused ones -/
noncomputable def F_put : List D → Option R := onBk fun β xs => match xs with
  | [d, e] => if isExcD d = true ∨ isExcD e = true then none else if inB d (2 ^ β.many.toNat) then (if isW e then none else some (.ex 3)) else some (.ex 1)
  | _ => none
noncomputable def F_swap : List D → Option R := onBk fun β xs => match xs with
  | [d, e] => if isExcD d = true ∨ isExcD e = true then none else if inB d β.many then (if inB e β.many then none else some (.ex 2)) else some (.ex 2)
  | _ => none
def F_undo : List D → Option R := fun _ => none
/-! deeds that stand -/
def swO (n : Nat) (i j : Int) : List Int := ((upI 0 n).set i.toNat j).set j.toNat i
def exN (β : Bk) (i j : Int) : List Int := reoI β.many.toNat β.nums (swO β.many.toNat i j)
def putB (β : Bk) (i x : Int) : Bk := ⟨β.many, β.nums.set i.toNat (β.nums.getD i.toNat 0 + x), β.done ++ [(0, i, x)]⟩
def swapB (β : Bk) (i j : Int) : Bk := ⟨β.many, exN β i j, β.done ++ [(1, i, j)]⟩
def FM__exchange : FM
  | [.bk b β, .dat (.int i), .dat (.int j)] => if BkOk β ∧ (0 ≤ i ∧ i < β.many) ∧ 0 ≤ j ∧ j < β.many then some (.ok .non, [.bk b ⟨β.many, exN β i j, β.done⟩, .dat (.int i), .dat (.int j)]) else none
  | _ => none
def FM_put : FM
  | [.bk b β, .dat (.int i), .dat (.int x)] => if BkOk β ∧ (0 ≤ i ∧ i < 2 ^ β.many.toNat) ∧ β.done.length < 1000 then some (.ok .non, [.bk b (putB β i x), .dat (.int i), .dat (.int x)]) else none
  | _ => none
def FM_swap : FM
  | [.bk b β, .dat (.int i), .dat (.int j)] => if BkOk β ∧ ((0 ≤ i ∧ i < β.many) ∧ 0 ≤ j ∧ j < β.many) ∧ β.done.length < 1000 then some (.ok .non, [.bk b (swapB β i j), .dat (.int i), .dat (.int j)]) else none
  | _ => none
def undoB (β : Bk) : Option Bk := match β.done.getLast? with
  | none => none
  | some (k, i, x) => if k = 0 then (if 0 ≤ i ∧ i < 2 ^ β.many.toNat then some ⟨β.many, β.nums.set i.toNat (β.nums.getD i.toNat 0 - x), β.done.dropLast⟩ else none)
    else (if (0 ≤ i ∧ i < β.many) ∧ 0 ≤ x ∧ x < β.many then some ⟨β.many, exN β i x, β.done.dropLast⟩ else none)
def FM_undo : FM
  | [.bk b β] => if BkOk β ∧ β.done.length ≤ 1000 then (if β.done = [] then some (.error 8, [.bk b β]) else (undoB β).map fun β' => (.ok .non, [.bk b β'])) else none
  | _ => none
def capM (w i x : Sl) : Except Nat D × List Sl → Option (Except Nat D × List Sl)
  | (.ok _, .bk b β :: _) => some (.ok (.tup [.non, .non]), [.bk b β, w, i, x])
  | (.error n, .bk b β :: _) => some (.ok (.tup [.exc n, .non]), [.bk b β, w, i, x])
  | _ => none
def FM__law_caught : FM
  | [.bk b β, .dat (.str w), .dat (.int i), .dat (.int x)] => (if w = "put" then FM_put [.bk b β, .dat (.int i), .dat (.int x)] else if w = "swap" then FM_swap [.bk b β, .dat (.int i), .dat (.int x)] else if w = "undo" then FM_undo [.bk b β] else none).bind (capM (.dat (.str w)) (.dat (.int i)) (.dat (.int x)))
  | _ => none
def capX : R → Option R
  | .ex n => some (.ok (.tup [.exc n, .non]))
  | _ => none
noncomputable def F__law_caught : List D → Option R
  | [b, .str w, d, e] => (if w = "put" then F_put [b, d, e] else if w = "swap" then F_swap [b, d, e] else if w = "undo" then none else if w = "value" then F_value [b, d] else if w = "under" then F_under [b, d] else if w = "over" then F_over [b, d] else none).bind capX
  | _ => none
def kindL : Nat → List Str
  | 0 => ["count", "value"]
  | 1 => ["set", "value"]
  | 2 => ["name", "value"]
  | 3 => ["number", "value"]
  | _ => ["nothing", "value"]
def F__law_kind : List D → Option R
  | [.exc n] => if n = 0 ∨ n = 1 ∨ n = 2 ∨ n = 3 ∨ n = 8 then some (.nw ((kindL n).map .str)) else none
  | _ => none
def F__law_made : List D → Option R
  | [d] => if (!isExcD d && !inB d 11) = true then some (.ok (.exc 0)) else none
  | _ => none
def turnI (s a b : Int) : Int := spotI ((membI s).map fun k => if k = a then b else if k = b then a else k)
def F__law_turned : List D → Option R
  | [.int s, .int a, .int b] => if (0 ≤ s ∧ s < 1024) ∧ (0 ≤ a ∧ a ≤ 10) ∧ 0 ≤ b ∧ b ≤ 10 then some (.ok (.int (turnI s a b))) else none
  | _ => none
def rowD (r : List Int) : D := .lst (r.map .int)
def rowsOf (ds : List D) : List (List Int) := ds.map toIs
/-- a book and the rows that stand behind it -/
inductive Bok : Bk → List (List Int) → Prop
  | base (m : Int) (A : List Int) : 0 ≤ m ∧ m ≤ 5 → A.length = 2 ^ m.toNat → Bok ⟨m, A, []⟩ [A]
  | put {β : Bk} {rows : List (List Int)} (i x : Int) : Bok β rows → 0 ≤ i ∧ i < 2 ^ β.many.toNat → Bok (putB β i x) (rows ++ [(putB β i x).nums])
  | swap {β : Bk} {rows : List (List Int)} (i j : Int) : Bok β rows → 0 ≤ i ∧ i < β.many → 0 ≤ j ∧ j < β.many → Bok (swapB β i j) (rows ++ [(swapB β i j).nums])
def F__law_behind : List D → Option R
  | [.lst ds, .str w, .int i, .int x] =>
    let A := ds.map toI
    let n := Nat.log2 A.length
    if ds.all isW = true ∧ A.length = 2 ^ n ∧ n ≤ 5 then
      (if w = "put" then (if 0 ≤ i ∧ i < 2 ^ n then some (.nw ((A.set i.toNat (A.getD i.toNat 0 + x)).map .int)) else none)
      else if w = "swap" ∧ (0 ≤ i ∧ i < (n : Nat)) ∧ 0 ≤ x ∧ x < (n : Nat) then some (.nw ((reoI n A (swO n i x)).map .int)) else none)
    else none
  | _ => none
def oddW (k : Int) : D := ([.non, .int (-1), .bl true, .str "0", .lst [.int 0], .int (10 ^ 20)] : List D).getD (k % 6).toNat .non
def wrongL (m k : Int) : List D :=
  if k / 6 % 3 = 0 then [.str "put", ([oddW k, .int (2 ^ m.toNat)] : List D).getD (k / 18 % 2).toNat .non, ([.int 5, .non] : List D).getD (k / 36 % 2).toNat .non, .str "set"]
  else if k / 6 % 3 = 1 then [.str "put", .int 0, ([.non, .bl true, .str "1", .lst [.int 1], .tup [.int 1]] : List D).getD (k / 18 % 5).toNat .non, .str "number"]
  else if k / 18 % 2 = 1 then [([.str "value", .str "under", .str "over"] : List D).getD (k / 36 % 3).toNat .non, ([oddW k, .int (2 ^ m.toNat)] : List D).getD (k / 108 % 2).toNat .non, .int 0, .str "set"]
  else [.str "swap", ([oddW k, .int m] : List D).getD (k / 36 % 2).toNat .non, ([.int 0, .non] : List D).getD (k / 72 % 2).toNat .non, .str "name"]
def F__law_wrong : List D → Option R
  | [.int m, .int k] => if (0 ≤ m ∧ m ≤ 5) ∧ 0 ≤ k then some (.ok (.tup (wrongL m k))) else none
  | _ => none
def wayS (n j : Int) : Int := (n + j * (1 + 2 * (n / 4 % 2))) % 4
def cntS (n : Int) : Nat := ((upI 0 4).filter fun j => decide (wayS n j = 3)).length
open Classical in
noncomputable def FM__law_seen : FM
  | [.bk b β, .rws r ds, .dat (.int n), .hld h ps] => if (ds = (rowsOf ds).map rowD ∧ Bok β (rowsOf ds)) ∧ 0 ≤ n ∧ ds.length ≤ 900 ∧ ps.length ≤ 80000 then
      some (.ok (.bl true), [.bk b β, .rws r ds, .dat (.int n), .hld h (ps ++ List.replicate (cntS n) (β.nums ++ [n], β.nums ++ [n]))]) else none
  | _ => none
def deedB (β : Bk) (rows : List (List Int)) (k g : Int) : Bk × List (List Int) :=
  if k % 7 = 6 then (β, rows)
  else if k % 7 = 5 ∨ (k % 7 = 4 ∧ β.many = 0) then (if rows.length = 1 then (β, rows) else ((undoB β).getD β, rows.dropLast))
  else if k % 7 = 4 then (let β' := swapB β (k / 7 % β.many) (k / 49 % β.many); (β', rows ++ [β'.nums]))
  else (let β' := putB β (k / 7 % 2 ^ β.many.toNat) (([g, 0 - g, k % 9, 0] : List Int).getD (k % 7).toNat 0); (β', rows ++ [β'.nums]))
open Classical in
noncomputable def FM__law_deed : FM
  | [.bk b β, .dat (.int m), .rws r ds, .dat (.int k), .dat (.int g)] => if (ds = (rowsOf ds).map rowD ∧ Bok β (rowsOf ds)) ∧ m = β.many ∧ 0 ≤ k ∧ ds.length ≤ 800 then
      some (.ok (.bl true), [.bk b (deedB β (rowsOf ds) k g).1, .dat (.int m), .rws r ((deedB β (rowsOf ds) k g).2.map rowD), .dat (.int k), .dat (.int g)]) else none
  | _ => none
/-! new books -/
def badB (d : D) : Bool := !isExcD d && !inB d 11
def zsB (m : Int) : List Int := List.replicate (2 ^ m.toNat) 0
def F_law : List D → Option R
  | [.scr ns] => if ns.length ≤ 63 then some (.ok (.bl true)) else none
  | _ => none
def g_check_number : Ds :=
  dIf (fNot (fTru (fA F_is_whole [fV 0]))) (dRaise 3) (dNext)
def g_parts : Ds :=
  dSeq (dExpr (fA F_check_set [fV 0, fC (.int 10)])) <|
  dRet (fLc (fItR (f2 oAdd (fV 0) (fC (.int 1)))) (.nm 1) (f2 oEq (f2 oAnd (fV 1) (fV 0)) (fV 1)) (fV 1) [1])
def g_put : Ds :=
  dSeq (dExpr (fA F_check_set [fV 1, f1 (oAttr "_many") (fV 0)])) <|
  dSeq (dExpr (fA F_check_number [fV 2])) <|
  dSeq (dBkAug 0 (fV 1) (fun a b => a + b) (fV 2)) <|
  dBkApp 0 (fA oTup [fC (.int 0), fV 1, fV 2])
def g_swap : Ds :=
  dSeq (dExpr (fA F_check_name [fV 1, f1 (oAttr "_many") (fV 0)])) <|
  dSeq (dExpr (fA F_check_name [fV 2, f1 (oAttr "_many") (fV 0)])) <|
  dSeq (dExprM (.mt 0 [.ex (fV 1), .ex (fV 2)] FM__exchange)) <|
  dBkApp 0 (fA oTup [fC (.int 1), fV 1, fV 2])
def g_undo : Ds :=
  dSeq (dIf (f2 oEq (fA oLen [f1 (oAttr "_done") (fV 0)]) (fC (.int 0))) (dRaise 8) (dNext)) <|
  dSeq (dBkPop 0 [1, 2, 3]) <|
  dIf (f2 oEq (fV 1) (fC (.int 0))) (dBkAug 0 (fV 2) (fun a b => a - b) (fV 3)) (dExprM (.mt 0 [.ex (fV 2), .ex (fV 3)] FM__exchange))
def g_value : Ds :=
  dSeq (dExpr (fA F_check_set [fV 1, f1 (oAttr "_many") (fV 0)])) <|
  dRet (f2 oIx (f1 (oAttr "_numbers") (fV 0)) (fV 1))
def g_under : Ds :=
  dSeq (dExpr (fA F_check_set [fV 1, f1 (oAttr "_many") (fV 0)])) <|
  dRet (fA oSum [fLc (fItL (fA F_parts [fV 1])) (.nm 2) fYes (f2 oIx (f1 (oAttr "_numbers") (fV 0)) (fV 2)) [2]])
def g_over : Ds :=
  dSeq (dExpr (fA F_check_set [fV 1, f1 (oAttr "_many") (fV 0)])) <|
  dRet (fA oSum [fLc (fItE (f1 (oAttr "_numbers") (fV 0))) (.tp [2, 3]) (f2 oEq (f2 oAnd (fV 1) (fV 2)) (fV 1)) (fV 3) [2, 3]])
def g_table : Ds :=
  dRet (fA oList [f1 (oAttr "_numbers") (fV 0)])
def g_many_done : Ds :=
  dRet (fA oLen [f1 (oAttr "_done") (fV 0)])
def g__exchange : Ds :=
  dSeq (dOwn 3 (f1 oRg (f1 (oAttr "_many") (fV 0)))) <|
  dSeq (dSet 3 (fV 1) (fV 2)) <|
  dSeq (dSet 3 (fV 2) (fV 1)) <|
  dBkSet 0 (fA F_reordered [f1 (oAttr "_numbers") (fV 0), fV 3])
def g__law_kind : Ds :=
  dSeq (dIf (f2 oIsN (fV 0) (fC (.non))) (dRet (fA oLst [fC (.str "none")])) (dNext)) <|
  dSeq (dAsg 1 (fA oLst [fA oTup [fC (.str "count"), f1 (oIsX (tabC raised 0)) (fV 0)], fA oTup [fC (.str "set"), f1 (oIsX (tabC raised 1)) (fV 0)]])) <|
  dSeq (dAsg 1 (f2 oAdd (fV 1) (fA oLst [fA oTup [fC (.str "name"), f1 (oIsX (tabC raised 2)) (fV 0)], fA oTup [fC (.str "number"), f1 (oIsX (tabC raised 3)) (fV 0)]]))) <|
  dSeq (dAsg 1 (f2 oAdd (fV 1) (fA oLst [fA oTup [fC (.str "order"), f1 (oIsX (tabC raised 4)) (fV 0)], fA oTup [fC (.str "table"), f1 (oIsX (tabC raised 5)) (fV 0)]]))) <|
  dSeq (dAsg 1 (f2 oAdd (fV 1) (fA oLst [fA oTup [fC (.str "unlike"), f1 (oIsX (tabC raised 6)) (fV 0)], fA oTup [fC (.str "cover"), f1 (oIsX (tabC raised 7)) (fV 0)]]))) <|
  dSeq (dAsg 1 (f2 oAdd (fV 1) (fA oLst [fA oTup [fC (.str "nothing"), f1 (oIsX (tabC raised 8)) (fV 0)], fA oTup [fC (.str "value"), f1 (oIsX (tabV raised)) (fV 0)]]))) <|
  dRet (fLc (fItL (fV 1)) (.tp [2, 3]) (fTru (fV 3)) (fV 2) [2, 3])
def g__law_turned : Ds :=
  dSeq (dAsg 3 (fA F__law_bits [fV 0])) <|
  dSeq (dAsg 4 (fLc (fItL (fV 3)) (.nm 5) fYes (fIf (f2 (oIn false) (fV 5) (fA oTup [fV 1, fV 2])) (f2 oIx (fA oLst [fV 1, fV 2]) (fA oInt [f2 oEq (fV 5) (fV 1)])) (fV 5)) [5])) <|
  dRet (fA oSum [fLc (fItL (fV 4)) (.nm 5) fYes (f2 oShl (fC (.int 1)) (fV 5)) [5]])
def g__law_behind : Ds :=
  dSeq (dOwn 4 (fA oList [fV 0])) <|
  dSeq (dIf (f2 oEq (fV 1) (fC (.str "put"))) (dSeq (dSet 4 (fV 2) (f2 oAdd (f2 oIx (fV 4) (fV 2)) (fV 3))) <|
  dRetO 4) (dNext)) <|
  dRet (fLc (fItR (fA oLen [fV 4])) (.nm 5) fYes (f2 oIx (fV 4) (fA F__law_turned [fV 5, fV 2, fV 3])) [5])
def g__law_caught : Ds :=
  dSeq (dAsg 4 (fC (.non))) <|
  dSeq (dAsg 5 (fC (.non))) <|
  dSeq (dTry 4 6 (dIf (f2 oEq (fV 1) (fC (.str "put"))) (dOrS (dAsgM 5 (.mt 0 [.ex (fV 2), .ex (fV 3)] FM_put)) (dAsg 5 (fMeth F_put (fV 0) [fV 2, fV 3]))) (dIf (f2 oEq (fV 1) (fC (.str "swap"))) (dOrS (dAsgM 5 (.mt 0 [.ex (fV 2), .ex (fV 3)] FM_swap)) (dAsg 5 (fMeth F_swap (fV 0) [fV 2, fV 3]))) (dIf (f2 oEq (fV 1) (fC (.str "undo"))) (dOrS (dAsgM 5 (.mt 0 [] FM_undo)) (dAsg 5 (fMeth F_undo (fV 0) []))) (dIf (f2 oEq (fV 1) (fC (.str "value"))) (dAsg 5 (fMeth F_value (fV 0) [fV 2])) (dIf (f2 oEq (fV 1) (fC (.str "under"))) (dAsg 5 (fMeth F_under (fV 0) [fV 2])) (dAsg 5 (fMeth F_over (fV 0) [fV 2])))))))) <|
  dRetM (fA oTup [fV 4, fV 5])
def g__law_made : Ds :=
  dSeq (dAsg 1 (fC (.non))) <|
  dSeq (dTry 1 2 (dExpr (fA (fBad badB) [fV 0]))) <|
  dRet (fV 1)
def g__law_seen : Ds :=
  dSeq (dRwIx 4 1 (f1 oNeg (fC (.int 1)))) <|
  dSeq (dAsg 5 (fA oLen [fV 4])) <|
  dSeq (dAsg 6 (f2 oMod (f2 oDiv (fV 2) (fC (.int 7))) (fV 5))) <|
  dSeq (dAsg 7 (fA oSum [fLc (fItR (fV 5)) (.nm 12) (f2 oEq (f2 oAnd (fV 12) (fV 6)) (fV 12)) (f2 oIx (fV 4) (fV 12)) [12]])) <|
  dSeq (dAsg 8 (fA oSum [fLc (fItR (fV 5)) (.nm 12) (f2 oEq (f2 oAnd (fV 12) (fV 6)) (fV 6)) (f2 oIx (fV 4) (fV 12)) [12]])) <|
  dSeq (dFor (fItR (fC (.int 4))) (.nm 9) (dSeq (dAsg 10 (f2 oMod (f2 oAdd (fV 2) (f2 oMul (fV 9) (f2 oAdd (fC (.int 1)) (f2 oMul (fC (.int 2)) (f2 oMod (f2 oDiv (fV 2) (fC (.int 4))) (fC (.int 2))))))) (fC (.int 4)))) <|
  dSeq (dIf (fAnd (f2 oEq (fV 10) (fC (.int 0))) (fOr (f2 oNe (fMeth F_value (fV 0) [fV 6]) (f2 oIx (fV 4) (fV 6))) (f2 oNe (fMeth F_under (fV 0) [fV 6]) (fV 7)))) (dRetM (fC (.bl false))) (dNext)) <|
  dSeq (dIf (fAnd (f2 oEq (fV 10) (fC (.int 1))) (fOr (f2 oNe (fMeth F_over (fV 0) [fV 6]) (fV 8)) (f2 oNe (fMeth F_many_done (fV 0) []) (f2 oSub (fA oLen [fV 1]) (fC (.int 1)))))) (dRetM (fC (.bl false))) (dNext)) <|
  dSeq (dIf (fAnd (f2 oEq (fV 10) (fC (.int 2))) (fOr (f2 oNe (fMeth F_under (fV 0) [fV 6]) (fV 7)) (f2 oNe (fMeth F_over (fV 0) [fV 6]) (fV 8)))) (dRetM (fC (.bl false))) (dNext)) <|
  dIf (f2 oEq (fV 10) (fC (.int 3))) (dSeq (dOwn 11 (fMeth F_table (fV 0) [])) <|
  dSeq (dIf (fNot (fTru (fA F__law_is_table [fV 11, fV 4]))) (dRetM (fC (.bl false))) (dNext)) <|
  dSeq (dApp 11 (fV 2)) <|
  dHldApp 3 11 (f2 oAdd (fV 4) (fA oLst [fV 2]))) (dNext))) <|
  dRetM (fC (.bl true))
def g__law_wrong : Ds :=
  dSeq (dAsg 2 (f2 oIx (fA oLst [fC (.non), f1 oNeg (fC (.int 1)), fC (.bl true), fC (.str "0"), fA oLst [fC (.int 0)], f2 oPow (fC (.int 10)) (fC (.int 20))]) (f2 oMod (fV 1) (fC (.int 6))))) <|
  dSeq (dIf (f2 oEq (f2 oMod (f2 oDiv (fV 1) (fC (.int 6))) (fC (.int 3))) (fC (.int 0))) (dRet (fA oTup [fC (.str "put"), f2 oIx (fA oLst [fV 2, f2 oShl (fC (.int 1)) (fV 0)]) (f2 oMod (f2 oDiv (fV 1) (fC (.int 18))) (fC (.int 2))), f2 oIx (fA oLst [fC (.int 5), fC (.non)]) (f2 oMod (f2 oDiv (fV 1) (fC (.int 36))) (fC (.int 2))), fC (.str "set")])) (dNext)) <|
  dSeq (dIf (f2 oEq (f2 oMod (f2 oDiv (fV 1) (fC (.int 6))) (fC (.int 3))) (fC (.int 1))) (dRet (fA oTup [fC (.str "put"), fC (.int 0), f2 oIx (fA oLst [fC (.non), fC (.bl true), fC (.str "1"), fA oLst [fC (.int 1)], fA oTup [fC (.int 1)]]) (f2 oMod (f2 oDiv (fV 1) (fC (.int 18))) (fC (.int 5))), fC (.str "number")])) (dNext)) <|
  dSeq (dIf (f2 oEq (f2 oMod (f2 oDiv (fV 1) (fC (.int 18))) (fC (.int 2))) (fC (.int 1))) (dRet (fA oTup [f2 oIx (fA oLst [fC (.str "value"), fC (.str "under"), fC (.str "over")]) (f2 oMod (f2 oDiv (fV 1) (fC (.int 36))) (fC (.int 3))), f2 oIx (fA oLst [fV 2, f2 oShl (fC (.int 1)) (fV 0)]) (f2 oMod (f2 oDiv (fV 1) (fC (.int 108))) (fC (.int 2))), fC (.int 0), fC (.str "set")])) (dNext)) <|
  dRet (fA oTup [fC (.str "swap"), f2 oIx (fA oLst [fV 2, fV 0]) (f2 oMod (f2 oDiv (fV 1) (fC (.int 36))) (fC (.int 2))), f2 oIx (fA oLst [fC (.int 0), fC (.non)]) (f2 oMod (f2 oDiv (fV 1) (fC (.int 72))) (fC (.int 2))), fC (.str "name")])
def g__law_deed : Ds :=
  dSeq (dAsg 5 (f2 oMod (fV 3) (fC (.int 7)))) <|
  dSeq (dIf (f2 oEq (fV 5) (fC (.int 6))) (dSeq (dAsgT (.tp [6, 7, 8, 9]) (fA F__law_wrong [fV 1, f2 oDiv (fV 3) (fC (.int 7))])) <|
  dRetM (f2 oEq (fA F__law_kind [f2 oIx (fA F__law_caught [fV 0, fV 6, fV 7, fV 8]) (fC (.int 0))]) (fA oLst [fV 9, fC (.str "value")]))) (dNext)) <|
  dSeq (dIf (fOr (f2 oEq (fV 5) (fC (.int 5))) (fAnd (f2 oEq (fV 5) (fC (.int 4))) (f2 oEq (fV 1) (fC (.int 0))))) (dSeq (dAsgTM [10, 11] (.fn [.sl 0, .ex (fC (.str "undo")), .ex (fC (.int 0)), .ex (fC (.int 0))] FM__law_caught)) <|
  dSeq (dIf (f2 oEq (fA oLen [fV 2]) (fC (.int 1))) (dRetM (f2 oEq (fA F__law_kind [fV 10]) (fA oLst [fC (.str "nothing"), fC (.str "value")]))) (dNext)) <|
  dSeq (dRwPop 2) <|
  dRetM (fAnd (f2 oIsN (fV 10) (fC (.non))) (f2 oIsN (fV 11) (fC (.non))))) (dNext)) <|
  dSeq (dIf (f2 oEq (fV 5) (fC (.int 4))) (dAsg 12 (fA oTup [fC (.str "swap"), f2 oMod (f2 oDiv (fV 3) (fC (.int 7))) (fV 1), f2 oMod (f2 oDiv (fV 3) (fC (.int 49))) (fV 1)])) (dAsg 12 (fA oTup [fC (.str "put"), f2 oMod (f2 oDiv (fV 3) (fC (.int 7))) (f2 oShl (fC (.int 1)) (fV 1)), f2 oIx (fA oLst [fV 4, f2 oSub (fC (.int 0)) (fV 4), f2 oMod (fV 3) (fC (.int 9)), fC (.int 0)]) (fV 5)]))) <|
  dSeq (dAsgTM [10, 11] (.fn [.sl 0, .ex (f2 oIx (fV 12) (fC (.int 0))), .ex (f2 oIx (fV 12) (fC (.int 1))), .ex (f2 oIx (fV 12) (fC (.int 2)))] FM__law_caught)) <|
  dSeq (dRwApp 2 (fA F__law_behind [f2 oIx (fV 2) (f1 oNeg (fC (.int 1))), f2 oIx (fV 12) (fC (.int 0)), f2 oIx (fV 12) (fC (.int 1)), f2 oIx (fV 12) (fC (.int 2))])) <|
  dRetM (fAnd (f2 oIsN (fV 10) (fC (.non))) (f2 oIsN (fV 11) (fC (.non))))
def g_law : Ds :=
  dSeq (dAsg 1 (fA oLst [f2 oMod (fA F__law_mixed [fV 0, fC (.int 0)]) (fC (.int 6)), f2 oMod (fA F__law_mixed [fV 0, fC (.int 1)]) (fC (.int 4))])) <|
  dSeq (dNewL 2 14 15 12 (fItL (fV 1)) (fun x => badB (.int x) = false) (fun x a => .bk a ⟨x, zsB x, []⟩)) <|
  dSeq (dNewL 3 16 17 12 (fItL (fV 1)) (fun x => 0 ≤ x ∧ x ≤ 5) (fun x a => .rws a [rowD (zsB x)])) <|
  dSeq (dOwn 4 (fA oLst [])) <|
  dHld0 4 <|
  dSeq (dAsg 5 (f2 oIx (fA oLst [f1 oNeg (fC (.int 1)), fC (.int 11), fC (.non), fC (.bl true), fC (.str "2"), fA oLst [fC (.int 2)], f2 oPow (fC (.int 10)) (fC (.int 20))]) (f2 oMod (f2 oDiv (fA F__law_mixed [fV 0, fC (.int 0)]) (fC (.int 6))) (fC (.int 7))))) <|
  dSeq (dIf (f2 oNe (fA F__law_kind [fA F__law_made [fV 5]]) (fA oLst [fC (.str "count"), fC (.str "value")])) (dRet (fC (.bl false))) (dNext)) <|
  dSeq (dFor (fItR (fA oMin [fA oLen [fV 0], fC (.int 60)])) (.nm 6) (dSeq (dAsg 7 (fA F__law_mixed [fV 0, f2 oAdd (fV 6) (fC (.int 2))])) <|
  dSeq (dAsg 8 (f2 oDiv (f2 oMod (fV 7) (fC (.int 5))) (fC (.int 4)))) <|
  dSeq (dAsg 9 (fA F__law_cell [fV 0, fV 6])) <|
  dSeq (dIfNV [.ix 2 (fV 8), .ex (f2 oIx (fV 1) (fV 8)), .ix 3 (fV 8), .ex (f2 oDiv (fV 7) (fC (.int 5))), .ex (fV 9)] FM__law_deed (dRet (fC (.bl false)))) <|
  dFor (fItT (fA oTup [fV 8, f2 oSub (fC (.int 1)) (fV 8)])) (.nm 10) (dIfNV [.ix 2 (fV 10), .ix 3 (fV 10), .ex (f2 oDiv (fV 7) (f2 oAdd (fC (.int 35)) (fV 10))), .sl 4] FM__law_seen (dRet (fC (.bl false)))))) <|
  dSeq (dFor (fItR (fC (.int 2))) (.nm 10) (dFor (fItR (fC (.int 4))) (.nm 11) (dIfNV [.ix 2 (fV 10), .ix 3 (fV 10), .ex (fV 11), .sl 4] FM__law_seen (dRet (fC (.bl false)))))) <|
  dRet (f2 oEq (fLc (fItL (fV 4)) (.nm 13) (f2 oNe (f2 oIx (fV 13) (fC (.int 0))) (f2 oIx (fV 13) (fC (.int 1)))) (fV 13) [13]) (fA oLst []))
theorem h__law_is_table : ∀ ds r, F__law_is_table ds = some r → g__law_is_table (endF r) (startS N__law_is_table ds) := fun ds r h => h0__law_is_table ds r h
theorem perm_of {n : Nat} {o : List Int} (h : permB n o = true) : o.length = n ∧ ∀ k : Nat, k < n → (k : Int) ∈ o := by
  unfold permB at h
  rw [Bool.and_eq_true, decide_eq_true_eq, List.all_eq_true] at h
  exact ⟨h.1, fun k hk => of_decide_eq_true (h.2 k (List.mem_range.mpr hk))⟩
theorem nat_range : ∀ (n : Nat) (o : List Int), o.length ≤ n → (∀ k : Nat, k < n → (k : Int) ∈ o) → ∀ x ∈ o, 0 ≤ x ∧ x < (n : Nat)
  | 0, o, hl, _, x, hx => by
    have e : o = [] := List.eq_nil_of_length_eq_zero (by omega)
    rw [e] at hx
    exact absurd hx List.not_mem_nil
  | n + 1, o, hl, hm, x, hx => by
    have hn := hm n (by omega)
    have hp := List.length_erase_of_mem hn
    by_cases c : x = (n : Nat)
    · subst c
      omega
    · have := nat_range n (o.erase (n : Nat)) (by omega) (fun k hk => (List.mem_erase_of_ne (by omega)).mpr (hm k (by omega))) x ((List.mem_erase_of_ne c).mpr hx)
      omega
theorem perm_range {n : Nat} {o : List Int} (h : permB n o = true) : ∀ x ∈ o, 0 ≤ x ∧ x < (n : Nat) := by
  obtain ⟨h1, h2⟩ := perm_of h
  exact nat_range n o (by omega) h2
theorem memb_lt : ∀ n, n < 7 → ∀ s : Nat, s < 2 ^ n → ∀ x ∈ membI (s : Int), 0 ≤ x ∧ x < (n : Nat) := by decide +kernel
theorem memb_len10 (i : Int) : (membI i).length ≤ 10 := by
  unfold membI
  exact Nat.le_trans (List.length_filter_le _ _) (by rw [upI_len]; exact Nat.le_refl _)
theorem spot_nn : ∀ L : List Int, 0 ≤ spotI L
  | [] => by
    show (0 : Int) ≤ 0
    decide
  | x :: L => by
    have ih := spot_nn L
    have : spotI (x :: L) = 2 ^ x.toNat + spotI L := by
      unfold spotI
      rw [List.map_cons, List.sum_cons]
    have p : (0 : Int) < 2 ^ x.toNat := Int.pow_pos (by decide)
    omega
theorem perm_sum {a b : List Int} (p : a.Perm b) : a.sum = b.sum := by
  induction p with
  | nil => rfl
  | cons x _ ih => rw [List.sum_cons, List.sum_cons, ih]
  | swap x y l =>
    simp only [List.sum_cons]
    omega
  | trans _ _ h1 h2 => rw [h1, h2]
/-- sets told through an order stay sets of so many names -/
theorem spot_sum {n : Nat} : ∀ (L : List Int), L.Nodup → (∀ x ∈ L, 0 ≤ x ∧ x < (n : Nat)) → spotI L < ((2 ^ n : Nat) : Int) := by
  induction n with
  | zero =>
    intro L _ h
    cases L with
    | nil => show (0 : Int) < 1; decide
    | cons x L =>
      have := h x List.mem_cons_self
      omega
  | succ n ih =>
    intro L nd h
    by_cases c : (n : Int) ∈ L
    · have e : spotI L = 2 ^ n + spotI (L.erase (n : Nat)) := by
        have p := List.perm_cons_erase c
        have := perm_sum (p.map fun x => (2 : Int) ^ x.toNat)
        unfold spotI
        rw [this, List.map_cons, List.sum_cons, Int.toNat_natCast]
      have := ih (L.erase (n : Nat)) (nd.erase _) fun x hx => by
        have h1 := h x (List.mem_of_mem_erase hx)
        have h2 : x ≠ (n : Nat) := fun z => by
          rw [z] at hx
          exact (List.Nodup.not_mem_erase nd) hx
        omega
      rw [e, Nat.pow_succ]
      have q : ((2 ^ n : Nat) : Int) = (2 : Int) ^ n := Int.natCast_pow 2 n
      omega
    · have := ih L nd fun x hx => by
        have h1 := h x hx
        have h2 : x ≠ (n : Nat) := fun z => c (z ▸ hx)
        omega
      rw [Nat.pow_succ]
      omega
theorem memb_nodup (s : Int) : (membI s).Nodup := by
  unfold membI upI
  exact List.Pairwise.filter _ (List.pairwise_map.mpr (List.nodup_range.imp fun h z => h (by omega)))
theorem nodup_of : ∀ (n : Nat) (o : List Int), o.length ≤ n → (∀ k : Nat, k < n → (k : Int) ∈ o) → o.Nodup
  | 0, o, hl, _ => by
    have e : o = [] := List.eq_nil_of_length_eq_zero (by omega)
    rw [e]
    exact List.nodup_nil
  | n + 1, o, hl, hm => by
    have hn := hm n (by omega)
    have hp := List.length_erase_of_mem hn
    have hk : ∀ k : Nat, k < n → (k : Int) ∈ o.erase (n : Nat) := fun k hk => (List.mem_erase_of_ne (by omega)).mpr (hm k (by omega))
    refine (List.perm_cons_erase hn).nodup_iff.mpr (List.nodup_cons.mpr ⟨fun z => ?_, nodup_of n _ (by omega) hk⟩)
    have := nat_range n _ (by omega) hk _ z
    omega
theorem perm_nodup {n : Nat} {o : List Int} (h : permB n o = true) : o.Nodup := by
  obtain ⟨h1, h2⟩ := perm_of h
  exact nodup_of n o (by omega) h2
theorem getD_at {o : List Int} {i : Nat} (h : i < o.length) : o.getD i 0 = o[i] := by
  rw [List.getD_eq_getElem?_getD, List.getElem?_eq_getElem h] <;> rfl
theorem told_nodup {n s : Nat} {o : List Int} (hn : n < 7) (hs : s < 2 ^ n) (h : permB n o = true) : ((membI (s : Int)).map fun k => o.getD k.toNat 0).Nodup := by
  have nd := perm_nodup h
  have ln := (perm_of h).1
  refine List.pairwise_map.mpr ((memb_nodup _).imp_of_mem fun {a b} ha hb hne z => ?_)
  have h1 := memb_lt n hn s hs a ha
  have h2 := memb_lt n hn s hs b hb
  rw [getD_at (by omega), getD_at (by omega)] at z
  have := (List.getElem_inj nd).mp z
  omega
theorem told_range {n s : Nat} {o : List Int} (hn : n < 7) (hs : s < 2 ^ n) (h : permB n o = true) : ∀ x ∈ (membI (s : Int)).map (fun k => o.getD k.toNat 0), 0 ≤ x ∧ x < (n : Nat) := fun x hx => by
  obtain ⟨k, hk, rfl⟩ := List.mem_map.mp hx
  have h1 := memb_lt n hn s hs k hk
  have ln := (perm_of h).1
  refine perm_range h _ ?_
  rw [getD_at (by omega)]
  exact List.getElem_mem _
theorem spotN_lt {n s : Nat} {o : List Int} (hn : n < 7) (hs : s < 2 ^ n) (h : permB n o = true) : spotN o s < 2 ^ n := by
  have := spot_sum _ (told_nodup hn hs h) (told_range hn hs h)
  have := spot_nn ((membI (s : Int)).map fun k => o.getD k.toNat 0)
  unfold spotN
  omega
theorem spotN_int {o : List Int} {s : Nat} : spotI ((membI (s : Int)).map fun k => o.getD k.toNat 0) = (spotN o s : Nat) := by
  have := spot_nn ((membI (s : Int)).map fun k => o.getD k.toNat 0)
  unfold spotN
  omega
theorem tabL_succ {i : Nat} {f : Nat → Int} : (List.range (i + 1)).map f = (List.range i).map f ++ [f i] := by
  rw [List.range_succ, List.map_append] <;> rfl
theorem reo_ok {n : Nat} {A o : List Int} (hn : n ≤ 5) (la : A.length = 2 ^ n) (h : permB n o = true) : F_reordered [.lst (A.map .int), .lst (o.map .int)] = some (.nw ((reoI n A o).map .int)) := by
  have p : 2 ^ n ≤ 2 ^ 5 := Nat.pow_le_pow_right (by decide) hn
  have el : ∀ A : List Int, (listD (.lst (A.map .int))).length = A.length := fun A => by
    show (A.map D.int).length = _
    rw [List.length_map]
  have ht : tabD (.lst (A.map .int)) = true := by rw [ints_tabD, la]; exact tlenP (by omega)
  have ho : ordD n (.lst (o.map .int)) = true := by
    show ((o.map D.int).all isW && permB n ((o.map D.int).map toI)) = true
    have e : (o.map D.int).map toI = o := toI_map o
    rw [e, h, Bool.and_true, List.all_eq_true]
    intro x hx
    obtain ⟨k, _, rfl⟩ := List.mem_map.mp hx
    rfl
  have ea : toIs (.lst (A.map .int)) = A := toI_map A
  have eo : toIs (.lst (o.map .int)) = o := toI_map o
  show (if okT _ = true ∧ okT _ = true then (if tabD _ = true then (if ordD (Nat.log2 (listD (.lst (A.map .int))).length) _ = true then (if Nat.log2 (listD (.lst (A.map .int))).length ≤ 5 then some (R.nw ((reoI (Nat.log2 (listD (.lst (A.map .int))).length) (toIs (.lst (A.map .int))) (toIs (.lst (o.map .int)))).map .int)) else none) else some (.ex 4)) else some (.ex 5)) else none) = _
  rw [el, la, log_pow, ea, eo, if_pos ⟨ints_okT (by omega), ints_okT (by rw [(perm_of h).1]; omega)⟩, if_pos ht, if_pos ho, if_pos hn]
theorem in_bit : ∀ m : Nat, m < 6 → ∀ s : Nat, s < 64 → decide ((m : Int) ∈ membI (s : Int)) = s.testBit m := by decide +kernel
theorem del_lt : ∀ n, n < 6 → ∀ m, m < n + 1 → ∀ s, s < 2 ^ (n + 1) → delN m s < 2 ^ n := by decide +kernel
theorem ins_1 : ∀ n, n < 6 → ∀ m, m < n + 1 → ∀ s, s < 2 ^ n → insN m s + 2 ^ m < 2 ^ (n + 1) := by decide +kernel
theorem ins_2 : ∀ m, m < 6 → ∀ s, s < 32 → ((insN m s).testBit m = false ∧ delN m (insN m s) = s) := by decide +kernel
theorem ins_3 : ∀ m, m < 6 → ∀ s, s < 32 → ((insN m s + 2 ^ m).testBit m = true ∧ delN m (insN m s + 2 ^ m) = s) := by decide +kernel
theorem ins_all (n : Nat) (hn : n < 6) (m : Nat) (hm : m < n + 1) (s : Nat) (hs : s < 2 ^ n) : (insN m s < 2 ^ (n + 1) ∧ (insN m s).testBit m = false ∧ delN m (insN m s) = s) ∧ insN m s + 2 ^ m < 2 ^ (n + 1) ∧ (insN m s + 2 ^ m).testBit m = true ∧ delN m (insN m s + 2 ^ m) = s := by
  have p : 2 ^ n ≤ 2 ^ 5 := Nat.pow_le_pow_right (by decide) (by omega)
  have h1 := ins_1 n hn m hm s hs
  have h2 := ins_2 m (by omega) s (by omega)
  have h3 := ins_3 m (by omega) s (by omega)
  exact ⟨⟨Nat.lt_of_le_of_lt (Nat.le_add_right _ _) h1, h2⟩, h1, h3⟩
theorem wo_with {n m : Nat} {A B : List Int} (hn : n ≤ 5) (hm : m ≤ n) (la : A.length = 2 ^ n) : woI (n + 1) m (withI n m A B) = A := by
  unfold woI
  rw [Nat.add_sub_cancel]
  refine Eq.trans (tabL_congr fun s hs => ?_) (tabL_of la)
  obtain ⟨⟨h1, h2, h3⟩, _⟩ := ins_all n (by omega) m (by omega) s hs
  unfold withI
  rw [tabL_getD h1, if_neg (by rw [h2]; exact Bool.false_ne_true), h3]
theorem ho_with {n m : Nat} {A B : List Int} (hn : n ≤ 5) (hm : m ≤ n) (lb : B.length = 2 ^ n) : hoI (n + 1) m (withI n m A B) = B := by
  unfold hoI
  rw [Nat.add_sub_cancel]
  refine Eq.trans (tabL_congr fun s hs => ?_) (tabL_of lb)
  obtain ⟨_, h1, h2, h3⟩ := ins_all n (by omega) m (by omega) s hs
  unfold withI
  rw [tabL_getD h1, if_pos h2, h3]
theorem ints_len (A : List Int) : (listD (.lst (A.map .int))).length = A.length := by
  show (A.map D.int).length = _
  rw [List.length_map]
theorem with_ok {n m : Nat} {A B : List Int} (hn : n ≤ 5) (hm : m ≤ n) (la : A.length = 2 ^ n) (lb : B.length = 2 ^ n) : F_with_name [.lst (A.map .int), .lst (B.map .int), .int (m : Nat)] = some (.nw ((withI n m A B).map .int)) := by
  have p : 2 ^ n ≤ 2 ^ 5 := Nat.pow_le_pow_right (by decide) hn
  have ea : toIs (.lst (A.map .int)) = A := toI_map A
  have eb : toIs (.lst (B.map .int)) = B := toI_map B
  show (if (okT _ = true ∧ okT _ = true) ∧ isExcD (.int (m : Nat)) = false then (match chk2 _ _ with
    | .ok _ => if Nat.log2 (listD (.lst (A.map .int))).length = 10 then some (R.ex 0) else if inB (.int (m : Nat)) ((Nat.log2 (listD (.lst (A.map .int))).length : Nat) + 1) = true then (if Nat.log2 (listD (.lst (A.map .int))).length ≤ 5 then some (.nw ((withI (Nat.log2 (listD (.lst (A.map .int))).length) ((m : Int)).toNat (toIs (.lst (A.map .int))) (toIs (.lst (B.map .int)))).map .int)) else none) else some (.ex 2)
    | x => some x) else none) = _
  rw [if_pos ⟨⟨ints_okT (by omega), ints_okT (by omega)⟩, rfl⟩, chk2_ints (by rw [la]; exact tlenP (by omega)) (by rw [lb]; exact tlenP (by omega)), if_pos (by rw [la, lb]), ints_len, la, log_pow, ea, eb, Int.toNat_natCast]
  dsimp only
  rw [if_neg (by omega), if_pos (inB_ok ⟨by omega, by omega⟩), if_pos hn]
theorem parted_ok {n m : Nat} {W : List Int} (hn : n ≤ 6) (hm : m < n) (lw : W.length = 2 ^ n) : F_parted [.lst (W.map .int), .int (m : Nat)] = some (.nn true [.own ((woI n m W).map .int), .own ((hoI n m W).map .int)]) := by
  have p : 2 ^ n ≤ 2 ^ 6 := Nat.pow_le_pow_right (by decide) hn
  have ew : toIs (.lst (W.map .int)) = W := toI_map W
  have ht : tabD (.lst (W.map .int)) = true := by rw [ints_tabD, lw]; exact tlenP (by omega)
  show (if okT _ = true ∧ isExcD (.int (m : Nat)) = false then (if tabD _ = true then (if inB (.int (m : Nat)) (Nat.log2 (listD (.lst (W.map .int))).length : Nat) = true then (if Nat.log2 (listD (.lst (W.map .int))).length ≤ 6 then some (R.nn true [.own ((woI (Nat.log2 (listD (.lst (W.map .int))).length) ((m : Int)).toNat (toIs (.lst (W.map .int)))).map .int), .own ((hoI (Nat.log2 (listD (.lst (W.map .int))).length) ((m : Int)).toNat (toIs (.lst (W.map .int)))).map .int)]) else none) else some (.ex 2)) else some (.ex 5)) else none) = _
  rw [if_pos ⟨ints_okT (by omega), rfl⟩, if_pos ht, ints_len, lw, log_pow, ew, Int.toNat_natCast, if_pos (inB_ok ⟨by omega, by omega⟩), if_pos hn]
/-! ### names in another order: bits -/
theorem spot_bit : ∀ L : List Int, L.Nodup → (∀ x ∈ L, 0 ≤ x) → ∀ j : Nat, (spotI L).toNat.testBit j = decide ((j : Int) ∈ L)
  | [], _, _, j => by
    show (0 : Nat).testBit j = _
    rw [Nat.zero_testBit]
    exact (decide_eq_false List.not_mem_nil).symm
  | x :: L, nd, h, j => by
    obtain ⟨n1, n2⟩ := List.nodup_cons.mp nd
    have ih := spot_bit L n2 fun y hy => h y (List.mem_cons_of_mem _ hy)
    have x0 := h x List.mem_cons_self
    obtain ⟨k, rfl⟩ := Int.eq_ofNat_of_zero_le x0
    have e : (spotI ((k : Int) :: L)).toNat = (spotI L).toNat + 2 ^ k := by
      have h1 : spotI ((k : Int) :: L) = 2 ^ k + spotI L := by
        unfold spotI
        rw [List.map_cons, List.sum_cons, Int.toNat_natCast]
      have h2 := spot_nn L
      have h3 : ((2 ^ k : Nat) : Int) = (2 : Int) ^ k := Int.natCast_pow 2 k
      have p0 := Nat.two_pow_pos k
      omega
    have b0 : (spotI L).toNat.testBit k = false := by
      rw [ih k]
      exact decide_eq_false n1
    rw [e, ← orN_bit b0, Nat.testBit_or, Nat.testBit_two_pow, ih j]
    by_cases c : k = j
    · subst c
      rw [decide_eq_true rfl, Bool.or_true]
      exact (decide_eq_true List.mem_cons_self).symm
    · rw [decide_eq_false c, Bool.or_false, decide_eq_decide]
      constructor
      · exact List.mem_cons_of_mem _
      · intro m
        rcases List.mem_cons.mp m with z | m
        · omega
        · exact m
theorem ren_of {n : Nat} {o : List Int} (hn : n < 6) (h : permB n o = true) : Ren n (fun k => (o.getD k 0).toNat) (spotN o) := by
  obtain ⟨lo, hm⟩ := perm_of h
  have rg := perm_range h
  have nd := perm_nodup h
  refine ⟨fun b hb => ?_, fun s hs => spotN_lt (by omega) hs h, fun s hs k hk => ?_⟩
  · obtain ⟨i, hi, e⟩ := List.mem_iff_getElem.mp (hm b hb)
    exact ⟨i, by omega, by rw [getD_at hi, e, Int.toNat_natCast]⟩
  · have p : 2 ^ n ≤ 2 ^ 5 := Nat.pow_le_pow_right (by decide) (by omega)
    have r0 := rg _ (List.getElem_mem (l := o) (n := k) (by omega))
    unfold spotN
    rw [spot_bit _ (told_nodup (by omega) hs h) (fun x hx => (told_range (by omega) hs h x hx).1), ← in_bit k (by omega) s (by omega), decide_eq_decide, getD_at (by omega), Int.toNat_of_nonneg r0.1]
    constructor
    · intro m
      obtain ⟨x, hx, e⟩ := List.mem_map.mp m
      have h1 := memb_lt n (by omega) s hs x hx
      rw [getD_at (by omega)] at e
      have := (List.getElem_inj nd).mp e
      rw [show (k : Int) = x by omega]
      exact hx
    · intro m
      refine List.mem_map.mpr ⟨k, m, ?_⟩
      rw [Int.toNat_natCast, getD_at (by omega)]
def skN (m k : Nat) : Nat := if k < m then k else k + 1
theorem ins_cov : ∀ n, n < 6 → ∀ m, m < n + 1 → ∀ u, u < 2 ^ (n + 1) → (u = insN m (delN m u) ∨ u = insN m (delN m u) + 2 ^ m) := by decide +kernel
theorem ins_bit : ∀ m, m < 6 → ∀ s, s < 32 → ∀ k, k < 5 → ((insN m s).testBit (skN m k) = s.testBit k ∧ (insN m s + 2 ^ m).testBit (skN m k) = s.testBit k) := by decide +kernel
theorem ins_of {n m : Nat} (hn : n < 6) (hm : m ≤ n) : Ins n m (insN m) (skN m) := by
  have p : 2 ^ n ≤ 2 ^ 5 := Nat.pow_le_pow_right (by decide) (by omega)
  refine ⟨hm, fun s hs => (ins_all n hn m (by omega) s hs).2.1, fun u hu => ⟨delN m u, del_lt n hn m (by omega) u hu, ins_cov n hn m (by omega) u hu⟩, fun k hk => ?_, fun j hj => ?_, fun s hs k hk => ins_bit m (by omega) s (by omega) k (by omega), fun s hs => ⟨(ins_all n hn m (by omega) s hs).1.2.1, (ins_all n hn m (by omega) s hs).2.2.1⟩⟩
  · unfold skN
    split <;> omega
  · by_cases c : j = m
    · exact .inl c
    · by_cases d : j < m
      · refine .inr ⟨j, by omega, ?_⟩
        unfold skN
        rw [if_pos d]
      · refine .inr ⟨j - 1, by omega, ?_⟩
        unfold skN
        rw [if_neg (by omega)]
        omega
theorem chk_ten (d : D) (hd : isExcD d = false) : F_check_set [d, .int 10] = some (if inB d 1024 then .ok .non else .ex 1) := by
  show (if isExcD d = true ∨ ¬ ((0 : Int) ≤ 10 ∧ (10 : Int) ≤ 10) then none else some (if inB d (2 ^ (10 : Int).toNat) then R.ok .non else .ex 1)) = _
  rw [if_neg (by rw [hd]; decide)]
  rfl
theorem len_parts : ∀ ds r, F_parts ds = some r → ds.length = 1 := by
  intro ds r h
  unfold F_parts at h
  split at h
  · rfl
  · cases h
theorem h_parts : ∀ ds r, F_parts ds = some r → g_parts (endF r) (startS N_parts ds) := by
  intro ds r h
  unfold F_parts at h
  split at h
  · rename_i d
    split at h
    · cases h
    · rename_i hc
      cases h
      have hd : isExcD d = false := by simpa using hc
      refine ⟨_, chk_ten d hd, ?_⟩
      cases hb : inB d 1024 with
      | false => exact rfl
      | true =>
        obtain ⟨i, rfl, h0, h1⟩ := inB_int hb
        refine ⟨.nw ((partsI i).map .int), ?_, .inl rfl⟩
        refine fLc_ok (fItR_ok (n := i + 1) rfl (by omega) (by omega)) (by rw [List.length_map, upI_len]; omega) ?_
        rw [lcR_ints (fun k => decide (Builtin.bitAnd k i = k)) id]
        · simp only [List.map_id] <;> rfl
        · intro n hn
          exact oEq_int _ _
        · intro n hn _
          exact ⟨_, rfl, rfl⟩
  · cases h
theorem parts_ok {i : Int} (h : 0 ≤ i ∧ i < 1024) : F_parts [.int i] = some (.nw ((partsI i).map .int)) := by
  show some (if inB (.int i) 1024 = true then R.nw ((partsI i).map .int) else .ex 1) = _
  rw [inB_ok h] <;> rfl
def g_check_name : Ds :=
  dIf (fNot (fTru (fA F_is_whole_below [fV 0, fV 1]))) (dRaise 2) (dNext)
def g_check_order : Ds :=
  dSeq (dIf (fOr (fNot (fTru (f1 (oIsTy "list") (fV 0)))) (f2 oNe (fA oLen [fV 0]) (fV 1))) (dRaise 4) (dNext)) <|
  dSeq (dFor (fItL (fV 0)) (.nm 2) (dIf (fNot (fTru (fA F_is_whole_below [fV 2, fV 1]))) (dRaise 4) (dNext))) <|
  dIf (f2 oNe (fA oSorted [fV 0]) (f1 oRg (fV 1))) (dRaise 4) (dNext)
def g_reordered : Ds :=
  dSeq (dExpr (fA F_check_order [fV 1, fA F_names_of [fV 0]])) <|
  dSeq (dAsg 2 (fA oLst [fC (.int 0)])) <|
  dSeq (dFor (fItL (fV 1)) (.nm 3) (dAsg 2 (f2 oAdd (fV 2) (fLc (fItL (fV 2)) (.nm 4) fYes (f2 oOr (fV 4) (f2 oShl (fC (.int 1)) (fV 3))) [4])))) <|
  dRet (fLc (fItL (fV 2)) (.nm 4) fYes (f2 oIx (fV 0) (fV 4)) [4])
theorem len_check_name : ∀ ds r, F_check_name ds = some r → ds.length = 2 := by
  intro ds r h
  unfold F_check_name at h
  split at h
  · rfl
  · cases h
theorem h_check_name : ∀ ds r, F_check_name ds = some r → g_check_name (endF r) (startS N_check_name ds) := by
  intro ds r h
  unfold F_check_name at h
  split at h
  · rename_i d m
    split at h
    · cases h
    · rename_i hc
      cases h
      have hd : isExcD d = false := by simpa using hc
      refine ⟨.ok (.bl (!inB d m)), fNot_ok (fTru_ok (fA_2 rfl rfl rfl rfl (below_any d m hd))), ?_⟩
      cases inB d m with
      | true => exact .inl rfl
      | false => exact rfl
  · cases h
theorem cn_ok {d : D} {m : Int} (h : isExcD d = false) : F_check_name [d, .int m] = some (if inB d m then .ok .non else .ex 2) := by
  show (if isExcD d = true then none else some (if inB d m then R.ok .non else .ex 2)) = _
  rw [h] <;> rfl
theorem len_check_order : ∀ ds r, F_check_order ds = some r → ds.length = 2 := by
  intro ds r h
  unfold F_check_order at h
  split at h
  · rfl
  · cases h
theorem srt_perm {n : Nat} {o : List Int} (hl : o.length = n) : srtI o = upI 0 n ↔ permB n o = true := by
  constructor
  · intro e
    unfold permB
    rw [decide_eq_true hl, Bool.true_and, List.all_eq_true]
    intro k hk
    refine decide_eq_true ((srtI_perm o).mem_iff.mp ?_)
    rw [e]
    exact mem_upI.mpr ⟨by omega, by have := List.mem_range.mp hk; omega⟩
  · intro h
    have nd := perm_nodup h
    have nu : (upI 0 n).Nodup := by
      unfold upI
      exact List.pairwise_map.mpr (List.nodup_range.imp fun h z => h (by omega))
    have pm : o.Perm (upI 0 n) := (List.perm_ext_iff_of_nodup nd nu).mpr fun x => by
      constructor
      · intro hx
        have := perm_range h x hx
        exact mem_upI.mpr ⟨this.1, by omega⟩
      · intro hx
        obtain ⟨h1, h2⟩ := mem_upI.mp hx
        have := (perm_of h).2 x.toNat (by omega)
        rwa [Int.toNat_of_nonneg h1] at this
    exact sorted_uniq ((srtI_perm o).trans pm) (srtI_sorted o) ((upI_rise n).imp fun h => Int.le_of_lt h)
theorem co_walk {l : D} {n : Int} {r : R} : ∀ (ds : List D) (s : Sl), ds.any isExcD = false → ((∀ x ∈ ds, inB x n = true) → ∀ s2, (dIf (f2 oNe (fA oSorted [fV 0]) (f1 oRg (fV 1))) (dRaise 4) (dNext)) (endF r) [.dat l, .dat (.int n), s2]) → ((∃ x ∈ ds, inB x n = false) → r = .ex 4) →
    forW (.nm 2) (dIf (fNot (fTru (fA F_is_whole_below [fV 2, fV 1]))) (dRaise 4) (dNext)) { endF r with nx := (dIf (f2 oNe (fA oSorted [fV 0]) (f1 oRg (fV 1))) (dRaise 4) (dNext)) (endF r) } ds [.dat l, .dat (.int n), s]
  | [], s, _, hg, _ => hg (fun _ m => absurd m List.not_mem_nil) s
  | d :: ds, s, hn, hg, hb => by
    rw [List.any_cons, Bool.or_eq_false_iff] at hn
    refine ⟨[d], rfl, .ok (.bl (!inB d n)), fNot_ok (fTru_ok (fA_2 rfl rfl rfl rfl (below_any d n hn.1))), ?_⟩
    cases hw : inB d n with
    | false => exact hb ⟨d, List.mem_cons_self, hw⟩
    | true =>
      exact co_walk ds (.dat d) hn.2 (fun h => hg fun x hx => by
        rcases List.mem_cons.mp hx with rfl | hx
        · exact hw
        · exact h x hx) fun ⟨x, hx, q⟩ => hb ⟨x, List.mem_cons_of_mem _ hx, q⟩
theorem inb_all {ds : List D} {n : Nat} (h : ds.all isW = true ∧ permB n (ds.map toI) = true) : ∀ x ∈ ds, inB x (n : Int) = true := fun x hx => by
  have w := List.all_eq_true.mp h.1 x hx
  cases x <;> first | (cases w; done) | skip
  rename_i i
  exact inB_ok (perm_range h.2 i (List.mem_map.mpr ⟨.int i, hx, rfl⟩))
theorem h_check_order : ∀ ds r, F_check_order ds = some r → g_check_order (endF r) (startS N_check_order ds) := by
  intro ds r h
  unfold F_check_order at h
  split at h
  · rename_i d n
    split at h
    · rename_i hc
      obtain ⟨ho, n0, n1⟩ := hc
      cases h
      cases d with
      | lst ds =>
        have ho : (decide (ds.length ≤ 90000) && !ds.any isExcD) = true := ho
        rw [Bool.and_eq_true, Bool.not_eq_true', decide_eq_true_eq] at ho
        refine ⟨.ok (.bl (!decide (((ds.length : Nat) : Int) = n))), fOr_f rfl (f2_ok (fA_1 rfl rfl rfl) rfl rfl rfl (oNe_int _ _)), ?_⟩
        by_cases hl : ((ds.length : Nat) : Int) = n
        · rw [decide_eq_true hl]
          have hn : n = (n.toNat : Nat) := (Int.toNat_of_nonneg n0).symm
          refine ⟨.it ds false, .inl rfl, co_walk ds .un ho.2 (fun hall s2 => ?_) fun ⟨x, hx, q⟩ => ?_⟩
          · have e : ds = (ds.map toI).map .int := by
              rw [List.map_map]
              conv => lhs; rw [← List.map_id ds]
              refine List.map_congr_left fun x hx => ?_
              obtain ⟨i, rfl, _⟩ := inB_int (hall x hx)
              rfl
            have eo : ordD n.toNat (.lst ds) = permB n.toNat (ds.map toI) := by
              show (ds.all isW && permB n.toNat (ds.map toI)) = _
              rw [show ds.all isW = true from List.all_eq_true.mpr fun x hx => by obtain ⟨i, rfl, _⟩ := inB_int (hall x hx); rfl, Bool.true_and]
            rw [eo]
            generalize ds.map toI = o at e
            subst e
            have ho' : o.length = n.toNat := by rw [List.length_map] at hl; omega
            refine ⟨.ok (.bl (!decide (srtI o = upI 0 n.toNat))), ?_, ?_⟩
            · refine f2_ok (rx := .nw ((srtI o).map .int)) (fA_1 rfl rfl ?_) rfl (ry := .nw (rngD 0 n.toNat)) (f1_ok rfl rfl (if_pos ⟨by omega, by omega⟩)) rfl ?_
              · show (toInts (o.map .int)).map (fun ns => R.nw ((srtI ns).map .int)) = _
                rw [toInts_map] <;> rfl
              · rw [rngD_ints]
                exact oNe_ints _ _
            · by_cases c : permB n.toNat o = true
              · rw [decide_eq_true ((srt_perm ho').mpr c), c]
                exact .inl rfl
              · rw [decide_eq_false (fun z => c ((srt_perm ho').mp z)), if_neg c]
                exact rfl
          · refine if_neg fun z => ?_
            have z : (ds.all isW && permB n.toNat (ds.map toI)) = true := z
            rw [Bool.and_eq_true] at z
            have := inb_all z x hx
            rw [← hn] at this
            rw [this] at q
            cases q
        · rw [decide_eq_false hl]
          refine if_neg fun z => hl ?_
          have z : (ds.all isW && permB n.toNat (ds.map toI)) = true := z
          rw [Bool.and_eq_true] at z
          have := (perm_of z.2).1
          rw [List.length_map] at this
          omega
      | scr ns => cases ho
      | fn k => cases ho
      | rng n => cases ho
      | ins ns ds => cases ho
      | exc n => cases ho
      | non => exact ⟨.ok (.bl true), rfl, rfl⟩
      | bl b => exact ⟨.ok (.bl true), rfl, rfl⟩
      | int i => exact ⟨.ok (.bl true), rfl, rfl⟩
      | str x => exact ⟨.ok (.bl true), rfl, rfl⟩
      | tup ds => exact ⟨.ok (.bl true), rfl, rfl⟩
      | emp => exact ⟨.ok (.bl true), rfl, rfl⟩
    · cases h
  · cases h
theorem co_ok {o : D} {n : Nat} (h : okT o = true) (hn : n ≤ 10) : F_check_order [o, .int (n : Nat)] = some (if ordD n o = true then .ok .non else .ex 4) := by
  show (if okT o = true ∧ (0 : Int) ≤ (n : Nat) ∧ ((n : Nat) : Int) ≤ 10 then some (if ordD ((n : Nat) : Int).toNat o = true then R.ok .non else .ex 4) else none) = _
  rw [if_pos ⟨h, by omega, by omega⟩, Int.toNat_natCast]
theorem no_ok {d : D} (h : okT d = true) : F_names_of [d] = some (if tabD d then .ok (.int ((Nat.log2 (listD d).length : Nat) : Int)) else .ex 5) := by
  refine (if_pos h).trans ?_
  cases hd : tabD d with
  | false => rfl
  | true =>
    obtain ⟨ns, rfl, ht⟩ := tab_lst hd
    obtain ⟨n, hn, hl, e⟩ := tlen_log ht
    have el : (listD (.lst (ns.map .int))).length = ns.length := ints_len ns
    rw [el, e, hl]
    have all : ∀ n, n < 11 → ((Builtin.Int.intBits ((2 ^ n : Nat) : Int) : Int) - 1) = (n : Nat) := by decide +kernel
    rw [all n (by omega)]
theorem fA_2x {op : List D → Option R} {f g : Fx} {ε : En} {rx : R} {x : D} {n : Nat} (hf : f ε = some rx) (ex : rx.val = some x) (hg : g ε = some (.ex n)) : fA op [f, g] ε = some (.ex n) := by
  unfold fA argsV argsV
  rw [hf, hg]
  cases rx <;> first | (cases ex; done) | rfl
/-! reordered -/
def plcI (o : List Int) (k : Nat) : List Int := (List.range (2 ^ k)).map fun s => ((spotN o s : Nat) : Int)
theorem plc_or {n k : Nat} {o : List Int} (hn : n < 6) (hk : k < n) (h : permB n o = true) {s : Nat} (hs : s < 2 ^ k) : spotN o s ||| 2 ^ (o.getD k 0).toNat = spotN o (2 ^ k + s) := by
  have R := ren_of hn h
  have pk : 2 ^ (k + 1) ≤ 2 ^ n := Nat.pow_le_pow_right (by decide) hk
  have e2 : 2 ^ (k + 1) = 2 ^ k + 2 ^ k := by rw [Nat.pow_succ]; omega
  have ok : (o.getD k 0).toNat < n := by
    have ln := (perm_of h).1
    have := perm_range h (o.getD k 0) (by rw [getD_at (by omega)]; exact List.getElem_mem _)
    omega
  have inj : ∀ j, j < n → (o.getD j 0).toNat = (o.getD k 0).toNat → j = k := fun j hj e => by
    have ln := (perm_of h).1
    have r1 := perm_range h (o.getD j 0) (by rw [getD_at (by omega)]; exact List.getElem_mem _)
    have r2 := perm_range h (o.getD k 0) (by rw [getD_at (by omega)]; exact List.getElem_mem _)
    have e3 : o.getD j 0 = o.getD k 0 := by omega
    rw [getD_at (by omega), getD_at (by omega)] at e3
    exact (List.getElem_inj (perm_nodup h)).mp e3
  refine tb_eq (n := n) (Nat.or_lt_two_pow (R.lt s (by omega)) (Nat.pow_lt_pow_right (by decide) ok)) (R.lt _ (by omega)) fun j hj => ?_
  obtain ⟨i, hi, rfl⟩ := R.sur j hj
  have b1 := R.bit s (by omega) i hi
  have b2 := R.bit (2 ^ k + s) (by omega) i hi
  rw [Nat.testBit_or, b2, b1, Nat.testBit_two_pow]
  by_cases c : i = k
  · subst c
    rw [tb_top hs, decide_eq_true rfl, Bool.or_true]
  · rw [decide_eq_false fun e => c (inj i hi e.symm), Bool.or_false]
    rcases Nat.lt_or_ge i k with q | q
    · exact (tb_hi q).symm
    · rw [Nat.testBit_lt_two_pow (Nat.lt_of_lt_of_le hs (Nat.pow_le_pow_right (by decide) q)), Nat.testBit_lt_two_pow (Nat.lt_of_lt_of_le (by omega : 2 ^ k + s < 2 ^ (k + 1)) (Nat.pow_le_pow_right (by decide) (by omega)))]
theorem plc_succ {n k : Nat} {o : List Int} (hn : n < 6) (hk : k < n) (h : permB n o = true) : plcI o (k + 1) = plcI o k ++ (plcI o k).map fun x => Builtin.bitOr x (2 ^ (o.getD k 0).toNat) := by
  unfold plcI
  rw [show 2 ^ (k + 1) = 2 ^ k + 2 ^ k by rw [Nat.pow_succ]; omega, List.range_add, List.map_append, List.map_map, List.map_map]
  congr 1
  refine List.map_congr_left fun s hs => ?_
  simp only [Function.comp]
  rw [pow_cast, borN, plc_or hn hk h (List.mem_range.mp hs)]
theorem plc_turns {n : Nat} {A o : List Int} {E : De} (hn : n < 6) (h : permB n o = true) (hE : ∀ s3 s4, E.nx [.dat (.lst (A.map .int)), .dat (.lst (o.map .int)), .dat (.lst ((plcI o n).map .int)), s3, s4]) : ∀ (c k : Nat) (s3 s4 : Sl), k + c = n →
    forW (.nm 3) (dAsg 2 (f2 oAdd (fV 2) (fLc (fItL (fV 2)) (.nm 4) fYes (f2 oOr (fV 4) (f2 oShl (fC (.int 1)) (fV 3))) [4]))) E ((o.drop k).map .int) [.dat (.lst (A.map .int)), .dat (.lst (o.map .int)), .dat (.lst ((plcI o k).map .int)), s3, s4]
  | 0, k, s3, s4, hk => by
    have ln := (perm_of h).1
    rw [List.drop_eq_nil_of_le (by omega), show k = n by omega]
    exact hE s3 s4
  | c + 1, k, s3, s4, hk => by
    have ln := (perm_of h).1
    have hk' : k < o.length := by omega
    have rg := perm_range h o[k] (List.getElem_mem hk')
    rw [List.drop_eq_getElem_cons hk', List.map_cons]
    have pk : 2 ^ k ≤ 2 ^ 5 := Nat.pow_le_pow_right (by decide) (by omega)
    have pl : (plcI o k).length = 2 ^ k := by unfold plcI; rw [List.length_map, List.length_range]
    have e5 : (2 : Nat) ^ 5 = 32 := rfl
    refine ⟨[.int o[k]], rfl, .nw ((plcI o (k + 1)).map .int), .inl ?_, plc_turns hn h hE c (k + 1) (.dat (.int o[k])) s4 (by omega)⟩
    refine f2_ok rfl rfl (fLc_ok (ds := ((plcI o k).map fun x => Builtin.bitOr x (2 ^ (o.getD k 0).toNat)).map .int) (fItL_ok rfl) (by rw [ints_ok, pl]; omega) ((lcR_ints (fun _ => true) (fun x => Builtin.bitOr x (2 ^ (o.getD k 0).toNat)) (plcI o k) (fun _ _ => rfl) fun x _ _ => ?_).trans ?_)) rfl ?_
    · refine ⟨.ok (.int (Builtin.bitOr x (2 ^ (o.getD k 0).toNat))), f2_ok rfl rfl (f2_ok rfl rfl rfl rfl (oShl_one rg.1 (by omega))) rfl ?_, rfl⟩
      rw [getD_at hk'] <;> rfl
    · rw [List.filter_eq_self.mpr fun _ _ => rfl]
    · rw [plc_succ hn (by omega) h, List.map_append]
      exact oCat_ok (by rw [ints_ok, ints_ok, List.length_map, pl]; omega)
theorem len_reordered : ∀ ds r, F_reordered ds = some r → ds.length = 2 := by
  intro ds r h
  unfold F_reordered at h
  split at h
  · rfl
  · cases h
theorem h_reordered : ∀ ds r, F_reordered ds = some r → g_reordered (endF r) (startS N_reordered ds) := by
  intro ds r h
  unfold F_reordered at h
  split at h
  · rename_i t o
    split at h
    · rename_i hc
      have no := no_ok hc.1
      by_cases ht : tabD t = true
      · rw [if_pos ht] at h
        rw [if_pos ht] at no
        obtain ⟨A, rfl, hl⟩ := tab_lst ht
        obtain ⟨n, hn, la, lg⟩ := tlen_log hl
        have el : (listD (.lst (A.map .int))).length = A.length := ints_len A
        rw [el, la, log_pow] at no h
        have co := co_ok hc.2 hn
        by_cases ho : ordD n o = true
        · rw [if_pos ho] at h co
          split at h
          · rename_i n5
            cases h
            cases o <;> first | (cases ho; done) | skip
            rename_i ds
            have z : (ds.all isW && permB n (ds.map toI)) = true := ho
            rw [Bool.and_eq_true] at z
            have e : ds = (ds.map toI).map .int := by
              rw [List.map_map]
              conv => lhs; rw [← List.map_id ds]
              refine List.map_congr_left fun x hx => ?_
              have := List.all_eq_true.mp z.1 x hx
              cases x <;> first | (cases this; done) | rfl
            have hp := z.2
            generalize ds.map toI = o at e hp
            subst e
            have ea : toIs (.lst (A.map .int)) = A := toI_map A
            have eo : toIs (.lst (o.map .int)) = o := toI_map o
            rw [ea, eo]
            refine ⟨_, fA_2 rfl rfl (fA_1 rfl rfl no) rfl co, .nw [.int 0], .inl rfl, .it (o.map .int) false, .inl rfl, ?_⟩
            refine plc_turns (by omega) hp (fun s3 s4 => ?_) n 0 .un .un (by omega)
            have p5 : 2 ^ n ≤ 2 ^ 5 := Nat.pow_le_pow_right (by decide) n5
            have pl : (plcI o n).length = 2 ^ n := by unfold plcI; rw [List.length_map, List.length_range]
            have e5 : (2 : Nat) ^ 5 = 32 := rfl
            refine ⟨.nw ((reoI n A o).map .int), fLc_ok (fItL_ok rfl) (by rw [ints_ok, pl]; omega) ((lcR_ints (fun _ => true) (fun x => A.getD x.toNat 0) (plcI o n) (fun _ _ => rfl) fun x hx _ => ?_).trans ?_), .inl rfl⟩
            · obtain ⟨s, hs, rfl⟩ := List.mem_map.mp hx
              have := spotN_lt (by omega) (List.mem_range.mp hs) hp
              exact ⟨_, f2_ok rfl rfl rfl rfl (ix_ints (by omega) (by omega)), rfl⟩
            · rw [List.filter_eq_self.mpr fun _ _ => rfl]
              unfold plcI reoI tabL
              simp only [List.map_map]
              rfl
          · cases h
        · rw [if_neg ho] at h co
          cases h
          exact ⟨_, fA_2 rfl rfl (fA_1 rfl rfl no) rfl co, rfl⟩
      · rw [if_neg ht] at h
        rw [if_neg ht] at no
        cases h
        exact ⟨.ex 5, fA_2x rfl rfl (fA_1 rfl rfl no), rfl⟩
    · cases h
  · cases h
theorem lcR_pickI {ft : Fx} {ε : En} {i j : Nat} (p : Nat → Bool) : ∀ (xs : List Int) (k : Nat), (∀ s x, k ≤ s → s < k + xs.length → ft (setsE ε [i, j] [.int (s : Nat), .int x]) = some (.ok (.bl (p s))) ∧ fV j (setsE ε [i, j] [.int (s : Nat), .int x]) = some (.ok (.int x))) →
    lcR (.tp [i, j]) ft (fV j) ε (pairs (xs.map D.int) k) = some ((((List.range' k xs.length).filter p).map fun s => xs.getD (s - k) 0).map .int)
  | [], _, _ => rfl
  | x :: xs, k, h => by
    have ih := lcR_pickI p xs (k + 1) fun s y a b => h s y (by omega) (by rw [List.length_cons]; omega)
    have h1 := h k x (Nat.le_refl _) (by rw [List.length_cons]; omega)
    have e : ((List.range' (k + 1) xs.length).filter p).map (fun s => (x :: xs).getD (s - k) 0) = ((List.range' (k + 1) xs.length).filter p).map fun s => xs.getD (s - (k + 1)) 0 := List.map_congr_left fun s hs => by
      have := (List.mem_range'_1.mp (List.mem_filter.mp hs).1).1
      rw [show s - k = (s - (k + 1)) + 1 by omega] <;> rfl
    rw [List.map_cons, List.length_cons, List.range'_succ]
    show (match ft (setsE ε [i, j] [.int (k : Nat), .int x]) with
      | some (.ok (.bl true)) => (match fV j (setsE ε [i, j] [.int (k : Nat), .int x]) with
        | some r => (match r.val with
          | some d => (lcR (.tp [i, j]) ft (fV j) ε (pairs (xs.map D.int) (k + 1))).map (d :: ·)
          | none => none)
        | none => none)
      | some (.ok (.bl false)) => lcR (.tp [i, j]) ft (fV j) ε (pairs (xs.map D.int) (k + 1))
      | _ => none) = _
    rw [h1.1, h1.2]
    cases c : p k with
    | true =>
      rw [List.filter_cons_of_pos (by rw [c])]
      show (lcR (.tp [i, j]) ft (fV j) ε (pairs (xs.map D.int) (k + 1))).map (D.int x :: ·) = _
      rw [ih, List.map_cons, List.map_cons, e, Nat.sub_self] <;> rfl
    | false =>
      rw [List.filter_cons_of_neg (by rw [c]; exact Bool.false_ne_true)]
      show lcR (.tp [i, j]) ft (fV j) ε (pairs (xs.map D.int) (k + 1)) = _
      rw [ih, e]
theorem int_inj : ∀ {a b : List Int}, a.map D.int = b.map D.int → a = b
  | [], [], _ => rfl
  | [], _ :: _, h => by cases h
  | _ :: _, [], h => by cases h
  | x :: a, y :: b, h => by
    rw [List.map_cons, List.map_cons] at h
    injection h with h1 h2
    injection h1 with h1
    rw [h1, int_inj h2]
theorem dn_inj : ∀ {a b : List (Int × Int × Int)}, a.map (fun p => D.tup [.int p.1, .int p.2.1, .int p.2.2]) = b.map (fun p => D.tup [.int p.1, .int p.2.1, .int p.2.2]) → a = b
  | [], [], _ => rfl
  | [], _ :: _, h => by cases h
  | _ :: _, [], h => by cases h
  | (x, y, z) :: a, (x', y', z') :: b, h => by
    rw [List.map_cons, List.map_cons] at h
    injection h with h1 h2
    injection h1 with h1
    injection h1 with e1 h1
    injection h1 with e2 h1
    injection h1 with e3 _
    injection e1 with e1
    injection e2 with e2
    injection e3 with e3
    have e1 : x = x' := e1
    have e2 : y = y' := e2
    have e3 : z = z' := e3
    rw [e1, e2, e3, dn_inj h2]
theorem bkd_inj {β β' : Bk} (h : β.d = β'.d) : β = β' := by
  obtain ⟨m, ns, dn⟩ := β
  obtain ⟨m', ns', dn'⟩ := β'
  unfold Bk.d Bk.dn at h
  injection h with _ h
  injection h with h1 h
  injection h with h2 h
  injection h with h3 _
  injection h1 with h1
  injection h2 with h2
  injection h3 with h3
  have h1 := int_inj h1
  have h3 := dn_inj h3
  have h2 : m = m' := h2
  have h1 : ns = ns' := h1
  have h3 : dn = dn' := h3
  rw [h1, h2, h3]
theorem onBk_ok {k : Bk → List D → Option R} {β : Bk} (h : BkOk β) (xs : List D) : onBk k (β.d :: xs) = k β xs := by
  have e : ∃ β', BkOk β' ∧ β'.d = β.d := ⟨β, h, rfl⟩
  unfold onBk
  dsimp only
  rw [dif_pos e]
  have := e.choose_spec.2
  rw [bkd_inj this]
theorem onBk_inv {k : Bk → List D → Option R} {ds : List D} {r : R} (h : onBk k ds = some r) : ∃ β xs, BkOk β ∧ ds = β.d :: xs ∧ k β xs = some r := by
  unfold onBk at h
  split at h
  · rename_i d xs
    split at h
    · rename_i hb
      exact ⟨hb.choose, xs, hb.choose_spec.1, by rw [hb.choose_spec.2], h⟩
    · cases h
  · cases h
/-- the attributes -/
theorem at_nums {ε : En} {β : Bk} (h : ε[0]? = some (some β.d)) : f1 (oAttr "_numbers") (fV 0) ε = some (.ok (.lst (β.nums.map .int))) := f1_ok (rx := .ok β.d) (by unfold fV; rw [h]) rfl rfl
theorem at_many {ε : En} {β : Bk} (h : ε[0]? = some (some β.d)) : f1 (oAttr "_many") (fV 0) ε = some (.ok (.int β.many)) := f1_ok (rx := .ok β.d) (by unfold fV; rw [h]) rfl rfl
theorem at_done {ε : En} {β : Bk} (h : ε[0]? = some (some β.d)) : f1 (oAttr "_done") (fV 0) ε = some (.ok (.lst β.dn)) := f1_ok (rx := .ok β.d) (by unfold fV; rw [h]) rfl rfl
theorem len_check_number : ∀ ds r, F_check_number ds = some r → ds.length = 1 := by
  intro ds r h
  unfold F_check_number at h
  split at h
  · rfl
  · cases h
theorem h_check_number : ∀ ds r, F_check_number ds = some r → g_check_number (endF r) (startS N_check_number ds) := by
  intro ds r h
  unfold F_check_number at h
  split at h
  · rename_i d
    split at h
    · cases h
    · rename_i hc
      cases h
      have hd : isExcD d = false := by simpa using hc
      refine ⟨.ok (.bl (!isW d)), fNot_ok (fTru_ok (fA_1 rfl rfl (whole_any d hd))), ?_⟩
      cases isW d with
      | true => exact .inl rfl
      | false => exact rfl
  · cases h
theorem pow_le5 {m : Int} (h : m ≤ 5) : 2 ^ m.toNat ≤ 32 := by
  have : m.toNat ≤ 5 := by omega
  exact Nat.pow_le_pow_right (n := 2) (by decide) this
/-- what the index of a number is -/
theorem set_ix {β : Bk} (hb : BkOk β) {d : D} (h : inB d (2 ^ β.many.toNat) = true) : ∃ i : Int, d = .int i ∧ 0 ≤ i ∧ i.toNat < β.nums.length ∧ i < 32 ∧ i < 2 ^ β.many.toNat := by
  obtain ⟨i, rfl, h0, h1⟩ := inB_int h
  have := pow_le5 hb.1.2
  have e : ((2 : Int) ^ β.many.toNat) = ((2 ^ β.many.toNat : Nat) : Int) := by simp
  refine ⟨i, rfl, h0, ?_, ?_, h1⟩
  · rw [hb.2]
    omega
  · omega
theorem len_value : ∀ ds r, F_value ds = some r → ds.length = 2 := by
  intro ds r h
  replace h := onBk_inv h
  obtain ⟨β, xs, _, rfl, h⟩ := h
  split at h
  · rfl
  · cases h
theorem len_under : ∀ ds r, F_under ds = some r → ds.length = 2 := by
  intro ds r h
  replace h := onBk_inv h
  obtain ⟨β, xs, _, rfl, h⟩ := h
  split at h
  · rfl
  · cases h
theorem len_over : ∀ ds r, F_over ds = some r → ds.length = 2 := by
  intro ds r h
  replace h := onBk_inv h
  obtain ⟨β, xs, _, rfl, h⟩ := h
  split at h
  · rfl
  · cases h
theorem len_table : ∀ ds r, F_table ds = some r → ds.length = 1 := by
  intro ds r h
  replace h := onBk_inv h
  obtain ⟨β, xs, _, rfl, h⟩ := h
  split at h
  · rfl
  · cases h
theorem len_many_done : ∀ ds r, F_many_done ds = some r → ds.length = 1 := by
  intro ds r h
  replace h := onBk_inv h
  obtain ⟨β, xs, _, rfl, h⟩ := h
  split at h
  · rfl
  · cases h
theorem h_value : ∀ ds r, F_value ds = some r → g_value (endF r) (startS N_value ds) := by
  intro ds r h
  replace h := onBk_inv h
  obtain ⟨β, xs, hb, rfl, h⟩ := h
  split at h
  · rename_i d
    split at h
    · cases h
    · rename_i hc
      cases h
      have hd : isExcD d = false := by simpa using hc
      refine ⟨_, fA_2 rfl rfl (at_many rfl) rfl (cs_ok hd hb.1.1 (by have := hb.1.2; omega)), ?_⟩
      cases hi : inB d (2 ^ β.many.toNat) with
      | false => exact rfl
      | true =>
        obtain ⟨i, rfl, h0, h1, _⟩ := set_ix hb hi
        exact ⟨_, f2_ok (at_nums rfl) rfl rfl rfl (ix_ints h0 (by omega)), .inl rfl⟩
  · cases h
theorem h_table : ∀ ds r, F_table ds = some r → g_table (endF r) (startS N_table ds) := by
  intro ds r h
  replace h := onBk_inv h
  obtain ⟨β, xs, hb, rfl, h⟩ := h
  split at h
  · cases h
    exact ⟨.nw (β.nums.map .int), fA_1 (at_nums rfl) rfl rfl, .inl rfl⟩
  · cases h
theorem h_many_done : ∀ ds r, F_many_done ds = some r → g_many_done (endF r) (startS N_many_done ds) := by
  intro ds r h
  replace h := onBk_inv h
  obtain ⟨β, xs, hb, rfl, h⟩ := h
  split at h
  · split at h
    · cases h
      refine ⟨_, fA_1 (at_done rfl) rfl rfl, .inl ?_⟩
      rw [dn_len]
    · cases h
  · cases h
theorem sum_ints' (ns : List Int) : oSum [.lst (ns.map .int)] = some (.ok (.int ns.sum)) := by
  show (toInts (ns.map .int)).map _ = _
  rw [toInts_map] <;> rfl
theorem h_under : ∀ ds r, F_under ds = some r → g_under (endF r) (startS N_under ds) := by
  intro ds r h
  replace h := onBk_inv h
  obtain ⟨β, xs, hb, rfl, h⟩ := h
  split at h
  · rename_i d
    split at h
    · cases h
    · rename_i hc
      cases h
      have hd : isExcD d = false := by simpa using hc
      refine ⟨_, fA_2 rfl rfl (at_many rfl) rfl (cs_ok hd hb.1.1 (by have := hb.1.2; omega)), ?_⟩
      cases hi : inB d (2 ^ β.many.toNat) with
      | false => exact rfl
      | true =>
        obtain ⟨i, rfl, h0, h1, h2, h3⟩ := set_ix hb hi
        refine ⟨_, fA_1 (x := .lst (((partsI i).map fun k => β.nums.getD k.toNat 0).map .int)) (fLc_ok (ds := ((partsI i).map fun k => β.nums.getD k.toNat 0).map .int) (fItL_nw (fA_1 rfl rfl (parts_ok ⟨h0, by omega⟩))) ?_ ?_) rfl (sum_ints' _), .inl rfl⟩
        · obtain ⟨n, rfl⟩ := Int.eq_ofNat_of_zero_le h0
          have := partsI_len (n := n) (by omega)
          rw [ints_ok]
          omega
        · refine (lcR_ints (fun _ => true) (fun k => β.nums.getD k.toNat 0) (partsI i) (fun _ _ => rfl) fun k hk _ => ?_).trans (by rw [List.filter_eq_self.mpr fun _ _ => rfl])
          have hk := mem_upI.mp (List.mem_filter.mp hk).1
          exact ⟨_, f2_ok (at_nums rfl) rfl rfl rfl (ix_ints hk.1 (by omega)), rfl⟩
  · cases h
theorem h_over : ∀ ds r, F_over ds = some r → g_over (endF r) (startS N_over ds) := by
  intro ds r h
  replace h := onBk_inv h
  obtain ⟨β, xs, hb, rfl, h⟩ := h
  split at h
  · rename_i d
    split at h
    · cases h
    · rename_i hc
      cases h
      have hd : isExcD d = false := by simpa using hc
      refine ⟨_, fA_2 rfl rfl (at_many rfl) rfl (cs_ok hd hb.1.1 (by have := hb.1.2; omega)), ?_⟩
      cases hi : inB d (2 ^ β.many.toNat) with
      | false => exact rfl
      | true =>
        obtain ⟨i, rfl, h0, h1, h2, h3⟩ := set_ix hb hi
        have pl := pow_le5 hb.1.2
        have ln := hb.2
        obtain ⟨n, rfl⟩ := Int.eq_ofNat_of_zero_le h0
        refine ⟨_, fA_1 (x := .lst ((((List.range' 0 β.nums.length).filter fun s => decide (Builtin.bitAnd ((n : Nat) : Int) (s : Nat) = ((n : Nat) : Int))).map fun s => β.nums.getD (s - 0) 0).map .int)) (fLc_ok (fItE_ok (fItL_ok (at_nums rfl))) (by rw [DY.pairs_len, ints_ok]; omega) (lcR_pickI (ε := wipeE (pub [.dat β.d, .dat (.int (n : Nat)), .un, .un]) [2, 3]) (i := 2) (j := 3) (fun s => decide (Builtin.bitAnd ((n : Nat) : Int) (s : Nat) = ((n : Nat) : Int))) β.nums 0 fun s x _ _ => ⟨oEq_int _ _, rfl⟩)) rfl (sum_ints' _), .inl ?_⟩
        unfold overI
        rw [upI0, List.filter_map, List.map_map, ← List.range_eq_range']
        congr 3
  · cases h
theorem keep_pre (ss t : List Sl) : Keep ss (ss ++ t) := fun j s h _ => by
  rw [List.getElem?_append_left (List.getElem?_eq_some_iff.mp h).1]
  exact h
theorem sw_perm : ∀ n, n < 6 → ∀ i, i < n → ∀ j, j < n → permB n (swO n (i : Nat) (j : Nat)) = true := by decide +kernel
theorem cn_in {d : D} {m : Int} (h : isExcD d = false) : F_check_name [d, .int m] = some (if inB d m then .ok .non else .ex 2) := cn_ok h
theorem cnum_ok {d : D} (h : isExcD d = false) : F_check_number [d] = some (if isW d then .ok .non else .ex 3) := if_neg (by rw [h]; decide)
theorem len_put : ∀ ds r, F_put ds = some r → ds.length = 3 := by
  intro ds r h
  replace h := onBk_inv h
  obtain ⟨β, xs, _, rfl, h⟩ := h
  split at h
  · rfl
  · cases h
theorem len_swap : ∀ ds r, F_swap ds = some r → ds.length = 3 := by
  intro ds r h
  replace h := onBk_inv h
  obtain ⟨β, xs, _, rfl, h⟩ := h
  split at h
  · rfl
  · cases h
theorem len_undo : ∀ ds r, F_undo ds = some r → ds.length = 1 := fun ds r h => by cases h
theorem h_undo : ∀ ds r, F_undo ds = some r → g_undo (endF r) (startS N_undo ds) := fun ds r h => by cases h
theorem exc_or {d e : D} (h : ¬ (isExcD d = true ∨ isExcD e = true)) : isExcD d = false ∧ isExcD e = false := by
  cases h1 : isExcD d <;> cases h2 : isExcD e <;> simp_all
theorem h_put : ∀ ds r, F_put ds = some r → g_put (endF r) (startS N_put ds) := by
  intro ds r h
  replace h := onBk_inv h
  obtain ⟨β, xs, hb, rfl, h⟩ := h
  split at h
  · rename_i d e
    split at h
    · cases h
    · rename_i hc
      obtain ⟨hd, he⟩ := exc_or hc
      have cs := cs_ok (m := β.many) hd hb.1.1 (by have := hb.1.2; omega)
      split at h
      · rename_i hi
        rw [if_pos hi] at cs
        split at h
        · cases h
        · rename_i hw
          cases h
          have cm := cnum_ok he
          rw [if_neg hw] at cm
          exact ⟨_, fA_2 rfl rfl (at_many rfl) rfl cs, _, fA_1 rfl rfl cm, rfl⟩
      · rename_i hi
        cases h
        rw [if_neg hi] at cs
        exact ⟨_, fA_2 rfl rfl (at_many rfl) rfl cs, rfl⟩
  · cases h
theorem h_swap : ∀ ds r, F_swap ds = some r → g_swap (endF r) (startS N_swap ds) := by
  intro ds r h
  replace h := onBk_inv h
  obtain ⟨β, xs, hb, rfl, h⟩ := h
  split at h
  · rename_i d e
    split at h
    · cases h
    · rename_i hc
      obtain ⟨hd, he⟩ := exc_or hc
      have c1 := cn_in (m := β.many) hd
      have c2 := cn_in (m := β.many) he
      split at h
      · rename_i hi
        rw [if_pos hi] at c1
        split at h
        · cases h
        · rename_i hw
          cases h
          rw [if_neg hw] at c2
          exact ⟨_, fA_2 rfl rfl (at_many rfl) rfl c1, _, fA_2 rfl rfl (at_many rfl) rfl c2, rfl⟩
      · rename_i hi
        cases h
        rw [if_neg hi] at c1
        exact ⟨_, fA_2 rfl rfl (at_many rfl) rfl c1, rfl⟩
  · cases h
theorem lenM__exchange : ∀ ss z, FM__exchange ss = some z → ss.length = 3 := by
  intro ss z h
  unfold FM__exchange at h
  split at h
  · rfl
  · cases h
theorem lenM_put : ∀ ss z, FM_put ss = some z → ss.length = 3 := by
  intro ss z h
  unfold FM_put at h
  split at h
  · rfl
  · cases h
theorem lenM_swap : ∀ ss z, FM_swap ss = some z → ss.length = 3 := by
  intro ss z h
  unfold FM_swap at h
  split at h
  · rfl
  · cases h
theorem lenM_undo : ∀ ss z, FM_undo ss = some z → ss.length = 1 := by
  intro ss z h
  unfold FM_undo at h
  split at h
  · rfl
  · cases h
theorem hM__exchange : ∀ ss z ss', FM__exchange ss = some (z, ss') → g__exchange (endM z ss') (startM N__exchange ss) := by
  intro ss z ss' h
  unfold FM__exchange at h
  split at h
  · rename_i b β i j
    split at h
    · rename_i hc
      obtain ⟨hb, hi, hj⟩ := hc
      cases h
      obtain ⟨m, A, dn⟩ := β
      obtain ⟨n, rfl⟩ := Int.eq_ofNat_of_zero_le (show 0 ≤ m from hb.1.1)
      obtain ⟨i, rfl⟩ := Int.eq_ofNat_of_zero_le hi.1
      obtain ⟨j, rfl⟩ := Int.eq_ofNat_of_zero_le hj.1
      have n5 : n ≤ 5 := Int.ofNat_le.mp hb.1.2
      have la : A.length = 2 ^ n := hb.2
      have hi' : i < n := Int.ofNat_lt.mp hi.2
      have hj' : j < n := Int.ofNat_lt.mp hj.2
      have pb := sw_perm n (by omega) i hi' j hj'
      refine ⟨.nw ((upI 0 n).map D.int), .inr ⟨f1_ok (at_many rfl) rfl ?_,   .inl ?_⟩, (upI 0 n).map D.int, .ok (.int (j : Nat)), .ok (.int (i : Nat)), rfl, .inl rfl, rfl, i, rfl, ?_, ((upI 0 n).map D.int).set i (.int (j : Nat)), .ok (.int (i : Nat)), .ok (.int (j : Nat)), rfl, .inl rfl, rfl, j, rfl, ?_, b, ⟨(n : Nat), A, dn⟩, exN ⟨(n : Nat), A, dn⟩ (i : Nat) (j : Nat), rfl, ?_, rfl, keep_pre [.bk b ⟨(n : Nat), exN ⟨(n : Nat), A, dn⟩ (i : Nat) (j : Nat), dn⟩, .dat (.int (i : Nat)), .dat (.int (j : Nat))] [.own ((((upI 0 n).map D.int).set i (.int (j : Nat))).set j (.int (i : Nat)))]⟩
      · refine (if_pos (show -1000000 ≤ ((n : Nat) : Int) ∧ ((n : Nat) : Int) ≤ 90000 from ⟨by omega, by omega⟩)).trans ?_
        rw [rngD_ints] <;> rfl
      · exact flat_ints _
      · rw [ints_ok, upI_len]
        exact hi'
      · rw [List.length_set, ints_ok, upI_len]
        exact hj'
      · refine fA_2 (x := .lst (A.map .int)) (y := .lst ((swO n (i : Nat) (j : Nat)).map .int)) (at_nums rfl) rfl (ry := .ok (.lst ((swO n (i : Nat) (j : Nat)).map .int))) ?_ rfl (reo_ok n5 la pb)
        unfold swO
        rw [List.map_set, List.map_set]
        rfl
    · cases h
  · cases h
theorem hM_put : ∀ ss z ss', FM_put ss = some (z, ss') → g_put (endM z ss') (startM N_put ss) := by
  intro ss z ss' h
  unfold FM_put at h
  split at h
  · rename_i b β i x
    split at h
    · rename_i hc
      obtain ⟨hb, hi, hd⟩ := hc
      cases h
      have cs := cs_ok (d := .int i) (m := β.many) rfl hb.1.1 (by have := hb.1.2; omega)
      rw [if_pos (inB_ok hi)] at cs
      obtain ⟨i', e, h0, h1, _⟩ := set_ix hb (inB_ok hi)
      injection e with e
      subst e
      obtain ⟨n, rfl⟩ := Int.eq_ofNat_of_zero_le h0
      refine ⟨_, fA_2 rfl rfl (at_many rfl) rfl cs, .ok .non, fA_1 rfl rfl rfl, b, β, n, β.nums.getD n 0, x, rfl, rfl, ?_, rfl, b, ⟨β.many, β.nums.set n (β.nums.getD n 0 + x), β.done⟩, 0, (n : Nat), x, rfl, rfl, ?_, rfl, keep_pre [.bk b (putB β (n : Nat) x), .dat (.int (n : Nat)), .dat (.int x)] []⟩
      · have h1 : n < β.nums.length := h1
        rw [List.getD_eq_getElem?_getD, List.getElem?_eq_getElem h1] <;> rfl
      · show β.done.length < 90000
        omega
    · cases h
  · cases h
theorem hM_swap : ∀ ss z ss', FM_swap ss = some (z, ss') → g_swap (endM z ss') (startM N_swap ss) := by
  intro ss z ss' h
  unfold FM_swap at h
  split at h
  · rename_i b β i j
    split at h
    · rename_i hc
      obtain ⟨hb, ⟨hi, hj⟩, hd⟩ := hc
      cases h
      have c1 := cn_in (d := .int i) (m := β.many) rfl
      have c2 := cn_in (d := .int j) (m := β.many) rfl
      rw [if_pos (inB_ok hi)] at c1
      rw [if_pos (inB_ok hj)] at c2
      refine ⟨_, fA_2 rfl rfl (at_many rfl) rfl c1, _, fA_2 rfl rfl (at_many rfl) rfl c2, (.ok .non, [.bk b ⟨β.many, exN β i j, β.done⟩, .dat (.int i), .dat (.int j)]), ⟨b, β, [.dat (.int i), .dat (.int j)], rfl, rfl, if_pos ⟨hb, hi, hj⟩, rfl⟩, b, ⟨β.many, exN β i j, β.done⟩, 1, i, j, rfl, rfl, ?_, rfl, keep_pre [.bk b (swapB β i j), .dat (.int i), .dat (.int j)] []⟩
      show β.done.length < 90000
      omega
    · cases h
  · cases h
theorem hM_undo : ∀ ss z ss', FM_undo ss = some (z, ss') → g_undo (endM z ss') (startM N_undo ss) := by
  intro ss z ss' h
  unfold FM_undo at h
  split at h
  · rename_i b β
    split at h
    · rename_i hc
      obtain ⟨hb, hl⟩ := hc
      have ev : f2 oEq (fA oLen [f1 (oAttr "_done") (fV 0)]) (fC (.int 0)) (pub (startM N_undo [.bk b β])) = some (.ok (.bl (decide (((β.dn.length : Nat) : Int) = 0)))) := f2_ok (fA_1 (at_done rfl) rfl rfl) rfl rfl rfl (oEq_int _ _)
      rw [dn_len] at ev
      split at h
      · rename_i he
        cases h
        rw [he] at ev
        exact ⟨_, ev, rfl, keep_pre [.bk b β] [.un, .un, .un]⟩
      · rename_i he
        have hn : 0 < β.done.length := List.length_pos_iff.mpr he
        rw [decide_eq_false (by omega)] at ev
        obtain ⟨β', eu, e2⟩ := Option.map_eq_some_iff.mp h
        cases e2
        refine ⟨_, ev, ?_⟩
        unfold undoB at eu
        split at eu
        · cases eu
        · rename_i k i x el
          have ed : β.done = β.done.dropLast ++ [(k, i, x)] := by
            obtain ⟨ys, ey⟩ := List.getLast?_eq_some_iff.mp el
            rw [ey, List.dropLast_concat]
          refine ⟨b, β, β.done.dropLast, k, i, x, rfl, ed, rfl, ?_⟩
          split at eu
          · rename_i hk
            split at eu
            · rename_i hi
              cases eu
              obtain ⟨i', e, h0, h1, _⟩ := set_ix hb (inB_ok hi)
              injection e with e
              subst e
              obtain ⟨n, rfl⟩ := Int.eq_ofNat_of_zero_le h0
              have h1 : n < β.nums.length := h1
              refine ⟨.ok (.bl true), f2_ok (rx := .ok (.int k)) rfl rfl rfl rfl ((oEq_int _ _).trans (by rw [decide_eq_true hk])), b, ⟨β.many, β.nums, β.done.dropLast⟩, n, β.nums.getD n 0, x, rfl, rfl, ?_, rfl, rfl, keep_pre [.bk b ⟨β.many, β.nums.set n (β.nums.getD n 0 - x), β.done.dropLast⟩] [.dat (.int k), .dat (.int (n : Nat)), .dat (.int x)]⟩
              show β.nums[n]? = _
              rw [List.getD_eq_getElem?_getD, List.getElem?_eq_getElem h1] <;> rfl
            · cases eu
          · rename_i hk
            split at eu
            · rename_i hi
              cases eu
              exact ⟨.ok (.bl false), f2_ok (rx := .ok (.int k)) rfl rfl rfl rfl ((oEq_int _ _).trans (by rw [decide_eq_false hk])), (.ok .non, [.bk b ⟨β.many, exN β i x, β.done.dropLast⟩, .dat (.int i), .dat (.int x)]), ⟨b, ⟨β.many, β.nums, β.done.dropLast⟩, [.dat (.int i), .dat (.int x)], rfl, rfl, if_pos ⟨hb, hi⟩, rfl⟩, rfl, keep_pre [.bk b ⟨β.many, exN β i x, β.done.dropLast⟩] [.dat (.int k), .dat (.int i), .dat (.int x)]⟩
            · cases eu
    · cases h
  · cases h
theorem oEq_str (x y : Str) (hx : PyData.strOk x = true) (hy : PyData.strOk y = true) : oEq (.str x) (.str y) = some (.ok (.bl (decide (x = y)))) := by
  have s1 : ∀ z : Str, PyData.strOk z = true → shp (.str z) = true := fun z hz => by
    unfold shp SeqAt.shaped
    rw [D.toP, D.plain, PyData.canLay0, hz] <;> rfl
  unfold oEq eqD
  rw [s1 x hx, s1 y hy, D.toP, D.toP, PyData.eqv] <;> rfl
theorem kind_walk (n : Nat) (h : n = 0 ∨ n = 1 ∨ n = 2 ∨ n = 3 ∨ n = 8) : g__law_kind (endF (.nw ((kindL n).map .str))) (startS N__law_kind [.exc n]) := by
  rcases h with rfl | rfl | rfl | rfl | rfl
  · exact ⟨_, rfl, _, .inl rfl, _, .inl rfl, _, .inl rfl, _, .inl rfl, _, .inl rfl, _, rfl, .inl rfl⟩
  · exact ⟨_, rfl, _, .inl rfl, _, .inl rfl, _, .inl rfl, _, .inl rfl, _, .inl rfl, _, rfl, .inl rfl⟩
  · exact ⟨_, rfl, _, .inl rfl, _, .inl rfl, _, .inl rfl, _, .inl rfl, _, .inl rfl, _, rfl, .inl rfl⟩
  · exact ⟨_, rfl, _, .inl rfl, _, .inl rfl, _, .inl rfl, _, .inl rfl, _, .inl rfl, _, rfl, .inl rfl⟩
  · exact ⟨_, rfl, _, .inl rfl, _, .inl rfl, _, .inl rfl, _, .inl rfl, _, .inl rfl, _, rfl, .inl rfl⟩
theorem len__law_kind : ∀ ds r, F__law_kind ds = some r → ds.length = 1 := by
  intro ds r h
  unfold F__law_kind at h
  split at h
  · rfl
  · cases h
theorem h__law_kind : ∀ ds r, F__law_kind ds = some r → g__law_kind (endF r) (startS N__law_kind ds) := by
  intro ds r h
  unfold F__law_kind at h
  split at h
  · split at h
    · rename_i hn
      cases h
      exact kind_walk _ hn
    · cases h
  · cases h
theorem word_walk {w : Str} {n : Nat} {s : Str} {g h : Ds} {E : De} {δ : Ev} (hs : PyData.strOk s = true) (hw : PyData.strOk w = true) (hd : (pub δ)[n]? = some (some (.str w))) (h1 : w = s → g E δ) (h2 : w ≠ s → h E δ) : dIf (f2 oEq (fV n) (fC (.str s))) g h E δ := by
  refine ⟨.ok (.bl (decide (w = s))), f2_ok (rx := .ok (.str w)) (by unfold fV; rw [hd]) rfl rfl rfl (oEq_str _ _ hw hs), ?_⟩
  by_cases c : w = s
  · rw [decide_eq_true c]
    exact h1 c
  · rw [decide_eq_false c]
    exact h2 c
theorem len__law_caught : ∀ ds r, F__law_caught ds = some r → ds.length = 4 := by
  intro ds r h
  unfold F__law_caught at h
  split at h
  · rfl
  · cases h
theorem lenM__law_caught : ∀ ss z, FM__law_caught ss = some z → ss.length = 4 := by
  intro ss z h
  unfold FM__law_caught at h
  split at h
  · rfl
  · cases h
theorem fM_2 {F : List D → Option R} {β : Bk} {ε : En} {d : D} {i : Nat} (h0 : ε[0]? = some (some β.d)) (hi : ε[i]? = some (some d)) : fMeth F (fV 0) [fV i] ε = F [β.d, d] := by
  unfold fMeth fV
  rw [h0]
  show (seqA (argsV [fV i] ε) fun ys => F (β.d :: ys)) = _
  unfold argsV argsV fV
  rw [hi] <;> rfl
theorem fM_3 {F : List D → Option R} {β : Bk} {ε : En} {d e : D} {i j : Nat} (h0 : ε[0]? = some (some β.d)) (hi : ε[i]? = some (some d)) (hj : ε[j]? = some (some e)) : fMeth F (fV 0) [fV i, fV j] ε = F [β.d, d, e] := by
  unfold fMeth fV
  rw [h0]
  show (seqA (argsV [fV i, fV j] ε) fun ys => F (β.d :: ys)) = _
  unfold argsV argsV argsV fV
  rw [hi, hj] <;> rfl
theorem fM_1 {F : List D → Option R} {β : Bk} {ε : En} (h0 : ε[0]? = some (some β.d)) : fMeth F (fV 0) [] ε = F [β.d] := by
  unfold fMeth fV
  rw [h0] <;> rfl
theorem isBk_of {F : Bk → List D → Option R} {b : D} {ds : List D} {r : R} (h : onBk F (b :: ds) = some r) : ∃ β : Bk, b = β.d := by
  obtain ⟨β, xs, _, e, _⟩ := onBk_inv h
  injection e with e _
  exact ⟨β, e⟩
theorem h__law_caught : ∀ ds r, F__law_caught ds = some r → g__law_caught (endF r) (startS N__law_caught ds) := by
  intro ds r h
  unfold F__law_caught at h
  split at h
  · rename_i b w d e
    obtain ⟨r0, e0, ex⟩ := Option.bind_eq_some_iff.mp h
    have hr : ∃ n, r0 = .ex n ∧ r = .ok (.tup [.exc n, .non]) := by
      unfold capX at ex
      split at ex
      · exact ⟨_, rfl, by cases ex; rfl⟩
      · cases ex
    obtain ⟨n, rfl, rfl⟩ := hr
    have fin : dRetM (fA oTup [fV 4, fV 5]) (endF (.ok (.tup [.exc n, .non]))) [.dat b, .dat (.str w), .dat d, .dat e, .dat (.exc n), .dat .non, .un] := ⟨_, .inl rfl, .inl rfl⟩
    have hb : ∃ β : Bk, b = β.d ∧ PyData.strOk w = true := by
      split at e0
      · rename_i c
        obtain ⟨β, eb⟩ := isBk_of e0
        exact ⟨β, eb, by rw [c]; decide +kernel⟩
      · split at e0
        · rename_i c
          obtain ⟨β, eb⟩ := isBk_of e0
          exact ⟨β, eb, by rw [c]; decide +kernel⟩
        · split at e0
          · cases e0
          · split at e0
            · rename_i c
              obtain ⟨β, eb⟩ := isBk_of e0
              exact ⟨β, eb, by rw [c]; decide +kernel⟩
            · split at e0
              · rename_i c
                obtain ⟨β, eb⟩ := isBk_of e0
                exact ⟨β, eb, by rw [c]; decide +kernel⟩
              · split at e0
                · rename_i c
                  obtain ⟨β, eb⟩ := isBk_of e0
                  exact ⟨β, eb, by rw [c]; decide +kernel⟩
                · cases e0
    obtain ⟨β, rfl, hw⟩ := hb
    refine ⟨.ok .non, .inl rfl, .ok .non, .inl rfl, ?_⟩
    refine word_walk (by decide +kernel) hw rfl (fun c => .inr ?_) fun c0 => word_walk (by decide +kernel) hw rfl (fun c => .inr ?_) fun c1 => word_walk (by decide +kernel) hw rfl (fun c => ?_) fun c2 => word_walk (by decide +kernel) hw rfl (fun c => ?_) fun c3 => word_walk (by decide +kernel) hw rfl (fun c => ?_) fun c4 => ?_
    · rw [if_pos c] at e0
      exact ⟨.ex n, .inl ((fM_3 (β := β) rfl rfl rfl).trans e0), fin⟩
    · rw [if_neg c0, if_pos c] at e0
      exact ⟨.ex n, .inl ((fM_3 (β := β) rfl rfl rfl).trans e0), fin⟩
    · rw [if_neg c0, if_neg c1, if_pos c] at e0
      cases e0
    · rw [if_neg c0, if_neg c1, if_neg c2, if_pos c] at e0
      exact ⟨.ex n, .inl ((fM_2 (β := β) rfl rfl).trans e0), fin⟩
    · rw [if_neg c0, if_neg c1, if_neg c2, if_neg c3, if_pos c] at e0
      exact ⟨.ex n, .inl ((fM_2 (β := β) rfl rfl).trans e0), fin⟩
    · rw [if_neg c0, if_neg c1, if_neg c2, if_neg c3, if_neg c4] at e0
      split at e0
      · exact ⟨.ex n, .inl ((fM_2 (β := β) rfl rfl).trans e0), fin⟩
      · cases e0
  · cases h
theorem put_shape {b : Addr} {β : Bk} {i x : Int} {z : Except Nat D × List Sl} (h : FM_put [.bk b β, .dat (.int i), .dat (.int x)] = some z) : ∃ β', z = (.ok .non, [.bk b β', .dat (.int i), .dat (.int x)]) := by
  unfold FM_put at h
  dsimp only at h
  split at h
  · cases h
    exact ⟨_, rfl⟩
  · cases h
theorem swap_shape {b : Addr} {β : Bk} {i x : Int} {z : Except Nat D × List Sl} (h : FM_swap [.bk b β, .dat (.int i), .dat (.int x)] = some z) : ∃ β', z = (.ok .non, [.bk b β', .dat (.int i), .dat (.int x)]) := by
  unfold FM_swap at h
  dsimp only at h
  split at h
  · cases h
    exact ⟨_, rfl⟩
  · cases h
theorem undo_shape {b : Addr} {β : Bk} {z : Except Nat D × List Sl} (h : FM_undo [.bk b β] = some z) : ∃ (e : Except Nat D) (β' : Bk), z = (e, [.bk b β']) ∧ (e = .ok .non ∨ e = .error 8) := by
  unfold FM_undo at h
  dsimp only at h
  split at h
  · split at h
    · cases h
      exact ⟨_, _, rfl, .inr rfl⟩
    · obtain ⟨β', _, e⟩ := Option.map_eq_some_iff.mp h
      cases e
      exact ⟨_, _, rfl, .inl rfl⟩
  · cases h
theorem hM__law_caught : ∀ ss z ss', FM__law_caught ss = some (z, ss') → g__law_caught (endM z ss') (startM N__law_caught ss) := by
  intro ss z ss' h
  unfold FM__law_caught at h
  split at h
  · rename_i b β w i x
    obtain ⟨z0, e0, ez⟩ := Option.bind_eq_some_iff.mp h
    by_cases c : w = "put"
    · rw [if_pos c] at e0
      obtain ⟨β', rfl⟩ := put_shape e0
      cases ez
      refine ⟨.ok .non, .inl rfl, .ok .non, .inl rfl, ?_⟩
      refine word_walk (by decide +kernel) (by rw [c]; decide +kernel) rfl (fun _ => .inl ?_) fun c0 => absurd c c0
      exact ⟨_, ⟨b, β, [.dat (.int i), .dat (.int x)], rfl, rfl, e0, rfl⟩, _, .inl rfl, rfl, keep_pre [.bk b β', .dat (.str w), .dat (.int i), .dat (.int x)] [.dat .non, .dat .non, .un]⟩
    · rw [if_neg c] at e0
      by_cases c1 : w = "swap"
      · rw [if_pos c1] at e0
        obtain ⟨β', rfl⟩ := swap_shape e0
        cases ez
        refine ⟨.ok .non, .inl rfl, .ok .non, .inl rfl, ?_⟩
        refine word_walk (by decide +kernel) (by rw [c1]; decide +kernel) rfl (fun z => absurd z c) fun _ => word_walk (by decide +kernel) (by rw [c1]; decide +kernel) rfl (fun _ => .inl ?_) fun c0 => absurd c1 c0
        exact ⟨_, ⟨b, β, [.dat (.int i), .dat (.int x)], rfl, rfl, e0, rfl⟩, _, .inl rfl, rfl, keep_pre [.bk b β', .dat (.str w), .dat (.int i), .dat (.int x)] [.dat .non, .dat .non, .un]⟩
      · rw [if_neg c1] at e0
        by_cases c2 : w = "undo"
        · rw [if_pos c2] at e0
          obtain ⟨e, β', rfl, he⟩ := undo_shape e0
          refine ⟨.ok .non, .inl rfl, .ok .non, .inl rfl, ?_⟩
          refine word_walk (by decide +kernel) (by rw [c2]; decide +kernel) rfl (fun z => absurd z c) fun _ => word_walk (by decide +kernel) (by rw [c2]; decide +kernel) rfl (fun z => absurd z c1) fun _ => word_walk (by decide +kernel) (by rw [c2]; decide +kernel) rfl (fun _ => .inl ?_) fun c0 => absurd c2 c0
          rcases he with rfl | rfl
          · cases ez
            exact ⟨_, ⟨b, β, [], rfl, rfl, e0, rfl⟩, _, .inl rfl, rfl, keep_pre [.bk b β', .dat (.str w), .dat (.int i), .dat (.int x)] [.dat .non, .dat .non, .un]⟩
          · cases ez
            exact ⟨_, ⟨b, β, [], rfl, rfl, e0, rfl⟩, _, .inl rfl, rfl, keep_pre [.bk b β', .dat (.str w), .dat (.int i), .dat (.int x)] [.dat (.exc 8), .dat .non, .un]⟩
        · rw [if_neg c2] at e0
          cases e0
  · cases h
theorem fIfI {c f g : Fx} {ε : En} {b : Bool} {x y : Int} (hc : c ε = some (.ok (.bl b))) (hf : b = true → f ε = some (.ok (.int x))) (hg : b = false → g ε = some (.ok (.int y))) : fIf c f g ε = some (.ok (.int (if b = true then x else y))) := by
  unfold fIf
  rw [hc]
  cases b with
  | true => exact hf rfl
  | false => exact hg rfl
theorem memb_bd {s k : Int} (h : k ∈ membI s) : 0 ≤ k ∧ k < 10 := by
  have := mem_upI.mp (List.mem_filter.mp h).1
  omega
theorem len__law_turned : ∀ ds r, F__law_turned ds = some r → ds.length = 3 := by
  intro ds r h
  unfold F__law_turned at h
  split at h
  · rfl
  · cases h
theorem h__law_turned : ∀ ds r, F__law_turned ds = some r → g__law_turned (endF r) (startS N__law_turned ds) := by
  intro ds r h
  unfold F__law_turned at h
  split at h
  · rename_i s a b
    split at h
    · rename_i hc
      obtain ⟨hs, ha, hb⟩ := hc
      cases h
      have ml := membI_len s
      refine ⟨_, .inl (fA_1 rfl rfl (bits_ok hs)), .nw (((membI s).map fun k => if k = a then b else if k = b then a else k).map .int), .inl ?_, ?_⟩
      · refine fLc_ok (fItL_ok rfl) (by rw [ints_ok]; omega) ((lcR_ints (fun _ => true) (fun k => if k = a then b else if k = b then a else k) (membI s) (fun _ _ => rfl) fun k hk _ => ?_).trans (by rw [List.filter_eq_self.mpr fun _ _ => rfl]))
        refine ⟨_, fIfI (b := decide (k ∈ [a, b])) (x := if k = a then b else a) (y := k) (f2_ok (y := .tup ([a, b].map .int)) (rx := .ok (.int k)) rfl rfl (ry := .ok (.tup ([a, b].map .int))) rfl rfl (oIn_ints false k [a, b])) (fun _ => ?_) (fun _ => rfl), ?_⟩
        · refine f2_ok (x := .lst ([a, b].map .int)) (y := .int (if decide (k = a) = true then 1 else 0)) (rx := .nw ([a, b].map .int)) rfl rfl (ry := .ok (.int (if decide (k = a) = true then 1 else 0))) (fA_1 (f2_ok (rx := .ok (.int k)) (ry := .ok (.int a)) rfl rfl rfl rfl (oEq_int k a)) rfl rfl) rfl ?_
          by_cases c : k = a
          · rw [decide_eq_true c, if_pos rfl, if_pos c] <;> rfl
          · rw [decide_eq_false c, if_neg (by decide), if_neg c] <;> rfl
        · by_cases c : k = a
          · rw [decide_eq_true (by rw [c]; exact List.mem_cons_self), if_pos rfl, if_pos c, if_pos c] <;> rfl
          · by_cases c2 : k = b
            · rw [decide_eq_true (by rw [c2]; exact List.mem_cons_of_mem _ List.mem_cons_self), if_pos rfl, if_neg c, if_neg c, if_pos c2] <;> rfl
            · rw [decide_eq_false (by simp [c, c2]), if_neg (by decide), if_neg c, if_neg c2] <;> rfl
      · refine ⟨_, fA_1 (fLc_ok (ds := (((membI s).map fun k => if k = a then b else if k = b then a else k).map fun x => (2 : Int) ^ x.toNat).map .int) (fItL_ok rfl) (by rw [ints_ok, List.length_map]; omega) ((lcR_ints (fun _ => true) (fun x => (2 : Int) ^ x.toNat) _ (fun _ _ => rfl) fun k hk _ => ?_).trans (by rw [List.filter_eq_self.mpr fun _ _ => rfl]))) rfl (sum_ints' _), .inl rfl⟩
        obtain ⟨j, hj, rfl⟩ := List.mem_map.mp hk
        have bj := memb_bd hj
        have bd : 0 ≤ (if j = a then b else if j = b then a else j) ∧ (if j = a then b else if j = b then a else j) ≤ 10 := by
          split
          · exact hb
          · split
            · exact ha
            · omega
        exact ⟨_, f2_ok (rx := .ok (.int 1)) rfl rfl rfl rfl (oShl_one bd.1 (by omega)), rfl⟩
    · cases h
  · cases h
theorem turn_ok : ∀ n, n < 6 → ∀ i, i < n → ∀ j, j < n → ∀ s, s < 2 ^ n → turnI (s : Nat) (i : Nat) (j : Nat) = (spotN (swO n (i : Nat) (j : Nat)) s : Nat) := by decide +kernel
theorem len__law_behind : ∀ ds r, F__law_behind ds = some r → ds.length = 4 := by
  intro ds r h
  unfold F__law_behind at h
  split at h
  · rfl
  · cases h
theorem isW_ints {ds : List D} (h : ds.all isW = true) : ds = (ds.map toI).map .int := by
  rw [List.map_map]
  conv => lhs; rw [← List.map_id ds]
  refine List.map_congr_left fun x hx => ?_
  have := List.all_eq_true.mp h x hx
  cases x <;> first | (cases this; done) | rfl
theorem h__law_behind : ∀ ds r, F__law_behind ds = some r → g__law_behind (endF r) (startS N__law_behind ds) := by
  intro ds r h
  unfold F__law_behind at h
  split at h
  · rename_i ds w i x
    dsimp only at h
    split at h
    · rename_i hc
      obtain ⟨hw, la, n5⟩ := hc
      have e := isW_ints hw
      generalize ds.map toI = A at e la n5 h
      subst e
      generalize Nat.log2 A.length = n at la n5 h
      split at h
      · rename_i c
        split at h
        · rename_i hi
          cases h
          obtain ⟨i, rfl⟩ := Int.eq_ofNat_of_zero_le hi.1
          have hi' : i < A.length := by
            have e : ((2 : Int) ^ n) = ((2 ^ n : Nat) : Int) := by simp
            omega
          refine ⟨.nw (A.map .int), .inl rfl, word_walk (by decide +kernel) (by rw [c]; decide +kernel) rfl (fun _ => ?_) fun z => absurd c z⟩
          refine ⟨A.map .int, .ok (.int (A.getD i 0 + x)), .ok (.int (i : Nat)), rfl, .inr ⟨f2_ok (f2_ok (x := .lst (A.map .int)) rfl rfl rfl rfl (ix_ints (by omega) (by omega))) rfl rfl rfl rfl, .inl rfl⟩, rfl, i, rfl, by rw [ints_ok]; exact hi', _, rfl, .inl ?_⟩
          rw [List.map_set]
          rfl
        · cases h
      · rename_i c
        split at h
        · rename_i hi
          obtain ⟨c1, hi, hx⟩ := hi
          cases h
          obtain ⟨i, rfl⟩ := Int.eq_ofNat_of_zero_le hi.1
          obtain ⟨x, rfl⟩ := Int.eq_ofNat_of_zero_le hx.1
          have pl : 2 ^ n ≤ 32 := Nat.pow_le_pow_right (n := 2) (by decide) n5
          refine ⟨.nw (A.map .int), .inl rfl, word_walk (by decide +kernel) (by rw [c1]; decide +kernel) rfl (fun z => absurd z c) fun _ => ?_⟩
          refine ⟨_, fLc_ok (ds := (reoI n A (swO n (i : Nat) (x : Nat))).map .int) (fItR_ok (n := (A.length : Nat)) (fA_1 rfl rfl (by show some (R.ok (.int (((A.map D.int).length : Nat) : Int))) = _; rw [ints_ok])) (by omega) (by omega)) (by rw [ints_ok, upI_len, Int.toNat_natCast]; omega) ?_, .inl rfl⟩
          rw [Int.toNat_natCast, la]
          refine (lcR_ints (fun _ => true) (fun s => A.getD (turnI s (i : Nat) (x : Nat)).toNat 0) (upI 0 (2 ^ n)) (fun _ _ => rfl) fun k hk _ => ?_).trans ?_
          · have hk := mem_upI.mp hk
            obtain ⟨k, rfl⟩ := Int.eq_ofNat_of_zero_le hk.1
            have to := turn_ok n (by omega) i (by omega) x (by omega) k (by omega)
            have lt := spotN_lt (s := k) (by omega) (by omega) (sw_perm n (by omega) i (by omega) x (by omega))
            refine ⟨_, f2_ok (x := .lst (A.map .int)) rfl rfl (ry := .ok (.int (turnI (k : Nat) (i : Nat) (x : Nat)))) (fA_3 (rx := .ok (.int (k : Nat))) rfl rfl rfl rfl rfl rfl (if_pos ⟨⟨by omega, by omega⟩, ⟨by omega, by omega⟩, by omega, by omega⟩)) rfl (ix_ints ?_ ?_), rfl⟩
            · rw [to]
              omega
            · rw [to]
              omega
          · rw [List.filter_eq_self.mpr fun _ _ => rfl, map_upI (f := fun s => A.getD (spotN (swO n (i : Nat) (x : Nat)) s) 0)]
            · rfl
            · intro s hs
              rw [turn_ok n (by omega) i (by omega) x (by omega) s hs, Int.toNat_natCast]
        · cases h
    · cases h
  · cases h
theorem ix_any {L : List D} {z : Int} (h0 : 0 ≤ z) (h : z.toNat < L.length) : oIx (.lst L) (.int z) = some (.ok (L.getD z.toNat .non)) := by
  refine oIx_ok h0 ?_
  rw [List.getD_eq_getElem?_getD, List.getElem?_eq_getElem h] <;> rfl
theorem ix_md {L : List D} {a n : Int} (hn : 0 < n) (h : n = (L.length : Nat)) : oIx (.lst L) (.int (a % n)) = some (.ok (L.getD (a % n).toNat .non)) := by
  have h1 := Int.emod_nonneg a (show n ≠ 0 by omega)
  have h2 := Int.emod_lt_of_pos a hn
  exact ix_any h1 (by omega)
theorem len__law_wrong : ∀ ds r, F__law_wrong ds = some r → ds.length = 2 := by
  intro ds r h
  unfold F__law_wrong at h
  split at h
  · rfl
  · cases h
theorem md_ok {f : Fx} {ε : En} {k c n : Int} (h : f ε = some (.ok (.int k))) (hc : 0 < c ∧ c < 1073741824) (hn : 0 < n) : f2 oMod (f2 oDiv f (fC (.int c))) (fC (.int n)) ε = some (.ok (.int (k / c % n))) :=
  f2_ok (f2_ok h rfl (ry := .ok (.int c)) rfl rfl (oDiv_ok hc.1 hc.2)) rfl (ry := .ok (.int n)) rfl rfl (oMod_ok hn)
theorem eqw_walk {f : Fx} {x y : Int} {g h : Ds} {E : De} {δ : Ev} (hf : f (pub δ) = some (.ok (.int x))) (h1 : x = y → g E δ) (h2 : x ≠ y → h E δ) : dIf (f2 oEq f (fC (.int y))) g h E δ := by
  refine ⟨.ok (.bl (decide (x = y))), f2_ok hf rfl (ry := .ok (.int y)) rfl rfl (oEq_int _ _), ?_⟩
  by_cases c : x = y
  · rw [decide_eq_true c]
    exact h1 c
  · rw [decide_eq_false c]
    exact h2 c
theorem h__law_wrong : ∀ ds r, F__law_wrong ds = some r → g__law_wrong (endF r) (startS N__law_wrong ds) := by
  intro ds r h
  unfold F__law_wrong at h
  split at h
  · rename_i m k
    split at h
    · rename_i hc
      obtain ⟨hm, hk⟩ := hc
      cases h
      have sh : f2 oShl (fC (.int 1)) (fV 0) (pub [.dat (.int m), .dat (.int k), .dat (oddW k)]) = some (.ok (.int (2 ^ m.toNat))) := f2_ok (rx := .ok (.int 1)) rfl rfl rfl rfl (oShl_one hm.1 (by omega))
      have kk : fV 1 (pub [.dat (.int m), .dat (.int k), .dat (oddW k)]) = some (.ok (.int k)) := rfl
      refine ⟨.ok (oddW k), .inl (f2_ok (x := .lst [.non, .int (-1), .bl true, .str "0", .lst [.int 0], .int (10 ^ 20)]) (rx := .nw [.non, .int (-1), .bl true, .str "0", .lst [.int 0], .int (10 ^ 20)]) ?_ rfl (ry := .ok (.int (k % 6))) (f2_ok (rx := .ok (.int k)) rfl rfl (ry := .ok (.int 6)) rfl rfl (oMod_ok (by decide))) rfl (ix_md (by decide) rfl)), ?_⟩
      · refine fA_of (argsV_cons rfl rfl (argsV_cons (rx := .ok (.int (-1))) rfl rfl (argsV_cons rfl rfl (argsV_cons rfl rfl (argsV_cons (rx := .nw [.int 0]) rfl rfl (argsV_cons (rx := .ok (.int (10 ^ 20))) (f2_ok (rx := .ok (.int 10)) (ry := .ok (.int 20)) rfl rfl rfl rfl (oPow_ok (by decide))) rfl rfl)))))) rfl
      have e0 := md_ok kk (c := 6) (n := 3) (by decide) (by decide)
      refine eqw_walk e0 (fun c => ?_) fun c0 => eqw_walk e0 (fun c => ?_) fun c1 => eqw_walk (md_ok kk (c := 18) (n := 2) (by decide) (by decide)) (fun c => ?_) fun c2 => ?_
      · refine ⟨_, fA_of (argsV_cons rfl rfl (argsV_cons (f2_ok (x := .lst [oddW k, .int (2 ^ m.toNat)]) (rx := .nw [oddW k, .int (2 ^ m.toNat)]) (fA_of (argsV_cons rfl rfl (argsV_cons sh rfl rfl)) rfl) rfl (md_ok kk (by decide) (by decide)) rfl (ix_md (by decide) rfl)) rfl (argsV_cons (f2_ok (x := .lst [.int 5, .non]) (rx := .nw [.int 5, .non]) rfl rfl (md_ok kk (by decide) (by decide)) rfl (ix_md (by decide) rfl)) rfl (argsV_cons rfl rfl rfl)))) rfl, .inl ?_⟩
        unfold wrongL
        rw [if_pos c]
      · refine ⟨_, fA_of (argsV_cons rfl rfl (argsV_cons rfl rfl (argsV_cons (f2_ok (x := .lst [.non, .bl true, .str "1", .lst [.int 1], .tup [.int 1]]) (rx := .nw [.non, .bl true, .str "1", .lst [.int 1], .tup [.int 1]]) rfl rfl (md_ok kk (by decide) (by decide)) rfl (ix_md (by decide) rfl)) rfl (argsV_cons rfl rfl rfl)))) rfl, .inl ?_⟩
        unfold wrongL
        rw [if_neg c0, if_pos c]
      · refine ⟨_, fA_of (argsV_cons (f2_ok (x := .lst [.str "value", .str "under", .str "over"]) (rx := .nw [.str "value", .str "under", .str "over"]) rfl rfl (md_ok kk (by decide) (by decide)) rfl (ix_md (by decide) rfl)) rfl (argsV_cons (f2_ok (x := .lst [oddW k, .int (2 ^ m.toNat)]) (rx := .nw [oddW k, .int (2 ^ m.toNat)]) (fA_of (argsV_cons rfl rfl (argsV_cons sh rfl rfl)) rfl) rfl (md_ok kk (by decide) (by decide)) rfl (ix_md (by decide) rfl)) rfl (argsV_cons rfl rfl (argsV_cons rfl rfl rfl)))) rfl, .inl ?_⟩
        unfold wrongL
        rw [if_neg c0, if_neg c1, if_pos c]
      · refine ⟨_, fA_of (argsV_cons rfl rfl (argsV_cons (f2_ok (x := .lst [oddW k, .int m]) (rx := .nw [oddW k, .int m]) (fA_of (argsV_cons rfl rfl (argsV_cons rfl rfl rfl)) rfl) rfl (md_ok kk (by decide) (by decide)) rfl (ix_md (by decide) rfl)) rfl (argsV_cons (f2_ok (x := .lst [.int 0, .non]) (rx := .nw [.int 0, .non]) rfl rfl (md_ok kk (by decide) (by decide)) rfl (ix_md (by decide) rfl)) rfl (argsV_cons rfl rfl rfl)))) rfl, .inl ?_⟩
        unfold wrongL
        rw [if_neg c0, if_neg c1, if_neg c2]
    · cases h
  · cases h
theorem getD_of {P : D → Prop} {L : List D} (h : ∀ d ∈ L, P d) (hn : P .non) (i : Nat) : P (L.getD i .non) := by
  rw [List.getD_eq_getElem?_getD]
  cases e : L[i]? with
  | none => exact hn
  | some d => exact h d (List.mem_of_getElem? e)
theorem odd_is (k e : Int) (he : e ≤ 10 ^ 20) : inB (oddW k) e = false ∧ isExcD (oddW k) = false := by
  refine getD_of (P := fun d => inB d e = false ∧ isExcD d = false) (fun d hd => ?_) ⟨rfl, rfl⟩ _
  simp only [List.mem_cons, List.not_mem_nil, or_false] at hd
  have inF : ∀ i : Int, ¬ (0 ≤ i ∧ i < e) → inB (.int i) e = false := fun i hi => by
    show (decide (0 ≤ i) && decide (i < e)) = false
    by_cases c : 0 ≤ i
    · rw [decide_eq_false (fun z => hi ⟨c, z⟩), Bool.and_false]
    · rw [decide_eq_false c, Bool.false_and]
  rcases hd with rfl | rfl | rfl | rfl | rfl | rfl
  · exact ⟨rfl, rfl⟩
  · exact ⟨inF _ (by omega), rfl⟩
  · exact ⟨rfl, rfl⟩
  · exact ⟨rfl, rfl⟩
  · exact ⟨rfl, rfl⟩
  · exact ⟨inF _ (by omega), rfl⟩
theorem bad_in {k e : Int} (he : e ≤ 10 ^ 20) (i : Nat) : inB (([oddW k, .int e] : List D).getD i .non) e = false ∧ isExcD (([oddW k, .int e] : List D).getD i .non) = false := by
  refine getD_of (P := fun d => inB d e = false ∧ isExcD d = false) (fun d hd => ?_) ⟨rfl, rfl⟩ _
  simp only [List.mem_cons, List.not_mem_nil, or_false] at hd
  rcases hd with rfl | rfl
  · exact odd_is k e he
  · refine ⟨?_, rfl⟩
    show (decide (0 ≤ e) && decide (e < e)) = false
    rw [decide_eq_false (show ¬ e < e by omega), Bool.and_false]
/-- what is wrong is told, and nothing changes -/
theorem wrong_caught {β : Bk} (hb : BkOk β) (k : Int) : ∃ (w d e due : _) (n : Nat), wrongL β.many k = [.str w, d, e, .str due] ∧ F__law_caught [β.d, .str w, d, e] = some (.ok (.tup [.exc n, .non])) ∧ (n = 0 ∨ n = 1 ∨ n = 2 ∨ n = 3 ∨ n = 8) ∧ kindL n = [due, "value"] ∧ PyData.strOk due = true := by
  have pl := pow_le5 hb.1.2
  have pe : ((2 : Int) ^ β.many.toNat) = ((2 ^ β.many.toNat : Nat) : Int) := by simp
  have p0 : 0 < 2 ^ β.many.toNat := Nat.pow_pos (by decide)
  have bs := bad_in (k := k) (e := 2 ^ β.many.toNat) (by omega)
  have bn := bad_in (k := k) (e := β.many) (by have := hb.1.2; omega)
  have ne : ∀ {L : List D}, (∀ d ∈ L, isExcD d = false) → ∀ i, isExcD (L.getD i .non) = false := fun h i => getD_of (P := fun d => isExcD d = false) h rfl i
  unfold wrongL
  split
  · refine ⟨_, _, _, _, 1, rfl, ?_, .inr (.inl rfl), rfl, by decide +kernel⟩
    have h2 : isExcD (([.int 5, .non] : List D).getD (k / 36 % 2).toNat .non) = false := ne (by simp [isExcD]) _
    show (if ("put" : Str) = "put" then _ else _ : Option R).bind capX = _
    rw [if_pos rfl]
    have : F_put [β.d, ([oddW k, .int (2 ^ β.many.toNat)] : List D).getD (k / 18 % 2).toNat .non, ([.int 5, .non] : List D).getD (k / 36 % 2).toNat .non] = some (.ex 1) := by
      unfold F_put
      rw [onBk_ok hb]
      dsimp only
      rw [if_neg (by rw [(bs _).2, h2]; decide), (bs _).1, if_neg (by decide)]
    rw [this] <;> rfl
  · split
    · refine ⟨_, _, _, _, 3, rfl, ?_, .inr (.inr (.inr (.inl rfl))), rfl, by decide +kernel⟩
      have h2 : isExcD (([.non, .bl true, .str "1", .lst [.int 1], .tup [.int 1]] : List D).getD (k / 18 % 5).toNat .non) = false ∧ isW (([.non, .bl true, .str "1", .lst [.int 1], .tup [.int 1]] : List D).getD (k / 18 % 5).toNat .non) = false := getD_of (P := fun d => isExcD d = false ∧ isW d = false) (by simp [isExcD, isW]) ⟨rfl, rfl⟩ _
      show (if ("put" : Str) = "put" then _ else _ : Option R).bind capX = _
      rw [if_pos rfl]
      have : F_put [β.d, .int 0, ([.non, .bl true, .str "1", .lst [.int 1], .tup [.int 1]] : List D).getD (k / 18 % 5).toNat .non] = some (.ex 3) := by
        unfold F_put
        rw [onBk_ok hb]
        dsimp only
        rw [if_neg (by rw [h2.1]; decide), inB_ok ⟨by omega, by omega⟩, if_pos rfl, h2.2, if_neg (by decide)]
      rw [this] <;> rfl
    · split
      · have h1 : 0 ≤ k / 36 % 3 := Int.emod_nonneg _ (by decide)
        have h2 : k / 36 % 3 < 3 := Int.emod_lt_of_pos _ (by decide)
        have hw : ∃ w : Str, ([.str "value", .str "under", .str "over"] : List D).getD (k / 36 % 3).toNat .non = .str w ∧ (w = "value" ∨ w = "under" ∨ w = "over") := by
          have : (k / 36 % 3).toNat = 0 ∨ (k / 36 % 3).toNat = 1 ∨ (k / 36 % 3).toNat = 2 := by omega
          rcases this with c | c | c <;> rw [c]
          · exact ⟨_, rfl, .inl rfl⟩
          · exact ⟨_, rfl, .inr (.inl rfl)⟩
          · exact ⟨_, rfl, .inr (.inr rfl)⟩
        obtain ⟨w, ew, hw⟩ := hw
        rw [ew]
        refine ⟨_, _, _, _, 1, rfl, ?_, .inr (.inl rfl), rfl, by decide +kernel⟩
        have on : ∀ F : Bk → Int → R, onBk (fun β xs => match xs with
            | [d] => if isExcD d then none else some (if inB d (2 ^ β.many.toNat) then F β (toI d) else .ex 1)
            | _ => none) [β.d, ([oddW k, .int (2 ^ β.many.toNat)] : List D).getD (k / 108 % 2).toNat .non] = some (.ex 1) := fun F => by
          rw [onBk_ok hb]
          dsimp only
          rw [(bs _).2, (bs _).1] <;> rfl
        rcases hw with rfl | rfl | rfl
        · show (F_value [β.d, ([oddW k, .int (2 ^ β.many.toNat)] : List D).getD (k / 108 % 2).toNat .non]).bind capX = _
          rw [show F_value [β.d, ([oddW k, .int (2 ^ β.many.toNat)] : List D).getD (k / 108 % 2).toNat .non] = some (.ex 1) from on fun β i => .ok (.int (β.nums.getD i.toNat 0))] <;> rfl
        · show (F_under [β.d, ([oddW k, .int (2 ^ β.many.toNat)] : List D).getD (k / 108 % 2).toNat .non]).bind capX = _
          rw [show F_under [β.d, ([oddW k, .int (2 ^ β.many.toNat)] : List D).getD (k / 108 % 2).toNat .non] = some (.ex 1) from on fun β i => .ok (.int (underI β.nums i))] <;> rfl
        · show (F_over [β.d, ([oddW k, .int (2 ^ β.many.toNat)] : List D).getD (k / 108 % 2).toNat .non]).bind capX = _
          rw [show F_over [β.d, ([oddW k, .int (2 ^ β.many.toNat)] : List D).getD (k / 108 % 2).toNat .non] = some (.ex 1) from on fun β i => .ok (.int (overI β.nums i))] <;> rfl
      · refine ⟨_, _, _, _, 2, rfl, ?_, .inr (.inr (.inl rfl)), rfl, by decide +kernel⟩
        have h2 : isExcD (([.int 0, .non] : List D).getD (k / 72 % 2).toNat .non) = false := ne (by simp [isExcD]) _
        show (F_swap [β.d, ([oddW k, .int β.many] : List D).getD (k / 36 % 2).toNat .non, ([.int 0, .non] : List D).getD (k / 72 % 2).toNat .non]).bind capX = _
        have : F_swap [β.d, ([oddW k, .int β.many] : List D).getD (k / 36 % 2).toNat .non, ([.int 0, .non] : List D).getD (k / 72 % 2).toNat .non] = some (.ex 2) := by
          unfold F_swap
          rw [onBk_ok hb]
          dsimp only
          rw [if_neg (by rw [(bn _).2, h2]; decide), (bn _).1, if_neg (by decide)]
        rw [this] <;> rfl
theorem sw_inv : ∀ n, n < 6 → ∀ i, i < n → ∀ j, j < n → ∀ s, s < 2 ^ n → spotN (swO n (i : Nat) (j : Nat)) (spotN (swO n (i : Nat) (j : Nat)) s) = s := by decide +kernel
theorem nat_of {i m : Int} (h : 0 ≤ i ∧ i < m) (hm : 0 ≤ m) : ∃ n : Nat, i = (n : Nat) ∧ n < m.toNat := ⟨i.toNat, by omega, by omega⟩
theorem bkok_put {β : Bk} {i x : Int} (h : BkOk β) : BkOk (putB β i x) := ⟨h.1, by show (β.nums.set _ _).length = _; rw [List.length_set]; exact h.2⟩
theorem bkok_ex {β : Bk} {i j : Int} (h : BkOk β) (dn : List (Int × Int × Int)) : BkOk ⟨β.many, exN β i j, dn⟩ := ⟨h.1, by show (exN β i j).length = _; unfold exN reoI; rw [tabL_len]⟩
theorem bok_ok {β : Bk} {rows : List (List Int)} (h : Bok β rows) : BkOk β := by
  induction h with
  | base m A h1 h2 => exact ⟨h1, h2⟩
  | put i x _ _ ih => exact bkok_put ih
  | swap i j _ _ _ ih => exact bkok_ex ih _
theorem bok_last {β : Bk} {rows : List (List Int)} (h : Bok β rows) : ∃ pre, rows = pre ++ [β.nums] ∧ pre.length = β.done.length := by
  induction h with
  | base m A h1 h2 => exact ⟨[], rfl, rfl⟩
  | @put β rows i x _ _ ih =>
    obtain ⟨pre, e, l⟩ := ih
    refine ⟨rows, rfl, ?_⟩
    show rows.length = (β.done ++ [_]).length
    rw [e, List.length_append, List.length_append, l] <;> rfl
  | @swap β rows i j _ _ _ ih =>
    obtain ⟨pre, e, l⟩ := ih
    refine ⟨rows, rfl, ?_⟩
    show rows.length = (β.done ++ [_]).length
    rw [e, List.length_append, List.length_append, l] <;> rfl
theorem set_back {A : List Int} {i : Nat} {x : Int} (h : i < A.length) : (A.set i (A.getD i 0 + x)).set i ((A.set i (A.getD i 0 + x)).getD i 0 - x) = A := by
  have e : (A.set i (A.getD i 0 + x)).getD i 0 = A.getD i 0 + x := by
    rw [List.getD_eq_getElem?_getD, List.getElem?_set_self h] <;> rfl
  rw [e, List.set_set, Int.add_sub_cancel]
  refine List.ext_getElem? fun k => ?_
  by_cases c : i = k
  · subst c
    rw [List.getElem?_set_self h, List.getD_eq_getElem?_getD, List.getElem?_eq_getElem h] <;> rfl
  · rw [List.getElem?_set_ne c]
theorem ex_back {β : Bk} (h : BkOk β) {i j : Int} (hi : 0 ≤ i ∧ i < β.many) (hj : 0 ≤ j ∧ j < β.many) (dn : List (Int × Int × Int)) : exN ⟨β.many, exN β i j, dn⟩ i j = β.nums := by
  obtain ⟨i, rfl, hi'⟩ := nat_of hi h.1.1
  obtain ⟨j, rfl, hj'⟩ := nat_of hj h.1.1
  have n6 : β.many.toNat < 6 := by have := h.1.2; omega
  show reoI β.many.toNat (reoI β.many.toNat β.nums (swO β.many.toNat (i : Nat) (j : Nat))) (swO β.many.toNat (i : Nat) (j : Nat)) = _
  have la : β.nums.length = 2 ^ β.many.toNat := h.2
  conv => rhs; rw [← tabL_of la]
  generalize β.many.toNat = n at hi' hj' n6
  unfold reoI
  refine List.map_congr_left fun s hs => ?_
  have hs := List.mem_range.mp hs
  rw [tabL_getD (spotN_lt (by omega) hs (sw_perm n n6 i hi' j hj')), sw_inv n n6 i hi' j hj' s hs]
theorem bok_undo {β : Bk} {rows : List (List Int)} (h : Bok β rows) : (β.done = [] ∧ rows.length = 1) ∨ (β.done ≠ [] ∧ ∃ β0 rows0, undoB β = some β0 ∧ Bok β0 rows0 ∧ rows = rows0 ++ [β.nums] ∧ rows.length ≠ 1) := by
  cases h with
  | base m A h1 h2 => exact .inl ⟨rfl, rfl⟩
  | @put β rows i x hb hi =>
    refine .inr ⟨by show β.done ++ [_] ≠ []; simp, β, rows, ?_, hb, rfl, ?_⟩
    · unfold undoB
      have e : (putB β i x).done.getLast? = some (0, i, x) := by show (β.done ++ [_]).getLast? = _; simp
      rw [e]
      dsimp only
      rw [if_pos rfl, if_pos (show 0 ≤ i ∧ i < 2 ^ (putB β i x).many.toNat from hi)]
      have hl : i.toNat < β.nums.length := by
        rw [(bok_ok hb).2]
        have e : ((2 : Int) ^ β.many.toNat) = ((2 ^ β.many.toNat : Nat) : Int) := by simp
        omega
      show some (⟨β.many, (β.nums.set i.toNat (β.nums.getD i.toNat 0 + x)).set i.toNat ((β.nums.set i.toNat (β.nums.getD i.toNat 0 + x)).getD i.toNat 0 - x), (β.done ++ [(0, i, x)]).dropLast⟩ : Bk) = some β
      rw [set_back hl, List.dropLast_concat]
    · obtain ⟨pre, e, _⟩ := bok_last hb
      rw [e]
      simp
  | @swap β rows i j hb hi hj =>
    refine .inr ⟨by show β.done ++ [_] ≠ []; simp, β, rows, ?_, hb, rfl, ?_⟩
    · unfold undoB
      have e : (swapB β i j).done.getLast? = some (1, i, j) := by show (β.done ++ [_]).getLast? = _; simp
      rw [e]
      dsimp only
      rw [if_neg (by decide), if_pos (show (0 ≤ i ∧ i < (swapB β i j).many) ∧ 0 ≤ j ∧ j < (swapB β i j).many from ⟨hi, hj⟩)]
      show some (⟨β.many, exN ⟨β.many, exN β i j, β.done ++ [(1, i, j)]⟩ i j, (β.done ++ [(1, i, j)]).dropLast⟩ : Bk) = some β
      rw [ex_back (bok_ok hb) hi hj, List.dropLast_concat]
    · obtain ⟨pre, e, _⟩ := bok_last hb
      rw [e]
      simp
/-! ### what is seen -/
theorem value_ok {β : Bk} (h : BkOk β) {i : Int} (hi : 0 ≤ i ∧ i < 2 ^ β.many.toNat) : F_value [β.d, .int i] = some (.ok (.int (β.nums.getD i.toNat 0))) := by
  unfold F_value
  rw [onBk_ok h]
  dsimp only
  rw [inB_ok hi] <;> rfl
theorem under_ok {β : Bk} (h : BkOk β) {i : Int} (hi : 0 ≤ i ∧ i < 2 ^ β.many.toNat) : F_under [β.d, .int i] = some (.ok (.int (underI β.nums i))) := by
  unfold F_under
  rw [onBk_ok h]
  dsimp only
  rw [inB_ok hi] <;> rfl
theorem over_ok {β : Bk} (h : BkOk β) {i : Int} (hi : 0 ≤ i ∧ i < 2 ^ β.many.toNat) : F_over [β.d, .int i] = some (.ok (.int (overI β.nums i))) := by
  unfold F_over
  rw [onBk_ok h]
  dsimp only
  rw [inB_ok hi] <;> rfl
theorem tableB_ok {β : Bk} (h : BkOk β) : F_table [β.d] = some (.nw (β.nums.map .int)) := by
  unfold F_table
  rw [onBk_ok h]
theorem many_ok {β : Bk} (h : BkOk β) (hl : β.done.length ≤ 1000) : F_many_done [β.d] = some (.ok (.int (β.done.length : Nat))) := by
  unfold F_many_done
  rw [onBk_ok h]
  exact if_pos hl
theorem under_all {A : List Int} {i : Nat} (h : i < A.length) : ((upI 0 A.length).filter fun k => decide (Builtin.bitAnd k (i : Nat) = k)) = partsI (i : Nat) := by
  have e : A.length = (i + 1) + (A.length - (i + 1)) := by omega
  rw [partsI_nat, upI0, e, List.range_add, List.map_append, List.filter_append]
  have z : ((((List.range (A.length - (i + 1))).map fun x => (i + 1) + x).map fun k : Nat => (k : Int)).filter fun k => decide (Builtin.bitAnd k (i : Nat) = k)) = [] := by
    rw [List.filter_eq_nil_iff]
    intro x hx
    obtain ⟨y, hy, rfl⟩ := List.mem_map.mp hx
    obtain ⟨w, _, rfl⟩ := List.mem_map.mp hy
    rw [bandN]
    have := Nat.and_le_right (n := i + 1 + w) (m := i)
    simp only [decide_eq_true_eq]
    omega
  rw [z, List.append_nil, List.filter_map]
  congr 1
  refine List.filter_congr fun k _ => ?_
  simp only [Function.comp]
  rw [bandN]
  exact decide_eq_decide.mpr (by omega)
theorem over_all {A : List Int} {i : Nat} : ((upI 0 A.length).filter fun k => decide (Builtin.bitAnd k (i : Nat) = (i : Nat))) = (upI 0 A.length).filter fun k => decide (Builtin.bitAnd (i : Nat) k = (i : Nat)) := by
  refine List.filter_congr fun k hk => ?_
  obtain ⟨k, rfl⟩ := Int.eq_ofNat_of_zero_le (mem_upI.mp hk).1
  rw [bandN, bandN, Nat.and_comm]
theorem at_last {α : Type} (xs : List α) (x : α) : atI (xs ++ [x]) (-1) = some x := by
  unfold atI ixN
  rw [if_neg (by omega), if_pos (by simp; omega)]
  show (xs ++ [x])[_]? = _
  have : ((-1 : Int) + (((xs ++ [x]).length : Nat) : Int)).toNat = xs.length := by
    rw [List.length_append, List.length_singleton]
    omega
  rw [this]
  simp
def seenD (b : Addr) (β : Bk) (r : Addr) (ds : List D) (n : Int) (h : Addr) (acc : List (List Int × List Int)) (one lo hi : Int) (s9 s10 s11 : Sl) : Ev :=
  [.bk b β, .rws r ds, .dat (.int n), .hld h acc, .dat (.lst (β.nums.map .int)), .dat (.int (β.nums.length : Nat)), .dat (.int one), .dat (.int lo), .dat (.int hi), s9, s10, s11, .un]
theorem iff_walk {f : Fx} {b : Bool} {g h : Ds} {E : De} {δ : Ev} (hf : f (pub δ) = some (.ok (.bl b))) (h1 : b = true → g E δ) (h2 : b = false → h E δ) : dIf f g h E δ := by
  refine ⟨_, hf, ?_⟩
  cases b with
  | true => exact h1 rfl
  | false => exact h2 rfl
theorem eqc {f : Fx} {ε : En} {x y : Int} (h : f ε = some (.ok (.int x))) : f2 oEq f (fC (.int y)) ε = some (.ok (.bl (decide (x = y)))) := f2_ok h rfl (ry := .ok (.int y)) rfl rfl (oEq_int _ _)
theorem ne_same {f g : Fx} {ε : En} {x : Int} (h : f ε = some (.ok (.int x))) (h2 : g ε = some (.ok (.int x))) : f2 oNe f g ε = some (.ok (.bl false)) := f2_ok h rfl h2 rfl ((oNe_int _ _).trans (by rw [decide_eq_true rfl]; rfl))
theorem cond_f {f g h k : Fx} {ε : En} {x c : Int} (hf : f ε = some (.ok (.int x))) (hg : g ε = some (.ok (.bl false))) (hk : k ε = some (.ok (.bl false))) : fAnd (f2 oEq f (fC (.int c))) (fOr g k) ε = some (.ok (.bl false)) := by
  by_cases e : x = c
  · exact fAnd_t ((eqc hf).trans (by rw [decide_eq_true e])) (fOr_f hg hk)
  · exact fAnd_f ((eqc hf).trans (by rw [decide_eq_false e]))
abbrev bodyS : Ds := (dSeq (dAsg 10 (f2 oMod (f2 oAdd (fV 2) (f2 oMul (fV 9) (f2 oAdd (fC (.int 1)) (f2 oMul (fC (.int 2)) (f2 oMod (f2 oDiv (fV 2) (fC (.int 4))) (fC (.int 2))))))) (fC (.int 4)))) <|
  dSeq (dIf (fAnd (f2 oEq (fV 10) (fC (.int 0))) (fOr (f2 oNe (fMeth F_value (fV 0) [fV 6]) (f2 oIx (fV 4) (fV 6))) (f2 oNe (fMeth F_under (fV 0) [fV 6]) (fV 7)))) (dRetM (fC (.bl false))) (dNext)) <|
  dSeq (dIf (fAnd (f2 oEq (fV 10) (fC (.int 1))) (fOr (f2 oNe (fMeth F_over (fV 0) [fV 6]) (fV 8)) (f2 oNe (fMeth F_many_done (fV 0) []) (f2 oSub (fA oLen [fV 1]) (fC (.int 1)))))) (dRetM (fC (.bl false))) (dNext)) <|
  dSeq (dIf (fAnd (f2 oEq (fV 10) (fC (.int 2))) (fOr (f2 oNe (fMeth F_under (fV 0) [fV 6]) (fV 7)) (f2 oNe (fMeth F_over (fV 0) [fV 6]) (fV 8)))) (dRetM (fC (.bl false))) (dNext)) <|
  dIf (f2 oEq (fV 10) (fC (.int 3))) (dSeq (dOwn 11 (fMeth F_table (fV 0) [])) <|
  dSeq (dIf (fNot (fTru (fA F__law_is_table [fV 11, fV 4]))) (dRetM (fC (.bl false))) (dNext)) <|
  dSeq (dApp 11 (fV 2)) <|
  dHldApp 3 11 (f2 oAdd (fV 4) (fA oLst [fV 2]))) (dNext))
theorem seen_turns {E : De} {b r h : Addr} {β : Bk} {ds : List D} {n one : Int} (hb : BkOk β) (hd : ds.length = β.done.length + 1) (hl : ds.length ≤ 900) (ho : 0 ≤ one ∧ one < 2 ^ β.many.toNat) : ∀ (xs : List Int) (acc : List (List Int × List Int)) (s9 s10 s11 : Sl), (∀ x ∈ xs, 0 ≤ x ∧ x < 4) → acc.length + xs.length ≤ 80010 →
    (∀ s9 s10 s11, E.nx (seenD b β r ds n h (acc ++ List.replicate (xs.filter fun j => decide (wayS n j = 3)).length (β.nums ++ [n], β.nums ++ [n])) one (underI β.nums one) (overI β.nums one) s9 s10 s11)) →
    forW (.nm 9) bodyS E (xs.map .int) (seenD b β r ds n h acc one (underI β.nums one) (overI β.nums one) s9 s10 s11)
  | [], acc, s9, s10, s11, _, _, hE => by
    have := hE s9 s10 s11
    rw [List.filter_nil, List.length_nil, List.replicate_zero, List.append_nil] at this
    exact this
  | x :: xs, acc, s9, s10, s11, hx, ha, hE => by
    have hx0 := hx x List.mem_cons_self
    rw [List.length_cons] at ha
    have pl := pow_le5 hb.1.2
    have pe : ((2 : Int) ^ β.many.toNat) = ((2 ^ β.many.toNat : Nat) : Int) := by simp
    have lb := hb.2
    have o1 : one.toNat < β.nums.length := by omega
    refine ⟨[.int x], rfl, .ok (.int (wayS n x)), .inl ?_, ?_⟩
    · refine f2_ok (f2_ok (rx := .ok (.int n)) rfl rfl (f2_ok (rx := .ok (.int x)) rfl rfl (f2_ok (rx := .ok (.int 1)) rfl rfl (f2_ok (rx := .ok (.int 2)) rfl rfl (f2_ok (f2_ok (rx := .ok (.int n)) (ry := .ok (.int 4)) rfl rfl rfl rfl (oDiv_ok (by decide) (by decide))) rfl (ry := .ok (.int 2)) rfl rfl (oMod_ok (by decide))) rfl (oMul_ok (mul_l (by decide) (by decide)))) rfl rfl) rfl (oMul_ok (mul_l (by omega) (by omega)))) rfl rfl) rfl (ry := .ok (.int 4)) rfl rfl (oMod_ok (by decide))
    · have go : ∀ acc', (acc' = acc ∧ wayS n x ≠ 3 ∨ acc' = acc ++ [(β.nums ++ [n], β.nums ++ [n])] ∧ wayS n x = 3) → ∀ s11, forW (.nm 9) bodyS E (xs.map .int) (seenD b β r ds n h acc' one (underI β.nums one) (overI β.nums one) (.dat (.int x)) (.dat (.int (wayS n x))) s11) := fun acc' hc s11 => by
        refine seen_turns hb hd hl ho xs acc' _ _ _ (fun y hy => hx y (List.mem_cons_of_mem _ hy)) ?_ ?_
        · rcases hc with ⟨rfl, _⟩ | ⟨rfl, _⟩
          · omega
          · rw [List.length_append, List.length_singleton]
            omega
        · rcases hc with ⟨rfl, hw⟩ | ⟨rfl, hw⟩
          · rw [List.filter_cons_of_neg (by rw [decide_eq_false hw]; decide)] at hE
            exact hE
          · rw [List.filter_cons_of_pos (by rw [decide_eq_true hw]), List.length_cons, List.replicate_succ] at hE
            rw [List.append_assoc]
            exact hE
      have v10 : ∀ s11, fV 10 (pub (seenD b β r ds n h acc one (underI β.nums one) (overI β.nums one) (.dat (.int x)) (.dat (.int (wayS n x))) s11)) = some (.ok (.int (wayS n x))) := fun _ => rfl
      have ev : fMeth F_value (fV 0) [fV 6] (pub (seenD b β r ds n h acc one (underI β.nums one) (overI β.nums one) (.dat (.int x)) (.dat (.int (wayS n x))) s11)) = some (.ok (.int (β.nums.getD one.toNat 0))) := (fM_2 (β := β) rfl rfl).trans (value_ok hb ho)
      have eu : fMeth F_under (fV 0) [fV 6] (pub (seenD b β r ds n h acc one (underI β.nums one) (overI β.nums one) (.dat (.int x)) (.dat (.int (wayS n x))) s11)) = some (.ok (.int (underI β.nums one))) := (fM_2 (β := β) rfl rfl).trans (under_ok hb ho)
      have eo : fMeth F_over (fV 0) [fV 6] (pub (seenD b β r ds n h acc one (underI β.nums one) (overI β.nums one) (.dat (.int x)) (.dat (.int (wayS n x))) s11)) = some (.ok (.int (overI β.nums one))) := (fM_2 (β := β) rfl rfl).trans (over_ok hb ho)
      have em : fMeth F_many_done (fV 0) [] (pub (seenD b β r ds n h acc one (underI β.nums one) (overI β.nums one) (.dat (.int x)) (.dat (.int (wayS n x))) s11)) = some (.ok (.int (β.done.length : Nat))) := (fM_1 (β := β) rfl).trans (many_ok hb (by omega))
      refine iff_walk (b := false) (cond_f (h := fV 0) (v10 s11) (ne_same ev ?_) (ne_same eu rfl)) (fun z => by cases z) fun _ => iff_walk (b := false) (cond_f (h := fV 0) (v10 s11) (ne_same eo rfl) (ne_same em ?_)) (fun z => by cases z) fun _ => iff_walk (b := false) (cond_f (h := fV 0) (v10 s11) (ne_same eu rfl) (ne_same eo rfl)) (fun z => by cases z) fun _ => iff_walk (eqc (v10 s11)) (fun c => ?_) fun c => go acc (.inl ⟨rfl, of_decide_eq_false c⟩) s11
      · exact f2_ok (x := .lst (β.nums.map .int)) (y := .int one) rfl rfl rfl rfl (ix_ints ho.1 (by omega))
      · refine f2_ok (fA_1 (x := .lst ds) rfl rfl rfl) rfl (ry := .ok (.int 1)) rfl rfl ?_
        show some (R.ok (.int (((ds.length : Nat) : Int) - 1))) = _
        rw [hd, show (((β.done.length + 1 : Nat) : Int) - 1) = ((β.done.length : Nat) : Int) by omega]
      · refine ⟨.nw (β.nums.map .int), .inr ⟨(fM_1 (β := β) rfl).trans (tableB_ok hb), .inl (flat_ints _)⟩, ?_⟩
        refine iff_walk (b := false) ?_ (fun z => by cases z) fun _ => ?_
        · have := fTru_ok (f := fA F__law_is_table [fV 11, fV 4]) (fA_2 (ε := pub ((seenD b β r ds n h acc one (underI β.nums one) (overI β.nums one) (.dat (.int x)) (.dat (.int (wayS n x))) s11).set 11 (.own (β.nums.map .int)))) rfl rfl rfl rfl (table_ok β.nums β.nums (by omega)))
          rw [decide_eq_true rfl] at this
          exact fNot_ok this
        · refine ⟨β.nums.map .int, .ok (.int n), rfl, .inl rfl, by rw [ints_ok]; omega, h, acc, β.nums ++ [n], β.nums ++ [n], rfl, ?_, by decide, ?_, by omega, go _ (.inr ⟨rfl, of_decide_eq_true c⟩) .un⟩
          · show some (Sl.own (β.nums.map .int ++ [.int n])) = _
            rw [List.map_append] <;> rfl
          · refine f2_ok (x := .lst (β.nums.map .int)) (y := .lst [.int n]) rfl rfl (ry := .nw [.int n]) rfl rfl ?_
            rw [List.map_append]
            exact oCat_ok (by rw [ints_ok, List.length_singleton]; omega)
theorem lenM__law_seen : ∀ ss z, FM__law_seen ss = some z → ss.length = 4 := by
  intro ss z h
  unfold FM__law_seen at h
  split at h
  · rfl
  · cases h
theorem hM__law_seen : ∀ ss z ss', FM__law_seen ss = some (z, ss') → g__law_seen (endM z ss') (startM N__law_seen ss) := by
  intro ss z ss' h
  unfold FM__law_seen at h
  split at h
  · rename_i b β r ds n h0 ps
    split at h
    · rename_i hc
      obtain ⟨⟨hd, hk⟩, hn, hl, hp⟩ := hc
      cases h
      have hb := bok_ok hk
      obtain ⟨pre, er, lr⟩ := bok_last hk
      have ed : ds = pre.map rowD ++ [rowD β.nums] := by
        rw [er, List.map_append] at hd
        exact hd
      have ld : ds.length = β.done.length + 1 := by
        rw [ed, List.length_append, List.length_map, lr] <;> rfl
      have pl := pow_le5 hb.1.2
      have lb := hb.2
      have p0 : 0 < 2 ^ β.many.toNat := Nat.pow_pos (by decide)
      have pe : ((2 : Int) ^ β.many.toNat) = ((2 ^ β.many.toNat : Nat) : Int) := by simp
      have m0 := Int.emod_nonneg (n / 7) (show (β.nums.length : Int) ≠ 0 by omega)
      have m1 := Int.emod_lt_of_pos (n / 7) (show (0 : Int) < β.nums.length by omega)
      refine ⟨r, ds, -1, rowD β.nums, rfl, f1_ok (rx := .ok (.int 1)) rfl rfl rfl, by rw [ed]; exact at_last _ _, .ok (.int (β.nums.length : Nat)), .inl (fA_1 (x := .lst (β.nums.map .int)) rfl rfl (by show some (R.ok (.int (((β.nums.map D.int).length : Nat) : Int))) = _; rw [ints_ok])), .ok (.int (n / 7 % (β.nums.length : Nat))), .inl (f2_ok (f2_ok (rx := .ok (.int n)) (ry := .ok (.int 7)) rfl rfl rfl rfl (oDiv_ok (by decide) (by decide))) rfl rfl rfl (oMod_ok (by omega))), ?_⟩
      obtain ⟨i, ei⟩ := Int.eq_ofNat_of_zero_le m0
      rw [ei] at m1 ⊢
      have hi : i < β.nums.length := by omega
      refine ⟨.ok (.int (underI β.nums (i : Nat))), .inl (fA_1 (fLc_ok (ds := ((partsI (i : Nat)).map fun k => β.nums.getD k.toNat 0).map .int) (fItR_ok (n := (β.nums.length : Nat)) rfl (by omega) (by omega)) (by rw [ints_ok, upI_len, Int.toNat_natCast]; omega) ?_) rfl (sum_ints' _)), ?_⟩
      · rw [Int.toNat_natCast, ← under_all hi]
        refine lcR_ints (fun k => decide (Builtin.bitAnd k (i : Nat) = k)) (fun k => β.nums.getD k.toNat 0) _ (fun k hk => ?_) fun k hk _ => ?_
        · exact oEq_int _ _
        · have hk := mem_upI.mp hk
          exact ⟨_, f2_ok (x := .lst (β.nums.map .int)) rfl rfl rfl rfl (ix_ints hk.1 (by omega)), rfl⟩
      · refine ⟨.ok (.int (overI β.nums (i : Nat))), .inl (fA_1 (fLc_ok (ds := (((upI 0 β.nums.length).filter fun k => decide (Builtin.bitAnd (i : Nat) k = (i : Nat))).map fun k => β.nums.getD k.toNat 0).map .int) (fItR_ok (n := (β.nums.length : Nat)) rfl (by omega) (by omega)) (by rw [ints_ok, upI_len, Int.toNat_natCast]; omega) ?_) rfl (sum_ints' _)), ?_⟩
        · rw [Int.toNat_natCast, ← over_all]
          refine lcR_ints (fun k => decide (Builtin.bitAnd k (i : Nat) = (i : Nat))) (fun k => β.nums.getD k.toNat 0) _ (fun k hk => ?_) fun k hk _ => ?_
          · exact oEq_int _ _
          · have hk := mem_upI.mp hk
            exact ⟨_, f2_ok (x := .lst (β.nums.map .int)) rfl rfl rfl rfl (ix_ints hk.1 (by omega)), rfl⟩
        · refine ⟨.it ((upI 0 4).map .int) true, .inl (fItR_ok (n := 4) rfl (by decide) (by decide)), ?_⟩
          exact seen_turns (b := b) (r := r) (h := h0) (n := n) hb ld hl ⟨by omega, by omega⟩ (upI 0 4) ps .un .un .un (fun x hx => by have := mem_upI.mp hx; omega) (by rw [upI_len]; omega) fun s9 s10 s11 => ⟨.ok (.bl true), .inl rfl, rfl, keep_pre [.bk b β, .rws r ds, .dat (.int n), .hld h0 (ps ++ List.replicate (cntS n) (β.nums ++ [n], β.nums ++ [n]))] [.dat (.lst (β.nums.map .int)), .dat (.int (β.nums.length : Nat)), .dat (.int (i : Nat)), .dat (.int (underI β.nums (i : Nat))), .dat (.int (overI β.nums (i : Nat))), s9, s10, s11, .un]⟩
    · cases h
  · cases h
theorem lenM__law_deed : ∀ ss z, FM__law_deed ss = some z → ss.length = 5 := by
  intro ss z h
  unfold FM__law_deed at h
  split at h
  · rfl
  · cases h
theorem bok_nil {β : Bk} {rows : List (List Int)} (h : Bok β rows) : rows.length = β.done.length + 1 := by
  obtain ⟨pre, e, l⟩ := bok_last h
  rw [e, List.length_append, l] <;> rfl
theorem behind_put {β : Bk} (hb : BkOk β) {i x : Int} (hi : 0 ≤ i ∧ i < 2 ^ β.many.toNat) : F__law_behind [rowD β.nums, .str "put", .int i, .int x] = some (.nw ((putB β i x).nums.map .int)) := by
  have e : (β.nums.map D.int).map toI = β.nums := toI_map _
  have al : (β.nums.map D.int).all isW = true := by
    rw [List.all_eq_true]
    intro y hy
    obtain ⟨k, _, rfl⟩ := List.mem_map.mp hy
    rfl
  have lg : Nat.log2 β.nums.length = β.many.toNat := by rw [hb.2]; exact log_pow _
  unfold F__law_behind rowD
  dsimp only
  rw [e, lg, if_pos ⟨al, hb.2, by have := hb.1.2; omega⟩, if_pos rfl, if_pos hi] <;> rfl
theorem behind_swap {β : Bk} (hb : BkOk β) {i j : Int} (hi : 0 ≤ i ∧ i < β.many) (hj : 0 ≤ j ∧ j < β.many) : F__law_behind [rowD β.nums, .str "swap", .int i, .int j] = some (.nw ((swapB β i j).nums.map .int)) := by
  have e : (β.nums.map D.int).map toI = β.nums := toI_map _
  have al : (β.nums.map D.int).all isW = true := by
    rw [List.all_eq_true]
    intro y hy
    obtain ⟨k, _, rfl⟩ := List.mem_map.mp hy
    rfl
  have lg : Nat.log2 β.nums.length = β.many.toNat := by rw [hb.2]; exact log_pow _
  have mm : ((β.many.toNat : Nat) : Int) = β.many := Int.toNat_of_nonneg hb.1.1
  unfold F__law_behind rowD
  dsimp only
  rw [e, lg, if_pos ⟨al, hb.2, by have := hb.1.2; omega⟩, if_neg (by decide), mm, if_pos ⟨rfl, hi, hj⟩] <;> rfl
theorem caught_put {b : Addr} {β : Bk} (hb : BkOk β) (hl : β.done.length < 1000) {i x : Int} (hi : 0 ≤ i ∧ i < 2 ^ β.many.toNat) : FM__law_caught [.bk b β, .dat (.str "put"), .dat (.int i), .dat (.int x)] = some (.ok (.tup [.non, .non]), [.bk b (putB β i x), .dat (.str "put"), .dat (.int i), .dat (.int x)]) := by
  unfold FM__law_caught
  dsimp only
  rw [if_pos rfl]
  unfold FM_put
  dsimp only
  rw [if_pos ⟨hb, hi, hl⟩] <;> rfl
theorem caught_swap {b : Addr} {β : Bk} (hb : BkOk β) (hl : β.done.length < 1000) {i j : Int} (hi : 0 ≤ i ∧ i < β.many) (hj : 0 ≤ j ∧ j < β.many) : FM__law_caught [.bk b β, .dat (.str "swap"), .dat (.int i), .dat (.int j)] = some (.ok (.tup [.non, .non]), [.bk b (swapB β i j), .dat (.str "swap"), .dat (.int i), .dat (.int j)]) := by
  unfold FM__law_caught
  dsimp only
  rw [if_neg (by decide), if_pos rfl]
  unfold FM_swap
  dsimp only
  rw [if_pos ⟨hb, ⟨hi, hj⟩, hl⟩] <;> rfl
theorem caught_undo0 {b : Addr} {β : Bk} (hb : BkOk β) (hl : β.done = []) : FM__law_caught [.bk b β, .dat (.str "undo"), .dat (.int 0), .dat (.int 0)] = some (.ok (.tup [.exc 8, .non]), [.bk b β, .dat (.str "undo"), .dat (.int 0), .dat (.int 0)]) := by
  unfold FM__law_caught
  dsimp only
  rw [if_neg (by decide), if_neg (by decide), if_pos rfl]
  unfold FM_undo
  dsimp only
  rw [if_pos ⟨hb, by rw [hl]; decide⟩, if_pos hl] <;> rfl
theorem caught_undo1 {b : Addr} {β β0 : Bk} (hb : BkOk β) (hl : β.done.length ≤ 1000) (hn : β.done ≠ []) (hu : undoB β = some β0) : FM__law_caught [.bk b β, .dat (.str "undo"), .dat (.int 0), .dat (.int 0)] = some (.ok (.tup [.non, .non]), [.bk b β0, .dat (.str "undo"), .dat (.int 0), .dat (.int 0)]) := by
  unfold FM__law_caught
  dsimp only
  rw [if_neg (by decide), if_neg (by decide), if_pos rfl]
  unfold FM_undo
  dsimp only
  rw [if_pos ⟨hb, hl⟩, if_neg hn, hu] <;> rfl
theorem map_root4 (a b : Sl) (x y z : D) (h : a.root = b.root) : [a, .dat x, .dat y, .dat z].map Sl.root = [b, .dat x, .dat y, .dat z].map Sl.root := by
  show [a.root, _, _, _] = [b.root, _, _, _]
  rw [h] <;> rfl
theorem deed_tail {b r : Addr} {β β' : Bk} {ds pre : List D} {m k g i x w0 : Int} {w : Str} (hw : PyData.strOk w = true) (hd : ds = pre ++ [rowD β.nums]) (hl : ds.length ≤ 800)
    (hc : FM__law_caught [.bk b β, .dat (.str w), .dat (.int i), .dat (.int x)] = some (.ok (.tup [.non, .non]), [.bk b β', .dat (.str w), .dat (.int i), .dat (.int x)])) (hbe : F__law_behind [rowD β.nums, .str w, .int i, .int x] = some (.nw (β'.nums.map .int))) :
    dSeq (dAsgTM [10, 11] (.fn [.sl 0, .ex (f2 oIx (fV 12) (fC (.int 0))), .ex (f2 oIx (fV 12) (fC (.int 1))), .ex (f2 oIx (fV 12) (fC (.int 2)))] FM__law_caught)) (dSeq (dRwApp 2 (fA F__law_behind [f2 oIx (fV 2) (f1 oNeg (fC (.int 1))), f2 oIx (fV 12) (fC (.int 0)), f2 oIx (fV 12) (fC (.int 1)), f2 oIx (fV 12) (fC (.int 2))])) (dRetM (fAnd (f2 oIsN (fV 10) (fC (.non))) (f2 oIsN (fV 11) (fC (.non))))))
    (endM (.ok (.bl true)) [.bk b β', .dat (.int m), .rws r (ds ++ [rowD β'.nums]), .dat (.int k), .dat (.int g)])
    [.bk b β, .dat (.int m), .rws r ds, .dat (.int k), .dat (.int g), .dat (.int w0), .un, .un, .un, .un, .un, .un, .dat (.tup [.str w, .int i, .int x])] := by
  refine ⟨_, ⟨[.bk b β, .dat (.str w), .dat (.int i), .dat (.int x)], rfl, hc, map_root4 _ _ _ _ _ rfl⟩, [.non, .non], rfl, rfl, r, ds, .nw (β'.nums.map .int), rfl, .inr ⟨?_, .inl (flat_ints _)⟩, by omega, .ok (.bl true), .inl rfl, rfl, keep_pre [.bk b β', .dat (.int m), .rws r (ds ++ [rowD β'.nums]), .dat (.int k), .dat (.int g)] [.dat (.int w0), .un, .un, .un, .un, .dat .non, .dat .non, .dat (.tup [.str w, .int i, .int x])]⟩
  refine fA_of (argsV_cons (f2_ok (x := .lst ds) (y := .int (-1)) rfl rfl (f1_ok (rx := .ok (.int 1)) rfl rfl rfl) rfl (z := some (.ok (rowD β.nums))) ?_) rfl (argsV_cons (rx := .ok (.str w)) rfl rfl (argsV_cons (rx := .ok (.int i)) rfl rfl (argsV_cons (rx := .ok (.int x)) rfl rfl rfl)))) hbe
  unfold oIx
  rw [hd]
  simp only [at_last]
  rfl
theorem hM__law_deed : ∀ ss z ss', FM__law_deed ss = some (z, ss') → g__law_deed (endM z ss') (startM N__law_deed ss) := by
  intro ss z ss' h
  unfold FM__law_deed at h
  split at h
  · rename_i b β m r ds k g
    split at h
    · rename_i hc
      obtain ⟨⟨hd, hk⟩, hm, h0, hl⟩ := hc
      cases h
      subst hm
      have hb := bok_ok hk
      have lk := bok_nil hk
      generalize rowsOf ds = rows at hd hk lk
      have ld : ds.length = rows.length := by rw [hd, List.length_map]
      obtain ⟨pre, er, lr⟩ := bok_last hk
      have ed : ds = pre.map rowD ++ [rowD β.nums] := by
        rw [er, List.map_append] at hd
        exact hd
      have pl := pow_le5 hb.1.2
      have p0 : 0 < 2 ^ β.many.toNat := Nat.pow_pos (by decide)
      have pe : ((2 : Int) ^ β.many.toNat) = ((2 ^ β.many.toNat : Nat) : Int) := by simp
      have w0 := Int.emod_nonneg k (show (7 : Int) ≠ 0 by decide)
      have w1 := Int.emod_lt_of_pos k (show (0 : Int) < 7 by decide)
      have hmm := hb.1
      refine ⟨.ok (.int (k % 7)), .inl (f2_ok (rx := .ok (.int k)) (ry := .ok (.int 7)) rfl rfl rfl rfl (oMod_ok (by decide))), ?_⟩
      refine iff_walk (eqc (x := k % 7) rfl) (fun c => ?_) fun c => ?_
      · have c := of_decide_eq_true c
        have de : deedB β rows k g = (β, rows) := if_pos c
        rw [de]
        obtain ⟨w, d, e, due, n, hw, hca, hn, hki, hs⟩ := wrong_caught hb (k / 7)
        refine ⟨.ok (.tup (wrongL β.many (k / 7))), .inl (fA_2 (rx := .ok (.int β.many)) rfl rfl (f2_ok (rx := .ok (.int k)) (ry := .ok (.int 7)) rfl rfl rfl rfl (oDiv_ok (by decide) (by decide))) rfl (if_pos ⟨hb.1, Int.ediv_nonneg h0 (by decide)⟩)), [.str w, d, e, .str due], by rw [hw] <;> rfl, ?_⟩
        refine ⟨.ok (.bl true), .inr ⟨?_, .inl rfl⟩, rfl, ?_⟩
        · refine f2_ok (rx := .nw ((kindL n).map .str)) (ry := .nw [.str due, .str "value"]) (fA_1 (rx := .ok (.exc n)) (f2_ok (rx := .ok (.tup [.exc n, .non])) (ry := .ok (.int 0)) (fA_of (argsV_cons (rx := .ok β.d) rfl rfl (argsV_cons (rx := .ok (.str w)) rfl rfl (argsV_cons (rx := .ok d) rfl rfl (argsV_cons (rx := .ok e) rfl rfl rfl)))) hca) rfl rfl rfl rfl) rfl (if_pos hn)) rfl (fA_of (argsV_cons (rx := .ok (.str due)) rfl rfl (argsV_cons rfl rfl rfl)) rfl) rfl ?_
          rw [hki]
          exact oEq_self [due, "value"] (by rw [List.all_cons, hs]; decide +kernel)
        · have kp := keep_pre [.bk b β, .dat (.int β.many), .rws r ds, .dat (.int k), .dat (.int g)] [.dat (.int (k % 7)), .dat (.str w), .dat d, .dat e, .dat (.str due), .un, .un, .un]
          rw [← hd]
          exact kp
      · have c := of_decide_eq_false c
        have v5 : fV 5 (pub ((startM N__law_deed [.bk b β, .dat (.int β.many), .rws r ds, .dat (.int k), .dat (.int g)]).set 5 (.dat (.int (k % 7))))) = some (.ok (.int (k % 7))) := rfl
        have cond : fOr (f2 oEq (fV 5) (fC (.int 5))) (fAnd (f2 oEq (fV 5) (fC (.int 4))) (f2 oEq (fV 1) (fC (.int 0)))) (pub ((startM N__law_deed [.bk b β, .dat (.int β.many), .rws r ds, .dat (.int k), .dat (.int g)]).set 5 (.dat (.int (k % 7))))) = some (.ok (.bl (decide (k % 7 = 5 ∨ (k % 7 = 4 ∧ β.many = 0))))) := by
          by_cases c5 : k % 7 = 5
          · have e1 := eqc (y := 5) v5
            rw [decide_eq_true c5] at e1
            rw [decide_eq_true (.inl c5)]
            unfold fOr
            rw [e1] <;> rfl
          · have e1 := eqc (y := 5) v5
            rw [decide_eq_false c5] at e1
            refine fOr_f e1 ?_
            by_cases c4 : k % 7 = 4
            · have e2 := eqc (y := 4) v5
              rw [decide_eq_true c4] at e2
              refine fAnd_t e2 ((eqc (x := β.many) rfl).trans ?_)
              congr 3
              exact decide_eq_decide.mpr ⟨fun z => .inr ⟨c4, z⟩, fun z => z.elim (fun z => absurd z c5) fun z => z.2⟩
            · have e2 := eqc (y := 4) v5
              rw [decide_eq_false c4] at e2
              rw [decide_eq_false (fun z => z.elim c5 fun z => c4 z.1)]
              exact fAnd_f e2
        refine iff_walk cond (fun cu => ?_) fun cu => ?_
        · have cu := of_decide_eq_true cu
          have de : deedB β rows k g = if rows.length = 1 then (β, rows) else ((undoB β).getD β, rows.dropLast) := by
            unfold deedB
            rw [if_neg c, if_pos cu]
          rw [de]
          rcases bok_undo hk with ⟨hn, h1⟩ | ⟨hn, β0, rows0, hu, hb0, er0, h1⟩
          · rw [if_pos h1]
            refine ⟨_, ⟨[.bk b β, .dat (.str "undo"), .dat (.int 0), .dat (.int 0)], rfl, caught_undo0 hb hn, rfl⟩, [.exc 8, .non], rfl, rfl, ?_⟩
            refine iff_walk (b := true) ?_ (fun _ => ?_) fun z => by cases z
            · refine (eqc (x := (ds.length : Nat)) (fA_1 (x := .lst ds) rfl rfl rfl)).trans ?_
              rw [decide_eq_true (by omega)]
            · refine ⟨.ok (.bl true), .inl ?_, rfl, ?_⟩
              · exact f2_ok (rx := .nw ((kindL 8).map .str)) (ry := .nw [.str "nothing", .str "value"]) (fA_1 (rx := .ok (.exc 8)) rfl rfl rfl) rfl rfl rfl (oEq_self ["nothing", "value"] (by decide +kernel))
              · have kp := keep_pre [.bk b β, .dat (.int β.many), .rws r ds, .dat (.int k), .dat (.int g)] [.dat (.int (k % 7)), .un, .un, .un, .un, .dat (.exc 8), .dat .non, .un]
                rw [← hd]
                exact kp
          · rw [if_neg h1, hu]
            refine ⟨_, ⟨[.bk b β, .dat (.str "undo"), .dat (.int 0), .dat (.int 0)], rfl, caught_undo1 hb (by omega) hn hu, map_root4 _ _ _ _ _ rfl⟩, [.non, .non], rfl, rfl, ?_⟩
            refine iff_walk (b := false) ?_ (fun z => by cases z) fun _ => ?_
            · refine (eqc (x := (ds.length : Nat)) (fA_1 (x := .lst ds) rfl rfl rfl)).trans ?_
              rw [decide_eq_false (by omega)]
            · have e0 : rows.dropLast = rows0 := by rw [er0, List.dropLast_concat]
              have e1 : ds = rows0.map rowD ++ [rowD β.nums] := by
                rw [hd, er0, List.map_append] <;> rfl
              rw [e0]
              refine ⟨r, rows0.map rowD, rowD β.nums, by rw [← e1] <;> rfl, .ok (.bl true), .inl rfl, rfl, keep_pre [.bk b β0, .dat (.int β.many), .rws r (rows0.map rowD), .dat (.int k), .dat (.int g)] [.dat (.int (k % 7)), .un, .un, .un, .un, .dat .non, .dat .non, .un]⟩
        · have cu := of_decide_eq_false cu
          have k0 : 0 ≤ k / 7 := Int.ediv_nonneg h0 (by decide)
          refine iff_walk (eqc v5) (fun c4 => ?_) fun c4 => ?_
          · have c4 := of_decide_eq_true c4
            have mp : 0 < β.many := by
              have : β.many ≠ 0 := fun z => cu (.inr ⟨c4, z⟩)
              omega
            have i0 := Int.emod_nonneg (k / 7) (show β.many ≠ 0 by omega)
            have i1 := Int.emod_lt_of_pos (k / 7) mp
            have j0 := Int.emod_nonneg (k / 49) (show β.many ≠ 0 by omega)
            have j1 := Int.emod_lt_of_pos (k / 49) mp
            have de : deedB β rows k g = (swapB β (k / 7 % β.many) (k / 49 % β.many), rows ++ [(swapB β (k / 7 % β.many) (k / 49 % β.many)).nums]) := by
              unfold deedB
              rw [if_neg c, if_neg cu, if_pos c4]
            rw [de, List.map_append, ← hd]
            refine ⟨.ok (.tup [.str "swap", .int (k / 7 % β.many), .int (k / 49 % β.many)]), .inl (fA_of (argsV_cons rfl rfl (argsV_cons (f2_ok (f2_ok (rx := .ok (.int k)) (ry := .ok (.int 7)) rfl rfl rfl rfl (oDiv_ok (by decide) (by decide))) rfl (ry := .ok (.int β.many)) rfl rfl (oMod_ok mp)) rfl (argsV_cons (f2_ok (f2_ok (rx := .ok (.int k)) (ry := .ok (.int 49)) rfl rfl rfl rfl (oDiv_ok (by decide) (by decide))) rfl (ry := .ok (.int β.many)) rfl rfl (oMod_ok mp)) rfl rfl))) rfl), ?_⟩
            exact deed_tail (by decide +kernel) ed hl (caught_swap hb (by omega) ⟨i0, i1⟩ ⟨j0, j1⟩) (behind_swap hb ⟨i0, i1⟩ ⟨j0, j1⟩)
          · have c4 := of_decide_eq_false c4
            have w4 : k % 7 < 4 := by
              have : k % 7 ≠ 5 := fun z => cu (.inl z)
              omega
            have i0 := Int.emod_nonneg (k / 7) (show (2 : Int) ^ β.many.toNat ≠ 0 by omega)
            have i1 := Int.emod_lt_of_pos (k / 7) (show (0 : Int) < 2 ^ β.many.toNat by omega)
            have de : deedB β rows k g = (putB β (k / 7 % 2 ^ β.many.toNat) (([g, 0 - g, k % 9, 0] : List Int).getD (k % 7).toNat 0), rows ++ [(putB β (k / 7 % 2 ^ β.many.toNat) (([g, 0 - g, k % 9, 0] : List Int).getD (k % 7).toNat 0)).nums]) := by
              unfold deedB
              rw [if_neg c, if_neg cu, if_neg c4]
            rw [de, List.map_append, ← hd]
            refine ⟨.ok (.tup [.str "put", .int (k / 7 % 2 ^ β.many.toNat), .int (([g, 0 - g, k % 9, 0] : List Int).getD (k % 7).toNat 0)]), .inl (fA_of (argsV_cons rfl rfl (argsV_cons (f2_ok (f2_ok (rx := .ok (.int k)) (ry := .ok (.int 7)) rfl rfl rfl rfl (oDiv_ok (by decide) (by decide))) rfl (ry := .ok (.int (2 ^ β.many.toNat))) (f2_ok (rx := .ok (.int 1)) (ry := .ok (.int β.many)) rfl rfl rfl rfl (oShl_one hmm.1 (by omega))) rfl (oMod_ok (by omega))) rfl (argsV_cons (f2_ok (x := .lst ([g, 0 - g, k % 9, 0].map .int)) (rx := .nw ([g, 0 - g, k % 9, 0].map .int)) (ry := .ok (.int (k % 7))) (fA_of (argsV_cons (rx := .ok (.int g)) rfl rfl (argsV_cons (rx := .ok (.int (0 - g))) (f2_ok (rx := .ok (.int 0)) (ry := .ok (.int g)) rfl rfl rfl rfl rfl) rfl (argsV_cons (rx := .ok (.int (k % 9))) (f2_ok (rx := .ok (.int k)) (ry := .ok (.int 9)) rfl rfl rfl rfl (oMod_ok (by decide))) rfl (argsV_cons (rx := .ok (.int 0)) rfl rfl rfl)))) rfl) rfl rfl rfl (ix_ints w0 (by show k % 7 < 4; omega))) rfl rfl))) rfl), ?_⟩
            exact deed_tail (by decide +kernel) ed hl (caught_put hb (by omega) ⟨i0, i1⟩) (behind_put hb ⟨i0, i1⟩)
    · cases h
  · cases h
theorem rows_ev {x : Int} (hx : 0 ≤ x ∧ x ≤ 5) {ε : En} (he : ε[12]? = some (some (.int x))) : (fA oLst [f2 oMul (fA oLst [fC (.int 0)]) (f2 oShl (fC (.int 1)) (fV 12))]) ε = some (.nw [rowD (zsB x)]) := by
  have pl := pow_le5 hx.2
  have vx : fV 12 ε = some (.ok (.int x)) := by unfold fV; rw [he]
  refine fA_of (argsV_cons (rx := .nw ((zsB x).map .int)) (f2_ok (rx := .nw [.int 0]) rfl rfl (f2_ok (rx := .ok (.int 1)) rfl rfl vx rfl (oShl_one hx.1 (by omega))) rfl ?_) rfl rfl) rfl
  unfold zsB
  rw [pow_cast, List.map_replicate]
  generalize 2 ^ x.toNat = q at pl
  refine (oRep_ok (by omega) (by omega) (by rw [List.length_singleton, Int.toNat_natCast]; omega)).trans ?_
  rw [Int.toNat_natCast, repD_one]
theorem len__law_made : ∀ ds r, F__law_made ds = some r → ds.length = 1 := by
  intro ds r h
  unfold F__law_made at h
  split at h
  · rfl
  · cases h
theorem h__law_made : ∀ ds r, F__law_made ds = some r → g__law_made (endF r) (startS N__law_made ds) := by
  intro ds r h
  unfold F__law_made at h
  split at h
  · split at h
    · rename_i d hb
      cases h
      refine ⟨.ok .non, .inl rfl, .ex 0, fA_1 rfl rfl (if_pos hb), .ok (.exc 0), rfl, .inl rfl⟩
    · cases h
  · cases h
theorem len_law : ∀ ds r, F_law ds = some r → ds.length = 1 ∧ ∀ n, r ≠ .ex n := by
  intro ds r h
  unfold F_law at h
  split at h
  · split at h
    · cases h
      exact ⟨rfl, fun n => by intro z; cases z⟩
    · cases h
  · cases h
/-! the law itself -/
def AllSame (ps : List (List Int × List Int)) : Prop := ∀ p ∈ ps, p.1 = p.2
theorem all_app {ps : List (List Int × List Int)} {k : Nat} {u : List Int} (h : AllSame ps) : AllSame (ps ++ List.replicate k (u, u)) := fun p hp => by
  rcases List.mem_append.mp hp with m | m
  · exact h p m
  · rw [List.eq_of_mem_replicate m]
theorem cnt_le (n : Int) : cntS n ≤ 4 := Nat.le_trans (List.length_filter_le _ _) (by rw [upI_len]; exact Nat.le_refl _)
theorem rows_of (rows : List (List Int)) : rowsOf (rows.map rowD) = rows := by
  unfold rowsOf
  rw [List.map_map]
  conv => rhs; rw [← List.map_id rows]
  refine List.map_congr_left fun r _ => ?_
  show (r.map D.int).map toI = r
  exact toI_map r
theorem deed_bok {β : Bk} {rows : List (List Int)} (h : Bok β rows) (k g : Int) : Bok (deedB β rows k g).1 (deedB β rows k g).2 ∧ (deedB β rows k g).1.many = β.many ∧ (deedB β rows k g).2.length ≤ rows.length + 1 := by
  have hb := bok_ok h
  have p0 : 0 < 2 ^ β.many.toNat := Nat.pow_pos (by decide)
  have pe : ((2 : Int) ^ β.many.toNat) = ((2 ^ β.many.toNat : Nat) : Int) := by simp
  have hmm := hb.1
  unfold deedB
  split
  · exact ⟨h, rfl, Nat.le_succ _⟩
  · split
    · split
      · exact ⟨h, rfl, Nat.le_succ _⟩
      · rename_i h1
        rcases bok_undo h with ⟨_, h2⟩ | ⟨_, β0, rows0, hu, hb0, er, _⟩
        · exact absurd h2 h1
        · rw [hu, er, List.dropLast_concat]
          refine ⟨hb0, ?_, ?_⟩
          · show β0.many = β.many
            unfold undoB at hu
            split at hu
            · cases hu
            · split at hu
              · split at hu
                · cases hu
                  rfl
                · cases hu
              · split at hu
                · cases hu
                  rfl
                · cases hu
          · show rows0.length ≤ (rows0 ++ [β.nums]).length + 1
            rw [List.length_append]
            omega
    · rename_i c
      split
      · rename_i c4
        have mp : 0 < β.many := by
          have : β.many ≠ 0 := fun z => c (.inr ⟨c4, z⟩)
          omega
        exact ⟨.swap _ _ h ⟨Int.emod_nonneg _ (by omega), Int.emod_lt_of_pos _ mp⟩ ⟨Int.emod_nonneg _ (by omega), Int.emod_lt_of_pos _ mp⟩, rfl, by rw [List.length_append] <;> exact Nat.le_refl _⟩
      · exact ⟨.put _ _ h ⟨Int.emod_nonneg _ (by omega), Int.emod_lt_of_pos _ (by omega)⟩, rfl, by rw [List.length_append] <;> exact Nat.le_refl _⟩
/-- what stands ahead of a turn: the two books, their rows, what is held -/
def lawD (ns : List Int) (m0 m1 : Int) (aB aR b0 b1 r0 r1 hd : Addr) (β0 β1 : Bk) (R0 R1 : List (List Int)) (ps : List (List Int × List Int)) (s5 s6 s7 s8 s9 s10 s11 s12 s13 : Sl) : Ev :=
  [.dat (.scr ns), .dat (.lst ([m0, m1].map .int)), .raw aB [b0, b1], .raw aR [r0, r1], .hld hd ps, s5, s6, s7, s8, s9, s10, s11, s12, s13, .bk b0 β0, .bk b1 β1, .rws r0 (R0.map rowD), .rws r1 (R1.map rowD)]
def LawE (ns : List Int) (c p : Nat) (s5 s6 s7 s8 s9 s10 s11 s12 s13 : Sl) (δ : Ev) : Prop := ∃ (m0 m1 : Int) (aB aR b0 b1 r0 r1 hd : Addr) (β0 β1 : Bk) (R0 R1 : List (List Int)) (ps : List (List Int × List Int)),
  δ = lawD ns m0 m1 aB aR b0 b1 r0 r1 hd β0 β1 R0 R1 ps s5 s6 s7 s8 s9 s10 s11 s12 s13 ∧ (Bok β0 R0 ∧ Bok β1 R1) ∧ (β0.many = m0 ∧ β1.many = m1) ∧ (R0.length ≤ c ∧ R1.length ≤ c) ∧ AllSame ps ∧ ps.length ≤ p
theorem seen_F {b r h : Addr} {β : Bk} {R : List (List Int)} {n : Int} {ps : List (List Int × List Int)} (hk : Bok β R) (hn : 0 ≤ n) (hl : R.length ≤ 900) (hp : ps.length ≤ 80000) : FM__law_seen [.bk b β, .rws r (R.map rowD), .dat (.int n), .hld h ps] = some (.ok (.bl true), [.bk b β, .rws r (R.map rowD), .dat (.int n), .hld h (ps ++ List.replicate (cntS n) (β.nums ++ [n], β.nums ++ [n]))]) := by
  unfold FM__law_seen
  dsimp only
  rw [rows_of, if_pos ⟨⟨rfl, hk⟩, hn, by rw [List.length_map]; exact hl, hp⟩]
theorem deed_F {b r : Addr} {β : Bk} {R : List (List Int)} {k g : Int} (hk : Bok β R) (hn : 0 ≤ k) (hl : R.length ≤ 800) : FM__law_deed [.bk b β, .dat (.int β.many), .rws r (R.map rowD), .dat (.int k), .dat (.int g)] = some (.ok (.bl true), [.bk b (deedB β R k g).1, .dat (.int β.many), .rws r ((deedB β R k g).2.map rowD), .dat (.int k), .dat (.int g)]) := by
  unfold FM__law_deed
  dsimp only
  rw [rows_of, if_pos ⟨⟨rfl, hk⟩, rfl, hn, by rw [List.length_map]; exact hl⟩]
theorem args_ex {ars : List Ar} {δ : Ev} {f : Fx} {d : D} {ss : List Sl} (hf : f (pub δ) = some (.ok d)) (hd : d.flat = true) (h : argsM ars δ = some ss) : argsM (.ex f :: ars) δ = some (.dat d :: ss) := by
  unfold argsM
  rw [hf]
  dsimp only
  rw [if_pos hd, h] <;> rfl
theorem args_sl' {ars : List Ar} {δ : Ev} {i : Nat} {s : Sl} {ss : List Sl} (hs : δ[i]? = some s) (hr : s.root.isSome = true) (h : argsM ars δ = some ss) : argsM (.sl i :: ars) δ = some (s :: ss) := by
  unfold argsM
  rw [hs]
  dsimp only
  rw [if_pos hr, h] <;> rfl
theorem two_or {w : Int} (h : w = 0 ∨ w = 1) : w = ((0 : Nat) : Int) ∨ w = ((1 : Nat) : Int) := h
theorem seen_step {E : De} {g : Ds} {ns : List Int} {c p : Nat} {s5 s6 s7 s8 s9 s10 s11 s12 s13 : Sl} {δ : Ev} {fw fn : Fx} {w n : Int} (h : LawE ns c p s5 s6 s7 s8 s9 s10 s11 s12 s13 δ) (hw : w = 0 ∨ w = 1) (hc : c ≤ 700) (hp : p ≤ 70000) (ew : fw (pub δ) = some (.ok (.int w))) (en : fn (pub δ) = some (.ok (.int n))) (hn : 0 ≤ n)
    (k : ∀ δ', LawE ns c (p + 4) s5 s6 s7 s8 s9 s10 s11 s12 s13 δ' → E.nx δ') : dIfNV [.ix 2 fw, .ix 3 fw, .ex fn, .sl 4] FM__law_seen g E δ := by
  obtain ⟨m0, m1, aB, aR, b0, b1, r0, r1, hd, β0, β1, R0, R1, ps, rfl, ⟨k0, k1⟩, ⟨e0, e1⟩, ⟨l0, l1⟩, sm, lp⟩ := h
  have cn := cnt_le n
  rcases hw with rfl | rfl
  · refine ⟨[.sl 14, .sl 16, .ex fn, .sl 4], [.bk b0 β0, .rws r0 (R0.map rowD), .dat (.int n), .hld hd ps], true, _, .ix (z := 0) rfl ew rfl rfl rfl (.ix (z := 0) rfl ew rfl rfl rfl (.ex (.sl .nil))), args_sl' rfl rfl (args_sl' rfl rfl (args_ex en rfl (args_sl' rfl rfl rfl))), (show ([14, 16, 4] : List Nat).Nodup by decide), seen_F k0 hn (by omega) (by omega), rfl, ?_⟩
    exact k _ ⟨m0, m1, aB, aR, b0, b1, r0, r1, hd, β0, β1, R0, R1, ps ++ List.replicate (cntS n) (β0.nums ++ [n], β0.nums ++ [n]), rfl, ⟨k0, k1⟩, ⟨e0, e1⟩, ⟨l0, l1⟩, all_app sm, by rw [List.length_append, List.length_replicate]; omega⟩
  · refine ⟨[.sl 15, .sl 17, .ex fn, .sl 4], [.bk b1 β1, .rws r1 (R1.map rowD), .dat (.int n), .hld hd ps], true, _, .ix (z := 1) rfl ew rfl rfl rfl (.ix (z := 1) rfl ew rfl rfl rfl (.ex (.sl .nil))), args_sl' rfl rfl (args_sl' rfl rfl (args_ex en rfl (args_sl' rfl rfl rfl))), (show ([15, 17, 4] : List Nat).Nodup by decide), seen_F k1 hn (by omega) (by omega), rfl, ?_⟩
    exact k _ ⟨m0, m1, aB, aR, b0, b1, r0, r1, hd, β0, β1, R0, R1, ps ++ List.replicate (cntS n) (β1.nums ++ [n], β1.nums ++ [n]), rfl, ⟨k0, k1⟩, ⟨e0, e1⟩, ⟨l0, l1⟩, all_app sm, by rw [List.length_append, List.length_replicate]; omega⟩
theorem deed_step {E : De} {g : Ds} {ns : List Int} {c p : Nat} {s5 s6 s7 s8 s9 s10 s11 s12 s13 : Sl} {δ : Ev} {fw fk fg : Fx} {w k gr : Int} (h : LawE ns c p s5 s6 s7 s8 s9 s10 s11 s12 s13 δ) (hw : w = 0 ∨ w = 1) (hc : c ≤ 700) (ew : fw (pub δ) = some (.ok (.int w))) (ek : fk (pub δ) = some (.ok (.int k))) (eg : fg (pub δ) = some (.ok (.int gr))) (hk : 0 ≤ k)
    (q : ∀ δ', LawE ns (c + 1) p s5 s6 s7 s8 s9 s10 s11 s12 s13 δ' → E.nx δ') : dIfNV [.ix 2 fw, .ex (f2 oIx (fV 1) fw), .ix 3 fw, .ex fk, .ex fg] FM__law_deed g E δ := by
  obtain ⟨m0, m1, aB, aR, b0, b1, r0, r1, hd, β0, β1, R0, R1, ps, rfl, ⟨k0, k1⟩, ⟨e0, e1⟩, ⟨l0, l1⟩, sm, lp⟩ := h
  have v1 : fV 1 (pub (lawD ns m0 m1 aB aR b0 b1 r0 r1 hd β0 β1 R0 R1 ps s5 s6 s7 s8 s9 s10 s11 s12 s13)) = some (.ok (.lst ([m0, m1].map .int))) := rfl
  subst e0
  subst e1
  rcases hw with rfl | rfl
  · obtain ⟨d1, d2, d3⟩ := deed_bok k0 k gr
    have em : f2 oIx (fV 1) fw (pub (lawD ns β0.many β1.many aB aR b0 b1 r0 r1 hd β0 β1 R0 R1 ps s5 s6 s7 s8 s9 s10 s11 s12 s13)) = some (.ok (.int β0.many)) := f2_ok v1 rfl ew rfl (ix_ints (ns := [β0.many, β1.many]) (by decide) (show (0 : Int) < 2 by decide))
    refine ⟨[.sl 14, .ex (f2 oIx (fV 1) fw), .sl 16, .ex fk, .ex fg], [.bk b0 β0, .dat (.int β0.many), .rws r0 (R0.map rowD), .dat (.int k), .dat (.int gr)], true, _, .ix (z := 0) rfl ew rfl rfl rfl (.ex (.ix (z := 0) rfl ew rfl rfl rfl (.ex (.ex .nil)))), args_sl' rfl rfl (args_ex em rfl (args_sl' rfl rfl (args_ex ek rfl (args_ex eg rfl rfl)))), (show ([14, 16] : List Nat).Nodup by decide), deed_F k0 hk (by omega), rfl, ?_⟩
    exact q _ ⟨β0.many, β1.many, aB, aR, b0, b1, r0, r1, hd, (deedB β0 R0 k gr).1, β1, (deedB β0 R0 k gr).2, R1, ps, rfl, ⟨d1, k1⟩, ⟨d2, rfl⟩, ⟨by omega, by omega⟩, sm, lp⟩
  · obtain ⟨d1, d2, d3⟩ := deed_bok k1 k gr
    have em : f2 oIx (fV 1) fw (pub (lawD ns β0.many β1.many aB aR b0 b1 r0 r1 hd β0 β1 R0 R1 ps s5 s6 s7 s8 s9 s10 s11 s12 s13)) = some (.ok (.int β1.many)) := f2_ok v1 rfl ew rfl (ix_ints (ns := [β0.many, β1.many]) (by decide) (show (1 : Int) < 2 by decide))
    refine ⟨[.sl 15, .ex (f2 oIx (fV 1) fw), .sl 17, .ex fk, .ex fg], [.bk b1 β1, .dat (.int β1.many), .rws r1 (R1.map rowD), .dat (.int k), .dat (.int gr)], true, _, .ix (z := 1) rfl ew rfl rfl rfl (.ex (.ix (z := 1) rfl ew rfl rfl rfl (.ex (.ex .nil)))), args_sl' rfl rfl (args_ex em rfl (args_sl' rfl rfl (args_ex ek rfl (args_ex eg rfl rfl)))), (show ([15, 17] : List Nat).Nodup by decide), deed_F k1 hk (by omega), rfl, ?_⟩
    exact q _ ⟨β0.many, β1.many, aB, aR, b0, b1, r0, r1, hd, β0, (deedB β1 R1 k gr).1, R0, (deedB β1 R1 k gr).2, ps, rfl, ⟨k0, d1⟩, ⟨rfl, d2⟩, ⟨by omega, by omega⟩, sm, lp⟩
theorem LawE.at7 {ns c p s5 s6 s7 s8 s9 s10 s11 s12 s13 δ} (h : LawE ns c p s5 s6 s7 s8 s9 s10 s11 s12 s13 δ) (s : Sl) : LawE ns c p s5 s6 s s8 s9 s10 s11 s12 s13 (δ.set 7 s) := by
  obtain ⟨m0, m1, aB, aR, b0, b1, r0, r1, hd, β0, β1, R0, R1, ps, rfl, q⟩ := h
  exact ⟨m0, m1, aB, aR, b0, b1, r0, r1, hd, β0, β1, R0, R1, ps, rfl, q⟩
theorem LawE.at6 {ns c p s5 s6 s7 s8 s9 s10 s11 s12 s13 δ} (h : LawE ns c p s5 s6 s7 s8 s9 s10 s11 s12 s13 δ) (s : Sl) : LawE ns c p s5 s s7 s8 s9 s10 s11 s12 s13 (δ.set 6 s) := by
  obtain ⟨m0, m1, aB, aR, b0, b1, r0, r1, hd, β0, β1, R0, R1, ps, rfl, q⟩ := h
  exact ⟨m0, m1, aB, aR, b0, b1, r0, r1, hd, β0, β1, R0, R1, ps, rfl, q⟩
theorem LawE.at8 {ns c p s5 s6 s7 s8 s9 s10 s11 s12 s13 δ} (h : LawE ns c p s5 s6 s7 s8 s9 s10 s11 s12 s13 δ) (s : Sl) : LawE ns c p s5 s6 s7 s s9 s10 s11 s12 s13 (δ.set 8 s) := by
  obtain ⟨m0, m1, aB, aR, b0, b1, r0, r1, hd, β0, β1, R0, R1, ps, rfl, q⟩ := h
  exact ⟨m0, m1, aB, aR, b0, b1, r0, r1, hd, β0, β1, R0, R1, ps, rfl, q⟩
theorem LawE.at9 {ns c p s5 s6 s7 s8 s9 s10 s11 s12 s13 δ} (h : LawE ns c p s5 s6 s7 s8 s9 s10 s11 s12 s13 δ) (s : Sl) : LawE ns c p s5 s6 s7 s8 s s10 s11 s12 s13 (δ.set 9 s) := by
  obtain ⟨m0, m1, aB, aR, b0, b1, r0, r1, hd, β0, β1, R0, R1, ps, rfl, q⟩ := h
  exact ⟨m0, m1, aB, aR, b0, b1, r0, r1, hd, β0, β1, R0, R1, ps, rfl, q⟩
theorem LawE.at10 {ns c p s5 s6 s7 s8 s9 s10 s11 s12 s13 δ} (h : LawE ns c p s5 s6 s7 s8 s9 s10 s11 s12 s13 δ) (s : Sl) : LawE ns c p s5 s6 s7 s8 s9 s s11 s12 s13 (δ.set 10 s) := by
  obtain ⟨m0, m1, aB, aR, b0, b1, r0, r1, hd, β0, β1, R0, R1, ps, rfl, q⟩ := h
  exact ⟨m0, m1, aB, aR, b0, b1, r0, r1, hd, β0, β1, R0, R1, ps, rfl, q⟩
theorem LawE.at11 {ns c p s5 s6 s7 s8 s9 s10 s11 s12 s13 δ} (h : LawE ns c p s5 s6 s7 s8 s9 s10 s11 s12 s13 δ) (s : Sl) : LawE ns c p s5 s6 s7 s8 s9 s10 s s12 s13 (δ.set 11 s) := by
  obtain ⟨m0, m1, aB, aR, b0, b1, r0, r1, hd, β0, β1, R0, R1, ps, rfl, q⟩ := h
  exact ⟨m0, m1, aB, aR, b0, b1, r0, r1, hd, β0, β1, R0, R1, ps, rfl, q⟩
theorem LawE.v {ns c p s5 s6 s7 s8 s9 s10 s11 s12 s13 δ} (h : LawE ns c p s5 s6 s7 s8 s9 s10 s11 s12 s13 δ) : pub δ = pub (lawD ns 0 0 0 0 0 0 0 0 0 ⟨0, [], []⟩ ⟨0, [], []⟩ [] [] [] s5 s6 s7 s8 s9 s10 s11 s12 s13) → True := fun _ => trivial
theorem LawE.pv {ns c p s5 s6 s7 s8 s9 s10 s11 s12 s13 δ} (h : LawE ns c p s5 s6 s7 s8 s9 s10 s11 s12 s13 δ) : (pub δ)[0]? = some (some (.scr ns)) ∧ (vis δ)[0]? = some (some (.scr ns)) ∧ (pub δ)[6]? = some s6.pub ∧ (vis δ)[6]? = some s6.vis ∧ (pub δ)[7]? = some s7.pub ∧ (vis δ)[7]? = some s7.vis ∧ (pub δ)[8]? = some s8.pub ∧ (vis δ)[8]? = some s8.vis ∧ (pub δ)[9]? = some s9.pub ∧ (pub δ)[10]? = some s10.pub ∧ (pub δ)[11]? = some s11.pub := by
  obtain ⟨m0, m1, aB, aR, b0, b1, r0, r1, hd, β0, β1, R0, R1, ps, rfl, q⟩ := h
  exact ⟨rfl, rfl, rfl, rfl, rfl, rfl, rfl, rfl, rfl, rfl, rfl⟩
theorem fV_at {ε : En} {i : Nat} {d : D} (h : ε[i]? = some (some d)) : fV i ε = some (.ok d) := by
  unfold fV
  rw [h]
theorem mixed_ok {ns : List Int} {k : Int} (hl : ns.length ≤ 63) (h : 0 ≤ k ∧ k ≤ 1000) : F__law_mixed [.scr ns, .int k] = some (.ok (.int (mixI ns k))) := if_pos ⟨hl, h⟩
abbrev seenB : Ds := dIfNV [.ix 2 (fV 10), .ix 3 (fV 10), .ex (f2 oDiv (fV 7) (f2 oAdd (fC (.int 35)) (fV 10))), .sl 4] FM__law_seen (dRet (fC (.bl false)))
abbrev turnB : Ds := dSeq (dAsg 7 (fA F__law_mixed [fV 0, f2 oAdd (fV 6) (fC (.int 2))])) <|
  dSeq (dAsg 8 (f2 oDiv (f2 oMod (fV 7) (fC (.int 5))) (fC (.int 4)))) <|
  dSeq (dAsg 9 (fA F__law_cell [fV 0, fV 6])) <|
  dSeq (dIfNV [.ix 2 (fV 8), .ex (f2 oIx (fV 1) (fV 8)), .ix 3 (fV 8), .ex (f2 oDiv (fV 7) (fC (.int 5))), .ex (fV 9)] FM__law_deed (dRet (fC (.bl false)))) <|
  dFor (fItT (fA oTup [fV 8, f2 oSub (fC (.int 1)) (fV 8)])) (.nm 10) seenB
theorem side_turn {E : De} {ns : List Int} {c p : Nat} {s5 s6 s8 s9 s10 s11 s12 s13 : Sl} {δ : Ev} {n x : Int} (h : LawE ns c p s5 s6 (.dat (.int n)) s8 s9 s10 s11 s12 s13 δ) (hx : x = 0 ∨ x = 1) (hc : c ≤ 700) (hp : p ≤ 70000) (hn : 0 ≤ n)
    (k : ∀ s10 δ', LawE ns c (p + 4) s5 s6 (.dat (.int n)) s8 s9 s10 s11 s12 s13 δ' → E.nx δ') : seenB E (setsS δ [10] [.int x]) := by
  have h2 : LawE ns c p s5 s6 (.dat (.int n)) s8 s9 (.dat (.int x)) s11 s12 s13 (setsS δ [10] [.int x]) := h.at10 _
  obtain ⟨_, _, _, _, v7, _, _, _, _, v10, _⟩ := h2.pv
  refine seen_step h2 hx hc hp (fV_at v10) (f2_ok (fV_at v7) rfl (f2_ok (rx := .ok (.int 35)) rfl rfl (fV_at v10) rfl rfl) rfl (oDiv_ok (by omega) (by omega))) (Int.ediv_nonneg hn (by omega)) fun δ' q => k _ δ' q
theorem law_turns {E : De} {ns : List Int} (hl : ns.length ≤ 63) : ∀ (xs : List Int) (c p : Nat) (s5 s6 s7 s8 s9 s10 s11 s12 s13 : Sl) (δ : Ev), LawE ns c p s5 s6 s7 s8 s9 s10 s11 s12 s13 δ → (∀ x ∈ xs, 0 ≤ x ∧ x ≤ 900) → c + xs.length ≤ 600 → p + 8 * xs.length ≤ 60000 →
    (∀ s5 s6 s7 s8 s9 s10 s11 s12 s13 δ', LawE ns (c + xs.length) (p + 8 * xs.length) s5 s6 s7 s8 s9 s10 s11 s12 s13 δ' → E.nx δ') → forW (.nm 6) turnB E (xs.map .int) δ
  | [], c, p, _, _, _, _, _, _, _, _, _, δ, h, _, _, _, k => k _ _ _ _ _ _ _ _ _ δ h
  | x :: xs, c, p, s5, s6, s7, s8, s9, s10, s11, s12, s13, δ, h, hx, hc, hp, k => by
    rw [List.length_cons] at hc hp
    have x0 := hx x List.mem_cons_self
    have h6 : LawE ns c p s5 (.dat (.int x)) s7 s8 s9 s10 s11 s12 s13 (setsS δ [6] [.int x]) := h.at6 _
    obtain ⟨_, a0, _, a6, _⟩ := h6.pv
    refine ⟨[.int x], rfl, .ok (.int (mixI ns (x + 2))), .inl (fA_2 (fV_at a0) rfl (f2_ok (fV_at a6) rfl (ry := .ok (.int 2)) rfl rfl rfl) rfl (mixed_ok hl (by omega))), ?_⟩
    have h7 := h6.at7 (.dat (.int (mixI ns (x + 2))))
    obtain ⟨_, _, _, _, _, a7, _⟩ := h7.pv
    have n0 := mix_ge ns (x + 2)
    generalize mixI ns (x + 2) = n at h7 a7 n0 ⊢
    refine ⟨.ok (.int (n % 5 / 4)), .inl (f2_ok (f2_ok (fV_at a7) rfl (ry := .ok (.int 5)) rfl rfl (oMod_ok (by decide))) rfl (ry := .ok (.int 4)) rfl rfl (oDiv_ok (by decide) (by decide))), ?_⟩
    have h8 := h7.at8 (.dat (.int (n % 5 / 4)))
    have hw : n % 5 / 4 = 0 ∨ n % 5 / 4 = 1 := by omega
    generalize n % 5 / 4 = w at h8 hw ⊢
    obtain ⟨_, a0, _, a6, _⟩ := h8.pv
    refine ⟨.ok (.int (cellI ns x)), .inl (fA_2 (fV_at a0) rfl (fV_at a6) rfl (if_pos hl)), ?_⟩
    have h9 := h8.at9 (.dat (.int (cellI ns x)))
    obtain ⟨_, _, _, _, b7, _, b8, _, b9, _⟩ := h9.pv
    refine deed_step h9 hw (by omega) (fV_at b8) (f2_ok (fV_at b7) rfl (ry := .ok (.int 5)) rfl rfl (oDiv_ok (by decide) (by decide))) (fV_at b9) (Int.ediv_nonneg n0 (by decide)) fun δ1 q1 => ?_
    obtain ⟨_, _, _, _, _, _, _, c8, _⟩ := q1.pv
    refine ⟨.it [.int w, .int (1 - w)] false, .inl ?_, ⟨[.int w], rfl, ?_⟩⟩
    · unfold fItT
      rw [show fA oTup [fV 8, f2 oSub (fC (.int 1)) (fV 8)] (vis δ1) = some (.ok (.tup [.int w, .int (1 - w)])) from fA_of (argsV_cons (fV_at c8) rfl (argsV_cons (f2_ok (rx := .ok (.int 1)) rfl rfl (fV_at c8) rfl rfl) rfl rfl)) rfl]
    · refine side_turn q1 hw (by omega) (by omega) n0 fun t10 δ2 q2 => ⟨[.int (1 - w)], rfl, ?_⟩
      refine side_turn q2 (by omega) (by omega) (by omega) n0 fun t10 δ3 q3 => ?_
      refine law_turns hl xs (c + 1) (p + 4 + 4) _ _ _ _ _ _ _ _ _ δ3 q3 (fun y hy => hx y (List.mem_cons_of_mem _ hy)) (by omega) (by omega) fun s5 s6 s7 s8 s9 s10 s11 s12 s13 δ' q => k s5 s6 s7 s8 s9 s10 s11 s12 s13 δ' ?_
      rw [List.length_cons]
      have e1 : c + (xs.length + 1) = c + 1 + xs.length := by omega
      have e2 : p + 8 * (xs.length + 1) = p + 4 + 4 + 8 * xs.length := by omega
      rw [e1, e2]
      exact q
abbrev seenC : Ds := dIfNV [.ix 2 (fV 10), .ix 3 (fV 10), .ex (fV 11), .sl 4] FM__law_seen (dRet (fC (.bl false)))
theorem end_turns {E : De} {ns : List Int} {c : Nat} {x : Int} (hx : x = 0 ∨ x = 1) (hc : c ≤ 700) : ∀ (xs : List Int) (p : Nat) (s5 s6 s7 s8 s9 s11 s12 s13 : Sl) (δ : Ev), LawE ns c p s5 s6 s7 s8 s9 (.dat (.int x)) s11 s12 s13 δ → (∀ y ∈ xs, 0 ≤ y) → p + 4 * xs.length ≤ 70000 →
    (∀ s5 s6 s7 s8 s9 s10 s11 s12 s13 δ', LawE ns c (p + 4 * xs.length) s5 s6 s7 s8 s9 s10 s11 s12 s13 δ' → E.nx δ') → forW (.nm 11) seenC E (xs.map .int) δ
  | [], p, _, _, _, _, _, _, _, _, δ, h, _, _, k => k _ _ _ _ _ _ _ _ _ δ h
  | y :: xs, p, s5, s6, s7, s8, s9, s11, s12, s13, δ, h, hy, hp, k => by
    rw [List.length_cons] at hp
    have h2 : LawE ns c p s5 s6 s7 s8 s9 (.dat (.int x)) (.dat (.int y)) s12 s13 (setsS δ [11] [.int y]) := h.at11 _
    obtain ⟨_, _, _, _, _, _, _, _, _, v10, v11⟩ := h2.pv
    refine ⟨[.int y], rfl, seen_step h2 hx hc (by omega) (fV_at v10) (fV_at v11) (hy y List.mem_cons_self) fun δ' q => ?_⟩
    refine end_turns hx hc xs (p + 4) _ _ _ _ _ _ _ _ δ' q (fun z hz => hy z (List.mem_cons_of_mem _ hz)) (by omega) fun s5 s6 s7 s8 s9 s10 s11 s12 s13 δ' q => k s5 s6 s7 s8 s9 s10 s11 s12 s13 δ' ?_
    rw [List.length_cons]
    have e2 : p + 4 * (xs.length + 1) = p + 4 + 4 * xs.length := by omega
    rw [e2]
    exact q
theorem made_ok (k : Int) : ∃ d, d = ([.int (-1), .int 11, .non, .bl true, .str "2", .lst [.int 2], .int (10 ^ 20)] : List D).getD (k % 7).toNat .non ∧ F__law_made [d] = some (.ok (.exc 0)) := by
  refine ⟨_, rfl, ?_⟩
  refine getD_of (P := fun d => F__law_made [d] = some (.ok (.exc 0))) (fun d hd => ?_) rfl _
  simp only [List.mem_cons, List.not_mem_nil, or_false] at hd
  rcases hd with rfl | rfl | rfl | rfl | rfl | rfl | rfl <;> first | rfl | exact if_pos (by decide)
theorem h_law : ∀ ds r, F_law ds = some r → g_law (endF r) (startS N_law ds) := by
  intro ds r h
  unfold F_law at h
  split at h
  · rename_i ns
    split at h
    · rename_i hl
      cases h
      have mx : ∀ {ε : En} (k : Int), ε[0]? = some (some (.scr ns)) → 0 ≤ k ∧ k ≤ 1000 → fA F__law_mixed [fV 0, fC (.int k)] ε = some (.ok (.int (mixI ns k))) := fun k h0 hk => fA_2 (fV_at h0) rfl (ry := .ok (.int k)) rfl rfl (mixed_ok hl hk)
      have a0 := Int.emod_nonneg (mixI ns 0) (show (6 : Int) ≠ 0 by decide)
      have a1 := Int.emod_lt_of_pos (mixI ns 0) (show (0 : Int) < 6 by decide)
      have b0 := Int.emod_nonneg (mixI ns 1) (show (4 : Int) ≠ 0 by decide)
      have b1 := Int.emod_lt_of_pos (mixI ns 1) (show (0 : Int) < 4 by decide)
      refine ⟨.nw ([mixI ns 0 % 6, mixI ns 1 % 4].map .int), .inl (fA_of (argsV_cons (f2_ok (mx 0 rfl (by decide)) rfl (ry := .ok (.int 6)) rfl rfl (oMod_ok (by decide))) rfl (argsV_cons (f2_ok (mx 1 rfl (by decide)) rfl (ry := .ok (.int 4)) rfl rfl (oMod_ok (by decide))) rfl rfl)) rfl), ?_⟩
      generalize em0 : mixI ns 0 % 6 = m0 at a0 a1 ⊢
      generalize em1 : mixI ns 1 % 4 = m1 at b0 b1 ⊢
      have bad : ∀ m : Int, 0 ≤ m → m < 6 → badB (.int m) = false := fun m h1 h2 => by
        unfold badB
        rw [inB_ok ⟨h1, by omega⟩] <;> rfl
      refine ⟨m0, m1, false, rfl, ⟨bad _ a0 a1, bad _ b0 (by omega)⟩, (show 12 < 18 by decide), by decide, by decide, by decide, fun aB c0 c1 => ?_⟩
      refine ⟨m0, m1, false, rfl, ⟨⟨a0, by omega⟩, b0, by omega⟩, (show 12 < 18 by decide), by decide, by decide, by decide, fun aR r0 r1 => ?_⟩
      refine ⟨.nw [], .inl rfl, rfl, fun hd => ?_⟩
      have zl : ∀ m : Int, (zsB m).length = 2 ^ m.toNat := fun m => by
        unfold zsB
        rw [List.length_replicate]
      have L0 : LawE ns 1 0 .un .un .un .un .un .un .un .un .un (lawD ns m0 m1 aB aR c0 c1 r0 r1 hd ⟨m0, zsB m0, []⟩ ⟨m1, zsB m1, []⟩ [zsB m0] [zsB m1] [] .un .un .un .un .un .un .un .un .un) := ⟨m0, m1, aB, aR, c0, c1, r0, r1, hd, ⟨m0, zsB m0, []⟩, ⟨m1, zsB m1, []⟩, [zsB m0], [zsB m1], [], rfl, ⟨.base m0 _ ⟨a0, by omega⟩ (zl m0), .base m1 _ ⟨b0, by omega⟩ (zl m1)⟩, ⟨rfl, rfl⟩, ⟨Nat.le_refl _, Nat.le_refl _⟩, fun p hp => absurd hp List.not_mem_nil, Nat.le_refl _⟩
      obtain ⟨d, ed, md⟩ := made_ok (mixI ns 0 / 6)
      refine ⟨.ok d, .inl (f2_ok (x := .lst [.int (-1), .int 11, .non, .bl true, .str "2", .lst [.int 2], .int (10 ^ 20)]) (rx := .nw [.int (-1), .int 11, .non, .bl true, .str "2", .lst [.int 2], .int (10 ^ 20)]) ?_ rfl (md_ok (mx 0 rfl (by decide)) (by decide) (by decide)) rfl ((ix_md (by decide) rfl).trans (by rw [ed]; rfl))), ?_⟩
      · refine fA_of (argsV_cons (rx := .ok (.int (-1))) rfl rfl (argsV_cons rfl rfl (argsV_cons rfl rfl (argsV_cons rfl rfl (argsV_cons rfl rfl (argsV_cons (rx := .nw [.int 2]) rfl rfl (argsV_cons (rx := .ok (.int (10 ^ 20))) (f2_ok (rx := .ok (.int 10)) (ry := .ok (.int 20)) rfl rfl rfl rfl (oPow_ok (by decide))) rfl rfl))))))) rfl
      refine iff_walk (b := false) ?_ (fun z => by cases z) fun _ => ?_
      · exact f2_ok (rx := .nw ((["count", "value"] : List Str).map .str)) (ry := .nw ((["count", "value"] : List Str).map .str)) (fA_1 (rx := .ok (.exc 0)) (fA_1 (rx := .ok d) rfl rfl md) rfl rfl) rfl rfl rfl (oNe_self ["count", "value"] (by decide +kernel))
      · have L1 : LawE ns 1 0 (.dat d) .un .un .un .un .un .un .un .un ((lawD ns m0 m1 aB aR c0 c1 r0 r1 hd ⟨m0, zsB m0, []⟩ ⟨m1, zsB m1, []⟩ [zsB m0] [zsB m1] [] .un .un .un .un .un .un .un .un .un).set 5 (.dat d)) := ⟨m0, m1, aB, aR, c0, c1, r0, r1, hd, ⟨m0, zsB m0, []⟩, ⟨m1, zsB m1, []⟩, [zsB m0], [zsB m1], [], rfl, ⟨.base m0 _ ⟨a0, by omega⟩ (zl m0), .base m1 _ ⟨b0, by omega⟩ (zl m1)⟩, ⟨rfl, rfl⟩, ⟨Nat.le_refl _, Nat.le_refl _⟩, fun p hp => absurd hp List.not_mem_nil, Nat.le_refl _⟩
        have q60 : (if ns.length ≤ 60 then ns.length else 60 : Nat) ≤ 60 := by split <;> omega
        have mn : ∀ {ε : En}, fV 0 ε = some (.ok (.scr ns)) → fA oMin [fA oLen [fV 0], fC (.int 60)] ε = some (.ok (.int ((if ns.length ≤ 60 then ns.length else 60 : Nat) : Int))) := fun h => by
          refine fA_2 (fA_1 h rfl rfl) rfl (ry := .ok (.int 60)) rfl rfl ?_
          show some (R.ok (.int (if (60 : Int) < (ns.length : Nat) then 60 else (ns.length : Nat)))) = _
          by_cases c : ns.length ≤ 60
          · rw [if_neg (by omega), if_pos c]
          · rw [if_pos (by omega), if_neg c] <;> rfl
        refine ⟨.it ((upI 0 (if ns.length ≤ 60 then ns.length else 60)).map .int) true, .inl ?_, ?_⟩
        · have := fItR_ok (f := fA oMin [fA oLen [fV 0], fC (.int 60)]) (ε := vis ((lawD ns m0 m1 aB aR c0 c1 r0 r1 hd ⟨m0, zsB m0, []⟩ ⟨m1, zsB m1, []⟩ [zsB m0] [zsB m1] [] .un .un .un .un .un .un .un .un .un).set 5 (.dat d))) (mn rfl) (by omega) (by omega)
          rw [Int.toNat_natCast] at this
          exact this
        · generalize (if ns.length ≤ 60 then ns.length else 60 : Nat) = q at q60
          refine law_turns hl (upI 0 q) 1 0 _ _ _ _ _ _ _ _ _ _ L1 (fun x hx => by have := mem_upI.mp hx; omega) (by rw [upI_len]; omega) (by rw [upI_len]; omega) fun s5 s6 s7 s8 s9 s10 s11 s12 s13 δ1 Q => ?_
          rw [upI_len] at Q
          refine ⟨.it ((upI 0 2).map .int) true, .inl (fItR_ok (n := 2) rfl (by decide) (by decide)), ⟨[.int 0], rfl, ?_⟩⟩
          refine ⟨.it ((upI 0 4).map .int) true, .inl (fItR_ok (n := 4) rfl (by decide) (by decide)), ?_⟩
          refine end_turns (x := 0) (.inl rfl) (by omega) (upI 0 4) _ _ _ _ _ _ _ _ _ _ (Q.at10 (.dat (.int 0))) (fun y hy => (mem_upI.mp hy).1) (by rw [upI_len]; omega) fun s5 s6 s7 s8 s9 s10 s11 s12 s13 δ2 Q2 => ⟨[.int 1], rfl, ?_⟩
          rw [upI_len] at Q2
          refine ⟨.it ((upI 0 4).map .int) true, .inl (fItR_ok (n := 4) rfl (by decide) (by decide)), ?_⟩
          refine end_turns (x := 1) (.inr rfl) (by omega) (upI 0 4) _ _ _ _ _ _ _ _ _ _ (Q2.at10 (.dat (.int 1))) (fun y hy => (mem_upI.mp hy).1) (by rw [upI_len]; omega) fun s5 s6 s7 s8 s9 s10 s11 s12 s13 δ3 Q3 => ?_
          obtain ⟨m0, m1, aB, aR, b0, b1, r0, r1, hd, β0, β1, R0, R1, ps, rfl, _, _, _, sm, lp⟩ := Q3
          rw [upI_len] at lp
          refine ⟨.ok (.bl true), ?_, .inl rfl⟩
          refine f2_ok (x := .lst (([] : List Int).map .int)) (rx := .nw []) (fLc_ok (xs := ps.map fun p => D.tup [.lst (p.1.map .int), .lst (p.2.map .int)]) (fItL_ok rfl) (by rw [List.length_map]; omega) ?_) rfl (ry := .nw []) rfl rfl (oEq_nil [])
          refine (lcR_to (fun _ => false) id _ (fun x hx => ?_) fun x hx z => by cases z).trans ?_
          · obtain ⟨p, hp, rfl⟩ := List.mem_map.mp hx
            refine f2_ok (x := .lst (p.1.map .int)) (y := .lst (p.2.map .int)) (f2_ok (rx := .ok (.tup [.lst (p.1.map .int), .lst (p.2.map .int)])) (ry := .ok (.int 0)) rfl rfl rfl rfl rfl) rfl (f2_ok (rx := .ok (.tup [.lst (p.1.map .int), .lst (p.2.map .int)])) (ry := .ok (.int 1)) rfl rfl rfl rfl rfl) rfl ((oNe_ints _ _).trans ?_)
            rw [decide_eq_true (sm p hp)] <;> rfl
          · rw [List.filter_eq_nil_iff.mpr fun _ _ => Bool.false_ne_true] <;> rfl
    · cases h
  · cases h
def top (i : Nat) : Stmt := PySem.Challenge.pw_setsums_k13_a_book.main.body.getD i (.Pass ⟨0, 0, 0, 0⟩)
def inC (i j : Nat) : Stmt := match top i with | .ClassDef _ _ _ b _ _ _ _ _ _ _ => b.getD j (.Pass ⟨0, 0, 0, 0⟩) | s => s
abbrev s_is_whole : Stmt := top 13
abbrev s_is_whole_below : Stmt := top 14
abbrev s_is_table_length : Stmt := top 15
abbrev s_check_count : Stmt := top 16
abbrev s_check_set : Stmt := top 17
abbrev s_check_name : Stmt := top 18
abbrev s_check_order : Stmt := top 19
abbrev s_check_number : Stmt := top 20
abbrev s_check_table : Stmt := top 21
abbrev s_names_of : Stmt := top 23
abbrev s_blank : Stmt := top 24
abbrev s_reordered : Stmt := top 26
abbrev s_parts : Stmt := top 28
abbrev s___init__ : Stmt := inC 32 0
abbrev s_put : Stmt := inC 32 1
abbrev s_swap : Stmt := inC 32 2
abbrev s_undo : Stmt := inC 32 3
abbrev s_value : Stmt := inC 32 4
abbrev s_under : Stmt := inC 32 5
abbrev s_over : Stmt := inC 32 6
abbrev s_table : Stmt := inC 32 7
abbrev s_many_done : Stmt := inC 32 8
abbrev s__exchange : Stmt := inC 32 9
abbrev s__law_cell : Stmt := top 34
abbrev s__law_mixed : Stmt := top 35
abbrev s__law_kind : Stmt := top 36
abbrev s__law_bits : Stmt := top 37
abbrev s__law_is_table : Stmt := top 38
abbrev s__law_turned : Stmt := top 39
abbrev s__law_behind : Stmt := top 40
abbrev s__law_caught : Stmt := top 41
abbrev s__law_made : Stmt := top 42
abbrev s__law_seen : Stmt := top 43
abbrev s__law_wrong : Stmt := top 44
abbrev s__law_deed : Stmt := top 45
abbrev s_law : Stmt := top 46

section
variable {P : Program} {w : World} {K : PySem.W.Frag} {mg : Str → Option Value} {base : Heap} {A : Nat → Addr}
theorem sc_is_whole : FnScope N_is_whole ["thing"] (defScope s_is_whole) := ⟨rfl, rfl, rfl, by decide +kernel, rfl, by decide +kernel, by decide +kernel⟩
theorem ok_is_whole {f : Addr} {fd : FuncData} (FU : Fun K "is_whole" "is_whole" s_is_whole f fd) (m_bool : mg "bool" = none) (m_int : mg "int" = none) (m_isinstance : mg "isinstance" = none) : FnOk P w K mg base (L2.CX P w) 1 f fd ["thing"] (spD (gd K A) F_is_whole) := by
  have nd : (N_is_whole : List Str).Nodup := sc_is_whole.nd
  refine fn_d (k := 0) (g := g_is_whole) FU sc_is_whole len_is_whole (fun cdv A1 outer s H E hr => ?_) h_is_whole
  have tk : Takes (cxOf (L2.CX P w) P w K mg base N_is_whole "is_whole" (defScope s_is_whole) f cdv A1 outer s H E) (fun c d _ H => E c d H) := takes_of rfl rfl rfl rfl
  have hp : PassesOwn (model P w) _ _ (cxOf (L2.CX P w) P w K mg base N_is_whole "is_whole" (defScope s_is_whole) f cdv A1 outer s H E).xe := passes_of rfl
  exact pd_last (pd_ret (pd_and (pd_isTy (T := "int") (by rfl) m_isinstance (pd_var (pv 0)) (by rfl) m_int (by decide +kernel)) (pd_one (pd_not (pd_isTy (T := "bool") (by rfl) m_isinstance (pd_var (pv 0)) (by rfl) m_bool (by decide +kernel))))))
theorem sc_is_whole_below : FnScope N_is_whole_below ["thing", "end"] (defScope s_is_whole_below) := ⟨rfl, rfl, rfl, by decide +kernel, rfl, by decide +kernel, by decide +kernel⟩
theorem ok_is_whole_below {f : Addr} {fd : FuncData} (FU : Fun K "is_whole_below" "is_whole_below" s_is_whole_below f fd) (c_is_whole : Cl P w K mg base A "is_whole" 1 F_is_whole) : FnOk P w K mg base (L2.CX P w) 2 f fd ["thing", "end"] (spD (gd K A) F_is_whole_below) := by
  have nd : (N_is_whole_below : List Str).Nodup := sc_is_whole_below.nd
  refine fn_d (k := 1) (g := g_is_whole_below) FU sc_is_whole_below len_is_whole_below (fun cdv A1 outer s H E hr => ?_) h_is_whole_below
  have tk : Takes (cxOf (L2.CX P w) P w K mg base N_is_whole_below "is_whole_below" (defScope s_is_whole_below) f cdv A1 outer s H E) (fun c d _ H => E c d H) := takes_of rfl rfl rfl rfl
  have hp : PassesOwn (model P w) _ _ (cxOf (L2.CX P w) P w K mg base N_is_whole_below "is_whole_below" (defScope s_is_whole_below) f cdv A1 outer s H E).xe := passes_of rfl
  exact pd_last (pd_ret (pd_and (pd_cl c_is_whole tk hr (by decide) (by rfl) (pda_cons (pd_var (pv 0)) (pda_nil))) (pd_one (pd_chain op_le op_lt op2_le op2_lt blII (pd_int) (pd_var (pv 0)) (pd_var (pv 1))))))
theorem sc_is_table_length : FnScope N_is_table_length ["length"] (defScope s_is_table_length) := ⟨rfl, rfl, rfl, by decide +kernel, rfl, by decide +kernel, by decide +kernel⟩
theorem ok_is_table_length {f : Addr} {fd : FuncData} (FU : Fun K "is_table_length" "is_table_length" s_is_table_length f fd) (k_MOST_NAMES : ∃ t, mg "MOST_NAMES" = some (.int 10 t)) : FnOk P w K mg base (L2.CX P w) 1 f fd ["length"] (spD (gd K A) F_is_table_length) := by
  have nd : (N_is_table_length : List Str).Nodup := sc_is_table_length.nd
  refine fn_d (k := 0) (g := g_is_table_length) FU sc_is_table_length len_is_table_length (fun cdv A1 outer s H E hr => ?_) h_is_table_length
  have tk : Takes (cxOf (L2.CX P w) P w K mg base N_is_table_length "is_table_length" (defScope s_is_table_length) f cdv A1 outer s H E) (fun c d _ H => E c d H) := takes_of rfl rfl rfl rfl
  have hp : PassesOwn (model P w) _ _ (cxOf (L2.CX P w) P w K mg base N_is_table_length "is_table_length" (defScope s_is_table_length) f cdv A1 outer s H E).xe := passes_of rfl
  exact pd_seq (pd_asg (i := 1) nd rfl (by first | exact .inl rfl | exact .inr rfl) (pd_and (pd_cmp op_gt op2_gt (pd_var (pv 0)) (pd_int) (nobehind _ (by decide) (by decide))) (pd_one (pd_eq hr (pd_op op_and op2_and (pd_var (pv 0)) (pd_op op_sub op2_sub (pd_var (pv 0)) (pd_int))) (pd_int))))) <|
    pd_last (pd_ret (pd_and (pd_var (pv 1)) (pd_one (pd_cmp op_le op2_le (pd_var (pv 0)) (pd_op op_shl op2_shl (pd_int) (pd_glI (by rfl) k_MOST_NAMES)) (nobehind _ (by decide) (by decide))))))
theorem sc_check_count : FnScope N_check_count ["many"] (defScope s_check_count) := ⟨rfl, rfl, rfl, by decide +kernel, rfl, by decide +kernel, by decide +kernel⟩
theorem ok_check_count {f : Addr} {fd : FuncData} (FU : Fun K "check_count" "check_count" s_check_count f fd) (c_is_whole_below : Cl P w K mg base A "is_whole_below" 2 F_is_whole_below) (k_MOST_NAMES : ∃ t, mg "MOST_NAMES" = some (.int 10 t)) (e_BadCount : ErrOk K mg A 0 "BadCount") : FnOk P w K mg base (L2.CX P w) 3 f fd ["many"] (spD (gd K A) F_check_count) := by
  have nd : (N_check_count : List Str).Nodup := sc_check_count.nd
  refine fn_d (k := 2) (g := g_check_count) FU sc_check_count len_check_count (fun cdv A1 outer s H E hr => ?_) h_check_count
  have tk : Takes (cxOf (L2.CX P w) P w K mg base N_check_count "check_count" (defScope s_check_count) f cdv A1 outer s H E) (fun c d _ H => E c d H) := takes_of rfl rfl rfl rfl
  have hp : PassesOwn (model P w) _ _ (cxOf (L2.CX P w) P w K mg base N_check_count "check_count" (defScope s_check_count) f cdv A1 outer s H E).xe := passes_of rfl
  exact pd_last (pd_ifS (ts_not (ts_e (pd_cl c_is_whole_below tk hr (by decide) (by rfl) (pda_cons (pd_var (pv 0)) (pda_cons (pd_op (opr_or op_add op_cat) op2_add (pd_glI (by rfl) k_MOST_NAMES) (pd_int)) (pda_nil)))))) (pd_last (pd_err e_BadCount rfl tk (by rfl))) (pd_none))
theorem sc_check_set : FnScope N_check_set ["one", "many"] (defScope s_check_set) := ⟨rfl, rfl, rfl, by decide +kernel, rfl, by decide +kernel, by decide +kernel⟩
theorem ok_check_set {f : Addr} {fd : FuncData} (FU : Fun K "check_set" "check_set" s_check_set f fd) (c_is_whole_below : Cl P w K mg base A "is_whole_below" 2 F_is_whole_below) (e_BadSet : ErrOk K mg A 1 "BadSet") : FnOk P w K mg base (L2.CX P w) 3 f fd ["one", "many"] (spD (gd K A) F_check_set) := by
  have nd : (N_check_set : List Str).Nodup := sc_check_set.nd
  refine fn_d (k := 2) (g := g_check_set) FU sc_check_set len_check_set (fun cdv A1 outer s H E hr => ?_) h_check_set
  have tk : Takes (cxOf (L2.CX P w) P w K mg base N_check_set "check_set" (defScope s_check_set) f cdv A1 outer s H E) (fun c d _ H => E c d H) := takes_of rfl rfl rfl rfl
  have hp : PassesOwn (model P w) _ _ (cxOf (L2.CX P w) P w K mg base N_check_set "check_set" (defScope s_check_set) f cdv A1 outer s H E).xe := passes_of rfl
  exact pd_last (pd_ifS (ts_not (ts_e (pd_cl c_is_whole_below tk hr (by decide) (by rfl) (pda_cons (pd_var (pv 0)) (pda_cons (pd_op op_shl op2_shl (pd_int) (pd_var (pv 1))) (pda_nil)))))) (pd_last (pd_err e_BadSet rfl tk (by rfl))) (pd_none))
theorem sc_check_name : FnScope N_check_name ["name", "many"] (defScope s_check_name) := ⟨rfl, rfl, rfl, by decide +kernel, rfl, by decide +kernel, by decide +kernel⟩
theorem ok_check_name {f : Addr} {fd : FuncData} (FU : Fun K "check_name" "check_name" s_check_name f fd) (c_is_whole_below : Cl P w K mg base A "is_whole_below" 2 F_is_whole_below) (e_BadName : ErrOk K mg A 2 "BadName") : FnOk P w K mg base (L2.CX P w) 3 f fd ["name", "many"] (spD (gd K A) F_check_name) := by
  have nd : (N_check_name : List Str).Nodup := sc_check_name.nd
  refine fn_d (k := 2) (g := g_check_name) FU sc_check_name len_check_name (fun cdv A1 outer s H E hr => ?_) h_check_name
  have tk : Takes (cxOf (L2.CX P w) P w K mg base N_check_name "check_name" (defScope s_check_name) f cdv A1 outer s H E) (fun c d _ H => E c d H) := takes_of rfl rfl rfl rfl
  have hp : PassesOwn (model P w) _ _ (cxOf (L2.CX P w) P w K mg base N_check_name "check_name" (defScope s_check_name) f cdv A1 outer s H E).xe := passes_of rfl
  exact pd_last (pd_ifS (ts_not (ts_e (pd_cl c_is_whole_below tk hr (by decide) (by rfl) (pda_cons (pd_var (pv 0)) (pda_cons (pd_var (pv 1)) (pda_nil)))))) (pd_last (pd_err e_BadName rfl tk (by rfl))) (pd_none))
theorem sc_check_order : FnScope N_check_order ["order", "many"] (defScope s_check_order) := ⟨rfl, rfl, rfl, by decide +kernel, rfl, by decide +kernel, by decide +kernel⟩
theorem ok_check_order {f : Addr} {fd : FuncData} (FU : Fun K "check_order" "check_order" s_check_order f fd) (c_is_whole_below : Cl P w K mg base A "is_whole_below" 2 F_is_whole_below) (m_isinstance : mg "isinstance" = none) (m_len : mg "len" = none) (m_list : mg "list" = none) (m_range : mg "range" = none) (m_sorted : mg "sorted" = none) (e_BadOrder : ErrOk K mg A 4 "BadOrder") : FnOk P w K mg base (L2.CX P w) 3 f fd ["order", "many"] (spD (gd K A) F_check_order) := by
  have nd : (N_check_order : List Str).Nodup := sc_check_order.nd
  refine fn_d (k := 2) (g := g_check_order) FU sc_check_order len_check_order (fun cdv A1 outer s H E hr => ?_) h_check_order
  have tk : Takes (cxOf (L2.CX P w) P w K mg base N_check_order "check_order" (defScope s_check_order) f cdv A1 outer s H E) (fun c d _ H => E c d H) := takes_of rfl rfl rfl rfl
  have hp : PassesOwn (model P w) _ _ (cxOf (L2.CX P w) P w K mg base N_check_order "check_order" (defScope s_check_order) f cdv A1 outer s H E).xe := passes_of rfl
  exact pd_seq (pd_ifS ((tw_or (ts_not (ts_e (pd_isTy (T := "list") (by rfl) m_isinstance (pd_var (pv 0)) (by rfl) m_list (by decide +kernel)))) (tw_or1 (ts_ne hr (pd_len (by rfl) m_len (pd_var (pv 0))) (pd_var (pv 1))))).t) (pd_last (pd_err e_BadOrder rfl tk (by rfl))) (pd_none)) <|
    pd_seq (pd_for hp rfl (pdi_list (pd_var (pv 0))) (.nm (pg_name (i := 2) nd rfl (by first | exact .inl rfl | exact .inr rfl))) (pd_last (pd_ifS (ts_not (ts_e (pd_cl c_is_whole_below tk hr (by decide) (by rfl) (pda_cons (pd_var (pv 2)) (pda_cons (pd_var (pv 1)) (pda_nil)))))) (pd_last (pd_err e_BadOrder rfl tk (by rfl))) (pd_none)))) <|
    pd_last (pd_ifS (ts_ne hr (pd_sorted (by rfl) m_sorted (pd_var (pv 0))) (pd_listRg rfl (by rfl) m_list (by rfl) m_range (pd_var (pv 1)))) (pd_last (pd_err e_BadOrder rfl tk (by rfl))) (pd_none))
theorem sc_check_number : FnScope N_check_number ["number"] (defScope s_check_number) := ⟨rfl, rfl, rfl, by decide +kernel, rfl, by decide +kernel, by decide +kernel⟩
theorem ok_check_number {f : Addr} {fd : FuncData} (FU : Fun K "check_number" "check_number" s_check_number f fd) (c_is_whole : Cl P w K mg base A "is_whole" 1 F_is_whole) (e_BadNumber : ErrOk K mg A 3 "BadNumber") : FnOk P w K mg base (L2.CX P w) 2 f fd ["number"] (spD (gd K A) F_check_number) := by
  have nd : (N_check_number : List Str).Nodup := sc_check_number.nd
  refine fn_d (k := 1) (g := g_check_number) FU sc_check_number len_check_number (fun cdv A1 outer s H E hr => ?_) h_check_number
  have tk : Takes (cxOf (L2.CX P w) P w K mg base N_check_number "check_number" (defScope s_check_number) f cdv A1 outer s H E) (fun c d _ H => E c d H) := takes_of rfl rfl rfl rfl
  have hp : PassesOwn (model P w) _ _ (cxOf (L2.CX P w) P w K mg base N_check_number "check_number" (defScope s_check_number) f cdv A1 outer s H E).xe := passes_of rfl
  exact pd_last (pd_ifS (ts_not (ts_e (pd_cl c_is_whole tk hr (by decide) (by rfl) (pda_cons (pd_var (pv 0)) (pda_nil))))) (pd_last (pd_err e_BadNumber rfl tk (by rfl))) (pd_none))
theorem sc_check_table : FnScope N_check_table ["table"] (defScope s_check_table) := ⟨rfl, rfl, rfl, by decide +kernel, rfl, by decide +kernel, by decide +kernel⟩
theorem ok_check_table {f : Addr} {fd : FuncData} (FU : Fun K "check_table" "check_table" s_check_table f fd) (c_is_table_length : Cl P w K mg base A "is_table_length" 1 F_is_table_length) (c_is_whole : Cl P w K mg base A "is_whole" 1 F_is_whole) (m_isinstance : mg "isinstance" = none) (m_len : mg "len" = none) (m_list : mg "list" = none) (e_BadTable : ErrOk K mg A 5 "BadTable") : FnOk P w K mg base (L2.CX P w) 2 f fd ["table"] (spD (gd K A) F_check_table) := by
  have nd : (N_check_table : List Str).Nodup := sc_check_table.nd
  refine fn_d (k := 1) (g := g_check_table) FU sc_check_table len_check_table (fun cdv A1 outer s H E hr => ?_) h_check_table
  have tk : Takes (cxOf (L2.CX P w) P w K mg base N_check_table "check_table" (defScope s_check_table) f cdv A1 outer s H E) (fun c d _ H => E c d H) := takes_of rfl rfl rfl rfl
  have hp : PassesOwn (model P w) _ _ (cxOf (L2.CX P w) P w K mg base N_check_table "check_table" (defScope s_check_table) f cdv A1 outer s H E).xe := passes_of rfl
  exact pd_seq (pd_ifS ((tw_or (ts_not (ts_e (pd_isTy (T := "list") (by rfl) m_isinstance (pd_var (pv 0)) (by rfl) m_list (by decide +kernel)))) (tw_or1 (ts_not (ts_e (pd_cl c_is_table_length tk hr (by decide) (by rfl) (pda_cons (pd_len (by rfl) m_len (pd_var (pv 0))) (pda_nil))))))).t) (pd_last (pd_err e_BadTable rfl tk (by rfl))) (pd_none)) <|
    pd_last (pd_for hp rfl (pdi_list (pd_var (pv 0))) (.nm (pg_name (i := 1) nd rfl (by first | exact .inl rfl | exact .inr rfl))) (pd_last (pd_ifS (ts_not (ts_e (pd_cl c_is_whole tk hr (by decide) (by rfl) (pda_cons (pd_var (pv 1)) (pda_nil))))) (pd_last (pd_err e_BadTable rfl tk (by rfl))) (pd_none))))
theorem sc_names_of : FnScope N_names_of ["table"] (defScope s_names_of) := ⟨rfl, rfl, rfl, by decide +kernel, rfl, by decide +kernel, by decide +kernel⟩
theorem ok_names_of {f : Addr} {fd : FuncData} (FU : Fun K "names_of" "names_of" s_names_of f fd) (c_check_table : Cl P w K mg base A "check_table" 2 F_check_table) (m_len : mg "len" = none) : FnOk P w K mg base (L2.CX P w) 3 f fd ["table"] (spD (gd K A) F_names_of) := by
  have nd : (N_names_of : List Str).Nodup := sc_names_of.nd
  refine fn_d (k := 2) (g := g_names_of) FU sc_names_of len_names_of (fun cdv A1 outer s H E hr => ?_) h_names_of
  have tk : Takes (cxOf (L2.CX P w) P w K mg base N_names_of "names_of" (defScope s_names_of) f cdv A1 outer s H E) (fun c d _ H => E c d H) := takes_of rfl rfl rfl rfl
  have hp : PassesOwn (model P w) _ _ (cxOf (L2.CX P w) P w K mg base N_names_of "names_of" (defScope s_names_of) f cdv A1 outer s H E).xe := passes_of rfl
  exact pd_seq (pd_expr (pd_cl c_check_table tk hr (by decide) (by rfl) (pda_cons (pd_var (pv 0)) (pda_nil)))) <|
    pd_last (pd_ret (pd_op op_sub op2_sub (pd_bits (pd_len (by rfl) m_len (pd_var (pv 0)))) (pd_int)))
theorem sc_blank : FnScope N_blank ["many"] (defScope s_blank) := ⟨rfl, rfl, rfl, by decide +kernel, rfl, by decide +kernel, by decide +kernel⟩
theorem ok_blank {f : Addr} {fd : FuncData} (FU : Fun K "blank" "blank" s_blank f fd) (c_check_count : Cl P w K mg base A "check_count" 3 F_check_count) : FnOk P w K mg base (L2.CX P w) 4 f fd ["many"] (spD (gd K A) F_blank) := by
  have nd : (N_blank : List Str).Nodup := sc_blank.nd
  refine fn_d (k := 3) (g := g_blank) FU sc_blank len_blank (fun cdv A1 outer s H E hr => ?_) h_blank
  have tk : Takes (cxOf (L2.CX P w) P w K mg base N_blank "blank" (defScope s_blank) f cdv A1 outer s H E) (fun c d _ H => E c d H) := takes_of rfl rfl rfl rfl
  have hp : PassesOwn (model P w) _ _ (cxOf (L2.CX P w) P w K mg base N_blank "blank" (defScope s_blank) f cdv A1 outer s H E).xe := passes_of rfl
  exact pd_seq (pd_expr (pd_cl c_check_count tk hr (by decide) (by rfl) (pda_cons (pd_var (pv 0)) (pda_nil)))) <|
    pd_last (pd_ret (pd_op opr_mulA op2_mul (pd_lst (pda_cons (pd_int) (pda_nil))) (pd_op op_shl op2_shl (pd_int) (pd_var (pv 0)))))
theorem sc_reordered : FnScope N_reordered ["table", "order"] (defScope s_reordered) := ⟨rfl, rfl, rfl, by decide +kernel, rfl, by decide +kernel, by decide +kernel⟩
theorem ok_reordered {f : Addr} {fd : FuncData} (FU : Fun K "reordered" "reordered" s_reordered f fd) (c_check_order : Cl P w K mg base A "check_order" 3 F_check_order) (c_names_of : Cl P w K mg base A "names_of" 3 F_names_of) : FnOk P w K mg base (L2.CX P w) 4 f fd ["table", "order"] (spD (gd K A) F_reordered) := by
  have nd : (N_reordered : List Str).Nodup := sc_reordered.nd
  refine fn_d (k := 3) (g := g_reordered) FU sc_reordered len_reordered (fun cdv A1 outer s H E hr => ?_) h_reordered
  have tk : Takes (cxOf (L2.CX P w) P w K mg base N_reordered "reordered" (defScope s_reordered) f cdv A1 outer s H E) (fun c d _ H => E c d H) := takes_of rfl rfl rfl rfl
  have hp : PassesOwn (model P w) _ _ (cxOf (L2.CX P w) P w K mg base N_reordered "reordered" (defScope s_reordered) f cdv A1 outer s H E).xe := passes_of rfl
  exact pd_seq (pd_expr (pd_cl c_check_order tk hr (by decide) (by rfl) (pda_cons (pd_var (pv 1)) (pda_cons (pd_cl c_names_of tk hr (by decide) (by rfl) (pda_cons (pd_var (pv 0)) (pda_nil))) (pda_nil))))) <|
    pd_seq (pd_asg (i := 2) nd rfl (by first | exact .inl rfl | exact .inr rfl) (pd_lst (pda_cons (pd_int) (pda_nil)))) <|
    pd_seq (pd_for hp rfl (pdi_list (pd_var (pv 1))) (.nm (pg_name (i := 3) nd rfl (by first | exact .inl rfl | exact .inr rfl))) (pd_last (pd_asg (i := 2) nd rfl (by first | exact .inl rfl | exact .inr rfl) (pd_op (opr_or op_add op_cat) op2_add (pd_var (pv 2)) (pd_lc rfl nd (pdi_list (pd_var (pv 2))) (blkOk_by (own := [("place", 4)]) (N := N_reordered) (sc := defScope s_reordered) (by decide +kernel)) (by decide) (fun _ _ _ _ _ => .nm (pg_name (i := 4) nd rfl (by first | exact .inl rfl | exact .inr rfl))) (fun _ _ _ _ _ => ptd_nil) (fun _ _ _ _ _ => pd_op op_or op2_or (pd_var (pv 4)) (pd_op op_shl op2_shl (pd_int) (pd_var (pv 3))))))))) <|
    pd_last (pd_ret (pd_lc rfl nd (pdi_list (pd_var (pv 2))) (blkOk_by (own := [("place", 4)]) (N := N_reordered) (sc := defScope s_reordered) (by decide +kernel)) (by decide) (fun _ _ _ _ _ => .nm (pg_name (i := 4) nd rfl (by first | exact .inl rfl | exact .inr rfl))) (fun _ _ _ _ _ => ptd_nil) (fun _ _ _ _ _ => pd_item (pd_var (pv 0)) (pd_var (pv 4)))))
theorem sc_parts : FnScope N_parts ["one"] (defScope s_parts) := ⟨rfl, rfl, rfl, by decide +kernel, rfl, by decide +kernel, by decide +kernel⟩
theorem ok_parts {f : Addr} {fd : FuncData} (FU : Fun K "parts" "parts" s_parts f fd) (c_check_set : Cl P w K mg base A "check_set" 3 F_check_set) (m_range : mg "range" = none) (k_MOST_NAMES : ∃ t, mg "MOST_NAMES" = some (.int 10 t)) : FnOk P w K mg base (L2.CX P w) 4 f fd ["one"] (spD (gd K A) F_parts) := by
  have nd : (N_parts : List Str).Nodup := sc_parts.nd
  refine fn_d (k := 3) (g := g_parts) FU sc_parts len_parts (fun cdv A1 outer s H E hr => ?_) h_parts
  have tk : Takes (cxOf (L2.CX P w) P w K mg base N_parts "parts" (defScope s_parts) f cdv A1 outer s H E) (fun c d _ H => E c d H) := takes_of rfl rfl rfl rfl
  have hp : PassesOwn (model P w) _ _ (cxOf (L2.CX P w) P w K mg base N_parts "parts" (defScope s_parts) f cdv A1 outer s H E).xe := passes_of rfl
  exact pd_seq (pd_expr (pd_cl c_check_set tk hr (by decide) (by rfl) (pda_cons (pd_var (pv 0)) (pda_cons (pd_glI (by rfl) k_MOST_NAMES) (pda_nil))))) <|
    pd_last (pd_ret (pd_lc rfl nd (pdi_range1 (by rfl) m_range (pd_op (opr_or op_add op_cat) op2_add (pd_var (pv 0)) (pd_int))) (blkOk_by (own := [("part", 1)]) (N := N_parts) (sc := defScope s_parts) (by decide +kernel)) (by decide) (fun _ _ _ _ _ => .nm (pg_name (i := 1) nd rfl (by first | exact .inl rfl | exact .inr rfl))) (fun _ _ _ _ _ => ptd_one (ts_eq hr (pd_op op_and op2_and (pd_var (pv 1)) (pd_var (pv 0))) (pd_var (pv 1)))) (fun _ _ _ _ _ => pd_var (pv 1))))
theorem sc___init__ : FnScope N___init__ ["self", "many"] (defScope s___init__) := ⟨rfl, rfl, rfl, by decide +kernel, rfl, by decide +kernel, by decide +kernel⟩
theorem sc_put : FnScope N_put ["self", "one", "number"] (defScope s_put) := ⟨rfl, rfl, rfl, by decide +kernel, rfl, by decide +kernel, by decide +kernel⟩
theorem bd_put {f : Addr} {fd : FuncData} (FU : Fun K "put" "Book.put" s_put f fd) (c_check_number : Cl P w K mg base A "check_number" 2 F_check_number) (c_check_set : Cl P w K mg base A "check_set" 3 F_check_set) (cB : Cls K (A (2 * 1001 + 1))) (n__done : NoAttr K (A (2 * 1001 + 1)) "_done") (n__many : NoAttr K (A (2 * 1001 + 1)) "_many") (n__numbers : NoAttr K (A (2 * 1001 + 1)) "_numbers") (k_PUT : ∃ t, mg "PUT" = some (.int 0 t)) (cdv : Value) (A1 : Around) (outer : List Env) (s : Shared) (H : Hp) (E : XK) (hr : Room 3 (A1.deeper (envOfC "Book.put" (defScope s_put) s.heap.objs.size f cdv))) : PSs (cxOf (L2.CX P w) P w K mg base N_put "Book.put" (defScope s_put) f cdv A1 outer s H E) (defBody s_put) (tsD (gd K A) (fun c d _ H => E c d H) g_put) := by
  have nd : (N_put : List Str).Nodup := sc_put.nd
  have tk : Takes (cxOf (L2.CX P w) P w K mg base N_put "Book.put" (defScope s_put) f cdv A1 outer s H E) (fun c d _ H => E c d H) := takes_of rfl rfl rfl rfl
  have hp : PassesOwn (model P w) _ _ (cxOf (L2.CX P w) P w K mg base N_put "Book.put" (defScope s_put) f cdv A1 outer s H E).xe := passes_of rfl
  exact pd_seq (pd_expr (pd_cl c_check_set tk hr (by decide) (by rfl) (pda_cons (pd_var (pv 1)) (pda_cons (pd_attr cB n__many (pd_var (pv 0))) (pda_nil))))) <|
    pd_seq (pd_expr (pd_cl c_check_number tk hr (by decide) (by rfl) (pda_cons (pd_var (pv 2)) (pda_nil)))) <|
    pd_seq (pd_bkAug cB n__numbers (pv 0) (pd_var (pv 1)) (pd_var (pv 2)) ip_add) <|
    pd_last (pd_bkApp cB n__done (pv 0) (pd_tup (pda_cons (pd_glI (by rfl) k_PUT) (pda_cons (pd_var (pv 1)) (pda_cons (pd_var (pv 2)) (pda_nil))))))
theorem okm_put {f : Addr} {fd : FuncData} (FU : Fun K "put" "Book.put" s_put f fd) (c_check_number : Cl P w K mg base A "check_number" 2 F_check_number) (c_check_set : Cl P w K mg base A "check_set" 3 F_check_set) (cB : Cls K (A (2 * 1001 + 1))) (n__done : NoAttr K (A (2 * 1001 + 1)) "_done") (n__many : NoAttr K (A (2 * 1001 + 1)) "_many") (n__numbers : NoAttr K (A (2 * 1001 + 1)) "_numbers") (k_PUT : ∃ t, mg "PUT" = some (.int 0 t)) : FnOk P w K mg base (L2.CX P w) 4 f fd ["self", "one", "number"] (spM (gd K A) FM_put) :=
  fn_m (k := 3) (g := g_put) FU sc_put lenM_put (bd_put FU c_check_number c_check_set cB n__done n__many n__numbers k_PUT) hM_put
theorem ok_put {f : Addr} {fd : FuncData} (FU : Fun K "put" "Book.put" s_put f fd) (c_check_number : Cl P w K mg base A "check_number" 2 F_check_number) (c_check_set : Cl P w K mg base A "check_set" 3 F_check_set) (cB : Cls K (A (2 * 1001 + 1))) (n__done : NoAttr K (A (2 * 1001 + 1)) "_done") (n__many : NoAttr K (A (2 * 1001 + 1)) "_many") (n__numbers : NoAttr K (A (2 * 1001 + 1)) "_numbers") (k_PUT : ∃ t, mg "PUT" = some (.int 0 t)) : FnOk P w K mg base (L2.CX P w) 4 f fd ["self", "one", "number"] (spD (gd K A) F_put) :=
  fn_d (k := 3) (g := g_put) FU sc_put len_put (bd_put FU c_check_number c_check_set cB n__done n__many n__numbers k_PUT) h_put
theorem sc_swap : FnScope N_swap ["self", "name", "other"] (defScope s_swap) := ⟨rfl, rfl, rfl, by decide +kernel, rfl, by decide +kernel, by decide +kernel⟩
theorem bd_swap {f : Addr} {fd : FuncData} (FU : Fun K "swap" "Book.swap" s_swap f fd) (c_check_name : Cl P w K mg base A "check_name" 3 F_check_name) (cB : Cls K (A (2 * 1001 + 1))) (n__done : NoAttr K (A (2 * 1001 + 1)) "_done") (n__many : NoAttr K (A (2 * 1001 + 1)) "_many") (mm__exchange : MtOk P w K mg base (A (2 * 1001 + 1)) "_exchange" 5 (spM (gd K A) FM__exchange)) (k_SWAP : ∃ t, mg "SWAP" = some (.int 1 t)) (cdv : Value) (A1 : Around) (outer : List Env) (s : Shared) (H : Hp) (E : XK) (hr : Room 5 (A1.deeper (envOfC "Book.swap" (defScope s_swap) s.heap.objs.size f cdv))) : PSs (cxOf (L2.CX P w) P w K mg base N_swap "Book.swap" (defScope s_swap) f cdv A1 outer s H E) (defBody s_swap) (tsD (gd K A) (fun c d _ H => E c d H) g_swap) := by
  have nd : (N_swap : List Str).Nodup := sc_swap.nd
  have tk : Takes (cxOf (L2.CX P w) P w K mg base N_swap "Book.swap" (defScope s_swap) f cdv A1 outer s H E) (fun c d _ H => E c d H) := takes_of rfl rfl rfl rfl
  have hp : PassesOwn (model P w) _ _ (cxOf (L2.CX P w) P w K mg base N_swap "Book.swap" (defScope s_swap) f cdv A1 outer s H E).xe := passes_of rfl
  exact pd_seq (pd_expr (pd_cl c_check_name tk hr (by decide) (by rfl) (pda_cons (pd_var (pv 1)) (pda_cons (pd_attr cB n__many (pd_var (pv 0))) (pda_nil))))) <|
    pd_seq (pd_expr (pd_cl c_check_name tk hr (by decide) (by rfl) (pda_cons (pd_var (pv 2)) (pda_cons (pd_attr cB n__many (pd_var (pv 0))) (pda_nil))))) <|
    pd_seq (pd_exprM (c := (.mt 0 [.ex (fV 1), .ex (fV 2)] FM__exchange)) (pd_methM (i := 0) cB mm__exchange tk hr (by decide) (by decide) (by decide) (pv 0) (pam_ex (W := W0) (pd_var (pv 1)) (pam_ex (W := W0) (pd_var (pv 2)) (pam_nil))))) <|
    pd_last (pd_bkApp cB n__done (pv 0) (pd_tup (pda_cons (pd_glI (by rfl) k_SWAP) (pda_cons (pd_var (pv 1)) (pda_cons (pd_var (pv 2)) (pda_nil))))))
theorem okm_swap {f : Addr} {fd : FuncData} (FU : Fun K "swap" "Book.swap" s_swap f fd) (c_check_name : Cl P w K mg base A "check_name" 3 F_check_name) (cB : Cls K (A (2 * 1001 + 1))) (n__done : NoAttr K (A (2 * 1001 + 1)) "_done") (n__many : NoAttr K (A (2 * 1001 + 1)) "_many") (mm__exchange : MtOk P w K mg base (A (2 * 1001 + 1)) "_exchange" 5 (spM (gd K A) FM__exchange)) (k_SWAP : ∃ t, mg "SWAP" = some (.int 1 t)) : FnOk P w K mg base (L2.CX P w) 6 f fd ["self", "name", "other"] (spM (gd K A) FM_swap) :=
  fn_m (k := 5) (g := g_swap) FU sc_swap lenM_swap (bd_swap FU c_check_name cB n__done n__many mm__exchange k_SWAP) hM_swap
theorem ok_swap {f : Addr} {fd : FuncData} (FU : Fun K "swap" "Book.swap" s_swap f fd) (c_check_name : Cl P w K mg base A "check_name" 3 F_check_name) (cB : Cls K (A (2 * 1001 + 1))) (n__done : NoAttr K (A (2 * 1001 + 1)) "_done") (n__many : NoAttr K (A (2 * 1001 + 1)) "_many") (mm__exchange : MtOk P w K mg base (A (2 * 1001 + 1)) "_exchange" 5 (spM (gd K A) FM__exchange)) (k_SWAP : ∃ t, mg "SWAP" = some (.int 1 t)) : FnOk P w K mg base (L2.CX P w) 6 f fd ["self", "name", "other"] (spD (gd K A) F_swap) :=
  fn_d (k := 5) (g := g_swap) FU sc_swap len_swap (bd_swap FU c_check_name cB n__done n__many mm__exchange k_SWAP) h_swap
theorem sc_undo : FnScope N_undo ["self"] (defScope s_undo) := ⟨rfl, rfl, rfl, by decide +kernel, rfl, by decide +kernel, by decide +kernel⟩
theorem bd_undo {f : Addr} {fd : FuncData} (FU : Fun K "undo" "Book.undo" s_undo f fd) (cB : Cls K (A (2 * 1001 + 1))) (n__done : NoAttr K (A (2 * 1001 + 1)) "_done") (n__numbers : NoAttr K (A (2 * 1001 + 1)) "_numbers") (mm__exchange : MtOk P w K mg base (A (2 * 1001 + 1)) "_exchange" 5 (spM (gd K A) FM__exchange)) (m_len : mg "len" = none) (k_PUT : ∃ t, mg "PUT" = some (.int 0 t)) (e_NothingDone : ErrOk K mg A 8 "NothingDone") (cdv : Value) (A1 : Around) (outer : List Env) (s : Shared) (H : Hp) (E : XK) (hr : Room 5 (A1.deeper (envOfC "Book.undo" (defScope s_undo) s.heap.objs.size f cdv))) : PSs (cxOf (L2.CX P w) P w K mg base N_undo "Book.undo" (defScope s_undo) f cdv A1 outer s H E) (defBody s_undo) (tsD (gd K A) (fun c d _ H => E c d H) g_undo) := by
  have nd : (N_undo : List Str).Nodup := sc_undo.nd
  have tk : Takes (cxOf (L2.CX P w) P w K mg base N_undo "Book.undo" (defScope s_undo) f cdv A1 outer s H E) (fun c d _ H => E c d H) := takes_of rfl rfl rfl rfl
  have hp : PassesOwn (model P w) _ _ (cxOf (L2.CX P w) P w K mg base N_undo "Book.undo" (defScope s_undo) f cdv A1 outer s H E).xe := passes_of rfl
  exact pd_seq (pd_ifS (ts_eq hr (pd_len (by rfl) m_len (pd_attr cB n__done (pd_var (pv 0)))) (pd_int)) (pd_last (pd_err e_NothingDone rfl tk (by rfl))) (pd_none)) <|
    pd_seq (pd_bkPop (is := [1, 2, 3]) cB n__done (pv 0) (pg_tup rfl (pgs_cons (pg_name (i := 1) nd rfl (by first | exact .inl rfl | exact .inr rfl)) (pgs_cons (pg_name (i := 2) nd rfl (by first | exact .inl rfl | exact .inr rfl)) (pgs_cons (pg_name (i := 3) nd rfl (by first | exact .inl rfl | exact .inr rfl)) (pgs_nil)))))) <|
    pd_last (pd_ifS (ts_eq hr (pd_var (pv 1)) (pd_glI (by rfl) k_PUT)) (pd_last (pd_bkAug cB n__numbers (pv 0) (pd_var (pv 2)) (pd_var (pv 3)) ip_sub)) (pd_last (pd_exprM (c := (.mt 0 [.ex (fV 2), .ex (fV 3)] FM__exchange)) (pd_methM (i := 0) cB mm__exchange tk hr (by decide) (by decide) (by decide) (pv 0) (pam_ex (W := W0) (pd_var (pv 2)) (pam_ex (W := W0) (pd_var (pv 3)) (pam_nil)))))))
theorem okm_undo {f : Addr} {fd : FuncData} (FU : Fun K "undo" "Book.undo" s_undo f fd) (cB : Cls K (A (2 * 1001 + 1))) (n__done : NoAttr K (A (2 * 1001 + 1)) "_done") (n__numbers : NoAttr K (A (2 * 1001 + 1)) "_numbers") (mm__exchange : MtOk P w K mg base (A (2 * 1001 + 1)) "_exchange" 5 (spM (gd K A) FM__exchange)) (m_len : mg "len" = none) (k_PUT : ∃ t, mg "PUT" = some (.int 0 t)) (e_NothingDone : ErrOk K mg A 8 "NothingDone") : FnOk P w K mg base (L2.CX P w) 6 f fd ["self"] (spM (gd K A) FM_undo) :=
  fn_m (k := 5) (g := g_undo) FU sc_undo lenM_undo (bd_undo FU cB n__done n__numbers mm__exchange m_len k_PUT e_NothingDone) hM_undo
theorem ok_undo {f : Addr} {fd : FuncData} (FU : Fun K "undo" "Book.undo" s_undo f fd) (cB : Cls K (A (2 * 1001 + 1))) (n__done : NoAttr K (A (2 * 1001 + 1)) "_done") (n__numbers : NoAttr K (A (2 * 1001 + 1)) "_numbers") (mm__exchange : MtOk P w K mg base (A (2 * 1001 + 1)) "_exchange" 5 (spM (gd K A) FM__exchange)) (m_len : mg "len" = none) (k_PUT : ∃ t, mg "PUT" = some (.int 0 t)) (e_NothingDone : ErrOk K mg A 8 "NothingDone") : FnOk P w K mg base (L2.CX P w) 6 f fd ["self"] (spD (gd K A) F_undo) :=
  fn_d (k := 5) (g := g_undo) FU sc_undo len_undo (bd_undo FU cB n__done n__numbers mm__exchange m_len k_PUT e_NothingDone) h_undo
theorem sc_value : FnScope N_value ["self", "one"] (defScope s_value) := ⟨rfl, rfl, rfl, by decide +kernel, rfl, by decide +kernel, by decide +kernel⟩
theorem ok_value {f : Addr} {fd : FuncData} (FU : Fun K "value" "Book.value" s_value f fd) (c_check_set : Cl P w K mg base A "check_set" 3 F_check_set) (cB : Cls K (A (2 * 1001 + 1))) (n__many : NoAttr K (A (2 * 1001 + 1)) "_many") (n__numbers : NoAttr K (A (2 * 1001 + 1)) "_numbers") : FnOk P w K mg base (L2.CX P w) 4 f fd ["self", "one"] (spD (gd K A) F_value) := by
  have nd : (N_value : List Str).Nodup := sc_value.nd
  refine fn_d (k := 3) (g := g_value) FU sc_value len_value (fun cdv A1 outer s H E hr => ?_) h_value
  have tk : Takes (cxOf (L2.CX P w) P w K mg base N_value "Book.value" (defScope s_value) f cdv A1 outer s H E) (fun c d _ H => E c d H) := takes_of rfl rfl rfl rfl
  have hp : PassesOwn (model P w) _ _ (cxOf (L2.CX P w) P w K mg base N_value "Book.value" (defScope s_value) f cdv A1 outer s H E).xe := passes_of rfl
  exact pd_seq (pd_expr (pd_cl c_check_set tk hr (by decide) (by rfl) (pda_cons (pd_var (pv 1)) (pda_cons (pd_attr cB n__many (pd_var (pv 0))) (pda_nil))))) <|
    pd_last (pd_ret (pd_item (pd_attr cB n__numbers (pd_var (pv 0))) (pd_var (pv 1))))
theorem sc_under : FnScope N_under ["self", "one"] (defScope s_under) := ⟨rfl, rfl, rfl, by decide +kernel, rfl, by decide +kernel, by decide +kernel⟩
theorem ok_under {f : Addr} {fd : FuncData} (FU : Fun K "under" "Book.under" s_under f fd) (c_check_set : Cl P w K mg base A "check_set" 3 F_check_set) (c_parts : Cl P w K mg base A "parts" 4 F_parts) (cB : Cls K (A (2 * 1001 + 1))) (n__many : NoAttr K (A (2 * 1001 + 1)) "_many") (n__numbers : NoAttr K (A (2 * 1001 + 1)) "_numbers") (m_sum : mg "sum" = none) : FnOk P w K mg base (L2.CX P w) 5 f fd ["self", "one"] (spD (gd K A) F_under) := by
  have nd : (N_under : List Str).Nodup := sc_under.nd
  refine fn_d (k := 4) (g := g_under) FU sc_under len_under (fun cdv A1 outer s H E hr => ?_) h_under
  have tk : Takes (cxOf (L2.CX P w) P w K mg base N_under "Book.under" (defScope s_under) f cdv A1 outer s H E) (fun c d _ H => E c d H) := takes_of rfl rfl rfl rfl
  have hp : PassesOwn (model P w) _ _ (cxOf (L2.CX P w) P w K mg base N_under "Book.under" (defScope s_under) f cdv A1 outer s H E).xe := passes_of rfl
  exact pd_seq (pd_expr (pd_cl c_check_set tk hr (by decide) (by rfl) (pda_cons (pd_var (pv 1)) (pda_cons (pd_attr cB n__many (pd_var (pv 0))) (pda_nil))))) <|
    pd_last (pd_ret (pd_sum (by rfl) m_sum rfl (pd_lc rfl nd (pdi_list (pd_cl c_parts tk hr (by decide) (by rfl) (pda_cons (pd_var (pv 1)) (pda_nil)))) (blkOk_by (own := [("part", 2)]) (N := N_under) (sc := defScope s_under) (by decide +kernel)) (by decide) (fun _ _ _ _ _ => .nm (pg_name (i := 2) nd rfl (by first | exact .inl rfl | exact .inr rfl))) (fun _ _ _ _ _ => ptd_nil) (fun _ _ _ _ _ => pd_item (pd_attr cB n__numbers (pd_var (pv 0))) (pd_var (pv 2))))))
theorem sc_over : FnScope N_over ["self", "one"] (defScope s_over) := ⟨rfl, rfl, rfl, by decide +kernel, rfl, by decide +kernel, by decide +kernel⟩
theorem ok_over {f : Addr} {fd : FuncData} (FU : Fun K "over" "Book.over" s_over f fd) (c_check_set : Cl P w K mg base A "check_set" 3 F_check_set) (cB : Cls K (A (2 * 1001 + 1))) (n__many : NoAttr K (A (2 * 1001 + 1)) "_many") (n__numbers : NoAttr K (A (2 * 1001 + 1)) "_numbers") (m_enumerate : mg "enumerate" = none) (m_sum : mg "sum" = none) : FnOk P w K mg base (L2.CX P w) 4 f fd ["self", "one"] (spD (gd K A) F_over) := by
  have nd : (N_over : List Str).Nodup := sc_over.nd
  refine fn_d (k := 3) (g := g_over) FU sc_over len_over (fun cdv A1 outer s H E hr => ?_) h_over
  have tk : Takes (cxOf (L2.CX P w) P w K mg base N_over "Book.over" (defScope s_over) f cdv A1 outer s H E) (fun c d _ H => E c d H) := takes_of rfl rfl rfl rfl
  have hp : PassesOwn (model P w) _ _ (cxOf (L2.CX P w) P w K mg base N_over "Book.over" (defScope s_over) f cdv A1 outer s H E).xe := passes_of rfl
  exact pd_seq (pd_expr (pd_cl c_check_set tk hr (by decide) (by rfl) (pda_cons (pd_var (pv 1)) (pda_cons (pd_attr cB n__many (pd_var (pv 0))) (pda_nil))))) <|
    pd_last (pd_ret (pd_sum (by rfl) m_sum rfl (pd_lc rfl nd (pdi_enum (by rfl) m_enumerate (pd_attr cB n__numbers (pd_var (pv 0)))) (blkOk_by (own := [("other", 2), ("number", 3)]) (N := N_over) (sc := defScope s_over) (by decide +kernel)) (by decide) (fun _ _ _ _ _ => .tp (pg_tup rfl (pgs_cons (pg_name (i := 2) nd rfl (by first | exact .inl rfl | exact .inr rfl)) (pgs_cons (pg_name (i := 3) nd rfl (by first | exact .inl rfl | exact .inr rfl)) (pgs_nil))))) (fun _ _ _ _ _ => ptd_one (ts_eq hr (pd_op op_and op2_and (pd_var (pv 1)) (pd_var (pv 2))) (pd_var (pv 1)))) (fun _ _ _ _ _ => pd_var (pv 3)))))
theorem sc_table : FnScope N_table ["self"] (defScope s_table) := ⟨rfl, rfl, rfl, by decide +kernel, rfl, by decide +kernel, by decide +kernel⟩
theorem ok_table {f : Addr} {fd : FuncData} (FU : Fun K "table" "Book.table" s_table f fd) (cB : Cls K (A (2 * 1001 + 1))) (n__numbers : NoAttr K (A (2 * 1001 + 1)) "_numbers") (m_list : mg "list" = none) : FnOk P w K mg base (L2.CX P w) 1 f fd ["self"] (spD (gd K A) F_table) := by
  have nd : (N_table : List Str).Nodup := sc_table.nd
  refine fn_d (k := 0) (g := g_table) FU sc_table len_table (fun cdv A1 outer s H E hr => ?_) h_table
  have tk : Takes (cxOf (L2.CX P w) P w K mg base N_table "Book.table" (defScope s_table) f cdv A1 outer s H E) (fun c d _ H => E c d H) := takes_of rfl rfl rfl rfl
  have hp : PassesOwn (model P w) _ _ (cxOf (L2.CX P w) P w K mg base N_table "Book.table" (defScope s_table) f cdv A1 outer s H E).xe := passes_of rfl
  exact pd_last (pd_ret (pd_list (by rfl) m_list (pd_attr cB n__numbers (pd_var (pv 0)))))
theorem sc_many_done : FnScope N_many_done ["self"] (defScope s_many_done) := ⟨rfl, rfl, rfl, by decide +kernel, rfl, by decide +kernel, by decide +kernel⟩
theorem ok_many_done {f : Addr} {fd : FuncData} (FU : Fun K "many_done" "Book.many_done" s_many_done f fd) (cB : Cls K (A (2 * 1001 + 1))) (n__done : NoAttr K (A (2 * 1001 + 1)) "_done") (m_len : mg "len" = none) : FnOk P w K mg base (L2.CX P w) 1 f fd ["self"] (spD (gd K A) F_many_done) := by
  have nd : (N_many_done : List Str).Nodup := sc_many_done.nd
  refine fn_d (k := 0) (g := g_many_done) FU sc_many_done len_many_done (fun cdv A1 outer s H E hr => ?_) h_many_done
  have tk : Takes (cxOf (L2.CX P w) P w K mg base N_many_done "Book.many_done" (defScope s_many_done) f cdv A1 outer s H E) (fun c d _ H => E c d H) := takes_of rfl rfl rfl rfl
  have hp : PassesOwn (model P w) _ _ (cxOf (L2.CX P w) P w K mg base N_many_done "Book.many_done" (defScope s_many_done) f cdv A1 outer s H E).xe := passes_of rfl
  exact pd_last (pd_ret (pd_len (by rfl) m_len (pd_attr cB n__done (pd_var (pv 0)))))
theorem sc__exchange : FnScope N__exchange ["self", "name", "other"] (defScope s__exchange) := ⟨rfl, rfl, rfl, by decide +kernel, rfl, by decide +kernel, by decide +kernel⟩
theorem bd__exchange {f : Addr} {fd : FuncData} (FU : Fun K "_exchange" "Book._exchange" s__exchange f fd) (c_reordered : Cl P w K mg base A "reordered" 4 F_reordered) (cB : Cls K (A (2 * 1001 + 1))) (n__many : NoAttr K (A (2 * 1001 + 1)) "_many") (n__numbers : NoAttr K (A (2 * 1001 + 1)) "_numbers") (m_list : mg "list" = none) (m_range : mg "range" = none) (cdv : Value) (A1 : Around) (outer : List Env) (s : Shared) (H : Hp) (E : XK) (hr : Room 4 (A1.deeper (envOfC "Book._exchange" (defScope s__exchange) s.heap.objs.size f cdv))) : PSs (cxOf (L2.CX P w) P w K mg base N__exchange "Book._exchange" (defScope s__exchange) f cdv A1 outer s H E) (defBody s__exchange) (tsD (gd K A) (fun c d _ H => E c d H) g__exchange) := by
  have nd : (N__exchange : List Str).Nodup := sc__exchange.nd
  have tk : Takes (cxOf (L2.CX P w) P w K mg base N__exchange "Book._exchange" (defScope s__exchange) f cdv A1 outer s H E) (fun c d _ H => E c d H) := takes_of rfl rfl rfl rfl
  have hp : PassesOwn (model P w) _ _ (cxOf (L2.CX P w) P w K mg base N__exchange "Book._exchange" (defScope s__exchange) f cdv A1 outer s H E).xe := passes_of rfl
  exact pd_seq (pd_own (i := 3) nd rfl (by first | exact .inl rfl | exact .inr rfl) (pd_listRg rfl (by rfl) m_list (by rfl) m_range (pd_attr cB n__many (pd_var (pv 0))))) <|
    pd_seq (pd_set (pv 3) (pd_var (pv 1)) (pd_var (pv 2))) <|
    pd_seq (pd_set (pv 3) (pd_var (pv 2)) (pd_var (pv 1))) <|
    pd_last (pd_bkSet cB n__numbers (pv 0) (pd_cl c_reordered tk hr (by decide) (by rfl) (pda_cons (pd_attr cB n__numbers (pd_var (pv 0))) (pda_cons (pd_var (pv 3)) (pda_nil)))))
theorem okm__exchange {f : Addr} {fd : FuncData} (FU : Fun K "_exchange" "Book._exchange" s__exchange f fd) (c_reordered : Cl P w K mg base A "reordered" 4 F_reordered) (cB : Cls K (A (2 * 1001 + 1))) (n__many : NoAttr K (A (2 * 1001 + 1)) "_many") (n__numbers : NoAttr K (A (2 * 1001 + 1)) "_numbers") (m_list : mg "list" = none) (m_range : mg "range" = none) : FnOk P w K mg base (L2.CX P w) 5 f fd ["self", "name", "other"] (spM (gd K A) FM__exchange) :=
  fn_m (k := 4) (g := g__exchange) FU sc__exchange lenM__exchange (bd__exchange FU c_reordered cB n__many n__numbers m_list m_range) hM__exchange
theorem sc__law_cell : FnScope N__law_cell ["_law_script", "_law_k"] (defScope s__law_cell) := ⟨rfl, rfl, rfl, by decide +kernel, rfl, by decide +kernel, by decide +kernel⟩
theorem ok__law_cell {f : Addr} {fd : FuncData} (FU : Fun K "_law_cell" "_law_cell" s__law_cell f fd)  : FnOk P w K mg base (L2.CX P w) 1 f fd ["_law_script", "_law_k"] (spD (gd K A) F__law_cell) := by
  have nd : (N__law_cell : List Str).Nodup := sc__law_cell.nd
  refine fn_d (k := 0) (g := g__law_cell) FU sc__law_cell len__law_cell (fun cdv A1 outer s H E hr => ?_) h__law_cell
  have tk : Takes (cxOf (L2.CX P w) P w K mg base N__law_cell "_law_cell" (defScope s__law_cell) f cdv A1 outer s H E) (fun c d _ H => E c d H) := takes_of rfl rfl rfl rfl
  have hp : PassesOwn (model P w) _ _ (cxOf (L2.CX P w) P w K mg base N__law_cell "_law_cell" (defScope s__law_cell) f cdv A1 outer s H E).xe := passes_of rfl
  exact pd_last (pd_ret (pd_op op_mod op2_mod (pd_item (pd_op (opr_or op_add op_cat) op2_add (pd_slice (pd_var (pv 0)) (.some (pd_var (pv 1))) (.some (pd_op (opr_or op_add op_cat) op2_add (pd_var (pv 1)) (pd_int)))) (pd_lst (pda_cons (pd_int) (pda_nil)))) (pd_int)) (pd_op op_pow op2_pow (pd_int) (pd_int))))
theorem sc__law_mixed : FnScope N__law_mixed ["_law_script", "_law_k"] (defScope s__law_mixed) := ⟨rfl, rfl, rfl, by decide +kernel, rfl, by decide +kernel, by decide +kernel⟩
theorem ok__law_mixed {f : Addr} {fd : FuncData} (FU : Fun K "_law_mixed" "_law_mixed" s__law_mixed f fd) (c__law_cell : Cl P w K mg base A "_law_cell" 1 F__law_cell) (m_len : mg "len" = none) (m_max : mg "max" = none) : FnOk P w K mg base (L2.CX P w) 2 f fd ["_law_script", "_law_k"] (spD (gd K A) F__law_mixed) := by
  have nd : (N__law_mixed : List Str).Nodup := sc__law_mixed.nd
  refine fn_d (k := 1) (g := g__law_mixed) FU sc__law_mixed len__law_mixed (fun cdv A1 outer s H E hr => ?_) h__law_mixed
  have tk : Takes (cxOf (L2.CX P w) P w K mg base N__law_mixed "_law_mixed" (defScope s__law_mixed) f cdv A1 outer s H E) (fun c d _ H => E c d H) := takes_of rfl rfl rfl rfl
  have hp : PassesOwn (model P w) _ _ (cxOf (L2.CX P w) P w K mg base N__law_mixed "_law_mixed" (defScope s__law_mixed) f cdv A1 outer s H E).xe := passes_of rfl
  exact pd_seq (pd_asg (i := 2) nd rfl (by first | exact .inl rfl | exact .inr rfl) (pd_op (opr_or op_add op_cat) op2_add (pd_op (opr_or op_add op_cat) op2_add (pd_cl c__law_cell tk hr (by decide) (by rfl) (pda_cons (pd_var (pv 0)) (pda_cons (pd_op op_mod op2_mod (pd_var (pv 1)) (pd_max (by rfl) m_max rfl (pd_int) (pd_len (by rfl) m_len (pd_var (pv 0))))) (pda_nil)))) (pd_op opr_mulA op2_mul (pd_op opr_mulA op2_mul (pd_int) (pd_var (pv 1))) (pd_var (pv 1)))) (pd_int))) <|
    pd_last (pd_ret (pd_op op_fdiv op2_div (pd_op op_mod op2_mod (pd_op opr_mulA op2_mul (pd_op op_mod op2_mod (pd_op opr_mulA op2_mul (pd_var (pv 2)) (pd_var (pv 2))) (pd_int)) (pd_op (opr_or op_add op_cat) op2_add (pd_int) (pd_op opr_mulA op2_mul (pd_int) (pd_var (pv 1))))) (pd_int)) (pd_int)))
theorem sc__law_kind : FnScope N__law_kind ["_law_caught_here"] (defScope s__law_kind) := ⟨rfl, rfl, rfl, by decide +kernel, rfl, by decide +kernel, by decide +kernel⟩
theorem ok__law_kind {f : Addr} {fd : FuncData} (FU : Fun K "_law_kind" "_law_kind" s__law_kind f fd) (m_ValueError : mg "ValueError" = none) (m_isinstance : mg "isinstance" = none) (i_BadCount : IsOk K mg A (tabC raised 0) "BadCount") (i_BadName : IsOk K mg A (tabC raised 2) "BadName") (i_BadNumber : IsOk K mg A (tabC raised 3) "BadNumber") (i_BadOrder : IsOk K mg A (tabC raised 4) "BadOrder") (i_BadSet : IsOk K mg A (tabC raised 1) "BadSet") (i_BadTable : IsOk K mg A (tabC raised 5) "BadTable") (i_NoCover : IsOk K mg A (tabC raised 7) "NoCover") (i_NothingDone : IsOk K mg A (tabC raised 8) "NothingDone") (i_Unlike : IsOk K mg A (tabC raised 6) "Unlike") (v_ValueError : IsTyOk K A (tabV raised) "ValueError") : FnOk P w K mg base (L2.CX P w) 1 f fd ["_law_caught_here"] (spD (gd K A) F__law_kind) := by
  have nd : (N__law_kind : List Str).Nodup := sc__law_kind.nd
  refine fn_d (k := 0) (g := g__law_kind) FU sc__law_kind len__law_kind (fun cdv A1 outer s H E hr => ?_) h__law_kind
  have tk : Takes (cxOf (L2.CX P w) P w K mg base N__law_kind "_law_kind" (defScope s__law_kind) f cdv A1 outer s H E) (fun c d _ H => E c d H) := takes_of rfl rfl rfl rfl
  have hp : PassesOwn (model P w) _ _ (cxOf (L2.CX P w) P w K mg base N__law_kind "_law_kind" (defScope s__law_kind) f cdv A1 outer s H E).xe := passes_of rfl
  exact pd_seq (pd_ifS (ts_cmp op_isN op2_isN bl_isN (pd_var (pv 0)) (pd_non) (nobehind _ (by decide) (by decide))) (pd_last (pd_ret (pd_lst (pda_cons (pd_str) (pda_nil))))) (pd_none)) <|
    pd_seq (pd_asg (i := 1) nd rfl (by first | exact .inl rfl | exact .inr rfl) (pd_lst (pda_cons (pd_tup (pda_cons (pd_str) (pda_cons (pd_isC i_BadCount (by rfl) m_isinstance (by rfl) (pd_var (pv 0))) (pda_nil)))) (pda_cons (pd_tup (pda_cons (pd_str) (pda_cons (pd_isC i_BadSet (by rfl) m_isinstance (by rfl) (pd_var (pv 0))) (pda_nil)))) (pda_nil))))) <|
    pd_seq (pd_asg (i := 1) nd rfl (by first | exact .inl rfl | exact .inr rfl) (pd_op (opr_or op_add op_cat) op2_add (pd_var (pv 1)) (pd_lst (pda_cons (pd_tup (pda_cons (pd_str) (pda_cons (pd_isC i_BadName (by rfl) m_isinstance (by rfl) (pd_var (pv 0))) (pda_nil)))) (pda_cons (pd_tup (pda_cons (pd_str) (pda_cons (pd_isC i_BadNumber (by rfl) m_isinstance (by rfl) (pd_var (pv 0))) (pda_nil)))) (pda_nil)))))) <|
    pd_seq (pd_asg (i := 1) nd rfl (by first | exact .inl rfl | exact .inr rfl) (pd_op (opr_or op_add op_cat) op2_add (pd_var (pv 1)) (pd_lst (pda_cons (pd_tup (pda_cons (pd_str) (pda_cons (pd_isC i_BadOrder (by rfl) m_isinstance (by rfl) (pd_var (pv 0))) (pda_nil)))) (pda_cons (pd_tup (pda_cons (pd_str) (pda_cons (pd_isC i_BadTable (by rfl) m_isinstance (by rfl) (pd_var (pv 0))) (pda_nil)))) (pda_nil)))))) <|
    pd_seq (pd_asg (i := 1) nd rfl (by first | exact .inl rfl | exact .inr rfl) (pd_op (opr_or op_add op_cat) op2_add (pd_var (pv 1)) (pd_lst (pda_cons (pd_tup (pda_cons (pd_str) (pda_cons (pd_isC i_Unlike (by rfl) m_isinstance (by rfl) (pd_var (pv 0))) (pda_nil)))) (pda_cons (pd_tup (pda_cons (pd_str) (pda_cons (pd_isC i_NoCover (by rfl) m_isinstance (by rfl) (pd_var (pv 0))) (pda_nil)))) (pda_nil)))))) <|
    pd_seq (pd_asg (i := 1) nd rfl (by first | exact .inl rfl | exact .inr rfl) (pd_op (opr_or op_add op_cat) op2_add (pd_var (pv 1)) (pd_lst (pda_cons (pd_tup (pda_cons (pd_str) (pda_cons (pd_isC i_NothingDone (by rfl) m_isinstance (by rfl) (pd_var (pv 0))) (pda_nil)))) (pda_cons (pd_tup (pda_cons (pd_str) (pda_cons (pd_isV (T := "ValueError") v_ValueError (by rfl) m_isinstance (by rfl) m_ValueError (by decide +kernel) (pd_var (pv 0))) (pda_nil)))) (pda_nil)))))) <|
    pd_last (pd_ret (pd_lc rfl nd (pdi_list (pd_var (pv 1))) (blkOk_by (own := [("_law_word", 2), ("_law_is_one", 3)]) (N := N__law_kind) (sc := defScope s__law_kind) (by decide +kernel)) (by decide) (fun _ _ _ _ _ => .tp (pg_tup rfl (pgs_cons (pg_name (i := 2) nd rfl (by first | exact .inl rfl | exact .inr rfl)) (pgs_cons (pg_name (i := 3) nd rfl (by first | exact .inl rfl | exact .inr rfl)) (pgs_nil))))) (fun _ _ _ _ _ => ptd_one (ts_e (pd_var (pv 3)))) (fun _ _ _ _ _ => pd_var (pv 2))))
theorem sc__law_bits : FnScope N__law_bits ["_law_one"] (defScope s__law_bits) := ⟨rfl, rfl, rfl, by decide +kernel, rfl, by decide +kernel, by decide +kernel⟩
theorem ok__law_bits {f : Addr} {fd : FuncData} (FU : Fun K "_law_bits" "_law_bits" s__law_bits f fd)  : FnOk P w K mg base (L2.CX P w) 1 f fd ["_law_one"] (spD (gd K A) F__law_bits) := by
  have nd : (N__law_bits : List Str).Nodup := sc__law_bits.nd
  refine fn_d (k := 0) (g := g__law_bits) FU sc__law_bits len__law_bits (fun cdv A1 outer s H E hr => ?_) h__law_bits
  have tk : Takes (cxOf (L2.CX P w) P w K mg base N__law_bits "_law_bits" (defScope s__law_bits) f cdv A1 outer s H E) (fun c d _ H => E c d H) := takes_of rfl rfl rfl rfl
  have hp : PassesOwn (model P w) _ _ (cxOf (L2.CX P w) P w K mg base N__law_bits "_law_bits" (defScope s__law_bits) f cdv A1 outer s H E).xe := passes_of rfl
  exact pd_seq (pd_own (i := 1) nd rfl (by first | exact .inl rfl | exact .inr rfl) (pd_lst (pda_nil))) <|
    pd_seq (pd_asg (i := 2) nd rfl (by first | exact .inl rfl | exact .inr rfl) (pd_int)) <|
    pd_seq (pd_while hp (ts_cmp op_gt op2_gt blII (pd_var (pv 0)) (pd_int) (nobehind _ (by decide) (by decide))) (pd_seq (pd_ifS (ts_eq hr (pd_op op_mod op2_mod (pd_var (pv 0)) (pd_int)) (pd_int)) (pd_last (pd_app (pv 1) (pd_var (pv 2)))) (pd_none)) <|
    pd_seq (pd_asg (i := 0) nd rfl (by first | exact .inl rfl | exact .inr rfl) (pd_op op_fdiv op2_div (pd_var (pv 0)) (pd_int))) <|
    pd_last (pd_asg (i := 2) nd rfl (by first | exact .inl rfl | exact .inr rfl) (pd_op (opr_or op_add op_cat) op2_add (pd_var (pv 2)) (pd_int))))) <|
    pd_last (pd_retO (pv 1))
theorem sc__law_is_table : FnScope N__law_is_table ["_law_found", "_law_due"] (defScope s__law_is_table) := ⟨rfl, rfl, rfl, by decide +kernel, rfl, by decide +kernel, by decide +kernel⟩
theorem ok__law_is_table {f : Addr} {fd : FuncData} (FU : Fun K "_law_is_table" "_law_is_table" s__law_is_table f fd) (m_all : mg "all" = none) (m_bool : mg "bool" = none) (m_int : mg "int" = none) (m_isinstance : mg "isinstance" = none) (m_list : mg "list" = none) : FnOk P w K mg base (L2.CX P w) 1 f fd ["_law_found", "_law_due"] (spD (gd K A) F__law_is_table) := by
  have nd : (N__law_is_table : List Str).Nodup := sc__law_is_table.nd
  refine fn_d (k := 0) (g := g__law_is_table) FU sc__law_is_table len__law_is_table (fun cdv A1 outer s H E hr => ?_) h__law_is_table
  have tk : Takes (cxOf (L2.CX P w) P w K mg base N__law_is_table "_law_is_table" (defScope s__law_is_table) f cdv A1 outer s H E) (fun c d _ H => E c d H) := takes_of rfl rfl rfl rfl
  have hp : PassesOwn (model P w) _ _ (cxOf (L2.CX P w) P w K mg base N__law_is_table "_law_is_table" (defScope s__law_is_table) f cdv A1 outer s H E).xe := passes_of rfl
  exact pd_seq (pd_ifS ((tw_or (ts_not (ts_e (pd_isTy (T := "list") (by rfl) m_isinstance (pd_var (pv 0)) (by rfl) m_list (by decide +kernel)))) (tw_or1 (ts_ne hr (pd_var (pv 0)) (pd_var (pv 1))))).t) (pd_last (pd_ret (pd_bl))) (pd_none)) <|
    pd_last (pd_ret (pd_all (by rfl) m_all rfl (pd_lc rfl nd (pdi_list (pd_var (pv 0))) (blkOk_by (own := [("_law_number", 2)]) (N := N__law_is_table) (sc := defScope s__law_is_table) (by decide +kernel)) (by decide) (fun _ _ _ _ _ => .nm (pg_name (i := 2) nd rfl (by first | exact .inl rfl | exact .inr rfl))) (fun _ _ _ _ _ => ptd_nil) (fun _ _ _ _ _ => pd_and (pd_isTy (T := "int") (by rfl) m_isinstance (pd_var (pv 2)) (by rfl) m_int (by decide +kernel)) (pd_one (pd_not (pd_isTy (T := "bool") (by rfl) m_isinstance (pd_var (pv 2)) (by rfl) m_bool (by decide +kernel))))))))
theorem sc__law_turned : FnScope N__law_turned ["_law_one", "_law_name", "_law_other"] (defScope s__law_turned) := ⟨rfl, rfl, rfl, by decide +kernel, rfl, by decide +kernel, by decide +kernel⟩
theorem ok__law_turned {f : Addr} {fd : FuncData} (FU : Fun K "_law_turned" "_law_turned" s__law_turned f fd) (c__law_bits : Cl P w K mg base A "_law_bits" 1 F__law_bits) (m_int : mg "int" = none) (m_sum : mg "sum" = none) : FnOk P w K mg base (L2.CX P w) 2 f fd ["_law_one", "_law_name", "_law_other"] (spD (gd K A) F__law_turned) := by
  have nd : (N__law_turned : List Str).Nodup := sc__law_turned.nd
  refine fn_d (k := 1) (g := g__law_turned) FU sc__law_turned len__law_turned (fun cdv A1 outer s H E hr => ?_) h__law_turned
  have tk : Takes (cxOf (L2.CX P w) P w K mg base N__law_turned "_law_turned" (defScope s__law_turned) f cdv A1 outer s H E) (fun c d _ H => E c d H) := takes_of rfl rfl rfl rfl
  have hp : PassesOwn (model P w) _ _ (cxOf (L2.CX P w) P w K mg base N__law_turned "_law_turned" (defScope s__law_turned) f cdv A1 outer s H E).xe := passes_of rfl
  exact pd_seq (pd_asg (i := 3) nd rfl (by first | exact .inl rfl | exact .inr rfl) (pd_cl c__law_bits tk hr (by decide) (by rfl) (pda_cons (pd_var (pv 0)) (pda_nil)))) <|
    pd_seq (pd_asgLc (i := 4) rfl nd rfl rfl (sw_true rfl rfl rfl (by decide +kernel)) (pdi_list (pd_var (pv 3))) (blkOk_by (own := [("_law_this", 5)]) (N := N__law_turned) (sc := defScope s__law_turned) (by decide +kernel)) (by decide) (fun _ _ _ _ _ => .nm (pg_name (i := 5) nd rfl (by first | exact .inl rfl | exact .inr rfl))) (fun _ _ _ _ _ => ptd_nil) (fun _ _ _ _ _ => pd_if (ts_in (pd_var (pv 5)) (pd_tup (pda_cons (pd_var (pv 1)) (pda_cons (pd_var (pv 2)) (pda_nil))))) (pd_item (pd_lst (pda_cons (pd_var (pv 1)) (pda_cons (pd_var (pv 2)) (pda_nil)))) (pd_intc (by rfl) m_int (pd_eq hr (pd_var (pv 5)) (pd_var (pv 1))))) (pd_var (pv 5)))) <|
    pd_last (pd_ret (pd_sum (by rfl) m_sum rfl (pd_lc rfl nd (pdi_list (pd_var (pv 4))) (blkOk_by (own := [("_law_this", 5)]) (N := N__law_turned) (sc := defScope s__law_turned) (by decide +kernel)) (by decide) (fun _ _ _ _ _ => .nm (pg_name (i := 5) nd rfl (by first | exact .inl rfl | exact .inr rfl))) (fun _ _ _ _ _ => ptd_nil) (fun _ _ _ _ _ => pd_op op_shl op2_shl (pd_int) (pd_var (pv 5))))))
theorem sc__law_behind : FnScope N__law_behind ["_law_numbers", "_law_word", "_law_one", "_law_other"] (defScope s__law_behind) := ⟨rfl, rfl, rfl, by decide +kernel, rfl, by decide +kernel, by decide +kernel⟩
theorem ok__law_behind {f : Addr} {fd : FuncData} (FU : Fun K "_law_behind" "_law_behind" s__law_behind f fd) (c__law_turned : Cl P w K mg base A "_law_turned" 2 F__law_turned) (m_len : mg "len" = none) (m_list : mg "list" = none) (m_range : mg "range" = none) : FnOk P w K mg base (L2.CX P w) 3 f fd ["_law_numbers", "_law_word", "_law_one", "_law_other"] (spD (gd K A) F__law_behind) := by
  have nd : (N__law_behind : List Str).Nodup := sc__law_behind.nd
  refine fn_d (k := 2) (g := g__law_behind) FU sc__law_behind len__law_behind (fun cdv A1 outer s H E hr => ?_) h__law_behind
  have tk : Takes (cxOf (L2.CX P w) P w K mg base N__law_behind "_law_behind" (defScope s__law_behind) f cdv A1 outer s H E) (fun c d _ H => E c d H) := takes_of rfl rfl rfl rfl
  have hp : PassesOwn (model P w) _ _ (cxOf (L2.CX P w) P w K mg base N__law_behind "_law_behind" (defScope s__law_behind) f cdv A1 outer s H E).xe := passes_of rfl
  exact pd_seq (pd_own (i := 4) nd rfl (by first | exact .inl rfl | exact .inr rfl) (pd_list (by rfl) m_list (pd_var (pv 0)))) <|
    pd_seq (pd_ifS (ts_eq hr (pd_var (pv 1)) (pd_str)) (pd_seq (pd_set (pv 4) (pd_var (pv 2)) (pd_op (opr_or op_add op_cat) op2_add (pd_item (pd_var (pv 4)) (pd_var (pv 2))) (pd_var (pv 3)))) <|
    pd_last (pd_retO (pv 4))) (pd_none)) <|
    pd_last (pd_ret (pd_lc rfl nd (pdi_range1 (by rfl) m_range (pd_len (by rfl) m_len (pd_var (pv 4)))) (blkOk_by (own := [("_law_spot", 5)]) (N := N__law_behind) (sc := defScope s__law_behind) (by decide +kernel)) (by decide) (fun _ _ _ _ _ => .nm (pg_name (i := 5) nd rfl (by first | exact .inl rfl | exact .inr rfl))) (fun _ _ _ _ _ => ptd_nil) (fun _ _ _ _ _ => pd_item (pd_var (pv 4)) (pd_cl c__law_turned takes0 hr (by decide) (by rfl) (pda_cons (pd_var (pv 5)) (pda_cons (pd_var (pv 2)) (pda_cons (pd_var (pv 3)) (pda_nil))))))))
theorem sc__law_caught : FnScope N__law_caught ["_law_book", "_law_word", "_law_one", "_law_other"] (defScope s__law_caught) := ⟨rfl, rfl, rfl, by decide +kernel, rfl, by decide +kernel, by decide +kernel⟩
theorem bd__law_caught {f : Addr} {fd : FuncData} (FU : Fun K "_law_caught" "_law_caught" s__law_caught f fd) (cB : Cls K (A (2 * 1001 + 1))) (mt_over : MtOk P w K mg base (A (2 * 1001 + 1)) "over" 4 (spD (gd K A) F_over)) (mt_put : MtOk P w K mg base (A (2 * 1001 + 1)) "put" 4 (spD (gd K A) F_put)) (mt_swap : MtOk P w K mg base (A (2 * 1001 + 1)) "swap" 6 (spD (gd K A) F_swap)) (mt_under : MtOk P w K mg base (A (2 * 1001 + 1)) "under" 5 (spD (gd K A) F_under)) (mt_undo : MtOk P w K mg base (A (2 * 1001 + 1)) "undo" 6 (spD (gd K A) F_undo)) (mt_value : MtOk P w K mg base (A (2 * 1001 + 1)) "value" 4 (spD (gd K A) F_value)) (mm_put : MtOk P w K mg base (A (2 * 1001 + 1)) "put" 4 (spM (gd K A) FM_put)) (mm_swap : MtOk P w K mg base (A (2 * 1001 + 1)) "swap" 6 (spM (gd K A) FM_swap)) (mm_undo : MtOk P w K mg base (A (2 * 1001 + 1)) "undo" 6 (spM (gd K A) FM_undo)) {cS : Addr} (c_SetError : mg "SetError" = some (.ref cS)) (hm : ∀ m, PySem.W.exmOne K (.ref (A (2 * m))) (.ref cS) = some true) (cdv : Value) (A1 : Around) (outer : List Env) (s : Shared) (H : Hp) (E : XK) (hr : Room 6 (A1.deeper (envOfC "_law_caught" (defScope s__law_caught) s.heap.objs.size f cdv))) : PSs (cxOf (L2.CX P w) P w K mg base N__law_caught "_law_caught" (defScope s__law_caught) f cdv A1 outer s H E) (defBody s__law_caught) (tsD (gd K A) (fun c d _ H => E c d H) g__law_caught) := by
  have nd : (N__law_caught : List Str).Nodup := sc__law_caught.nd
  have tk : Takes (cxOf (L2.CX P w) P w K mg base N__law_caught "_law_caught" (defScope s__law_caught) f cdv A1 outer s H E) (fun c d _ H => E c d H) := takes_of rfl rfl rfl rfl
  have hp : PassesOwn (model P w) _ _ (cxOf (L2.CX P w) P w K mg base N__law_caught "_law_caught" (defScope s__law_caught) f cdv A1 outer s H E).xe := passes_of rfl
  exact pd_seq (pd_asg (i := 4) nd rfl (by first | exact .inl rfl | exact .inr rfl) (pd_non)) <|
    pd_seq (pd_asg (i := 5) nd rfl (by first | exact .inl rfl | exact .inr rfl) (pd_non)) <|
    pd_seq (pd_try (i := 4) (j := 6) rfl rfl rfl nd rfl rfl rfl rfl (by decide) ⟨by rfl, by decide, .inl c_SetError⟩ hm (fun W' pn xe tk' hp' => pd_last (pd_ifS (ts_eq hr (pd_var (pv 1)) (pd_str)) (pd_last (pd_orS (pd_asgM (i := 5) (c := (.mt 0 [.ex (fV 2), .ex (fV 3)] FM_put)) nd rfl (by first | exact .inl rfl | exact .inr rfl) (pd_methM (i := 0) cB mm_put tk' hr (by decide) (by decide) (by decide) (pv 0) (pam_ex (W := W0) (pd_var (pv 2)) (pam_ex (W := W0) (pd_var (pv 3)) (pam_nil))))) (pd_asg (i := 5) nd rfl (by first | exact .inl rfl | exact .inr rfl) (pd_meth (G := gd K A) cB mt_put tk' hr (by decide) (by decide) (pd_var (pv 0)) (pda_cons (pd_var (pv 2)) (pda_cons (pd_var (pv 3)) (pda_nil))))))) (pd_last (pd_ifS (ts_eq hr (pd_var (pv 1)) (pd_str)) (pd_last (pd_orS (pd_asgM (i := 5) (c := (.mt 0 [.ex (fV 2), .ex (fV 3)] FM_swap)) nd rfl (by first | exact .inl rfl | exact .inr rfl) (pd_methM (i := 0) cB mm_swap tk' hr (by decide) (by decide) (by decide) (pv 0) (pam_ex (W := W0) (pd_var (pv 2)) (pam_ex (W := W0) (pd_var (pv 3)) (pam_nil))))) (pd_asg (i := 5) nd rfl (by first | exact .inl rfl | exact .inr rfl) (pd_meth (G := gd K A) cB mt_swap tk' hr (by decide) (by decide) (pd_var (pv 0)) (pda_cons (pd_var (pv 2)) (pda_cons (pd_var (pv 3)) (pda_nil))))))) (pd_last (pd_ifS (ts_eq hr (pd_var (pv 1)) (pd_str)) (pd_last (pd_orS (pd_asgM (i := 5) (c := (.mt 0 [] FM_undo)) nd rfl (by first | exact .inl rfl | exact .inr rfl) (pd_methM0 (i := 0) cB mm_undo tk' hr (by decide) (by decide) (pv 0))) (pd_asg (i := 5) nd rfl (by first | exact .inl rfl | exact .inr rfl) (pd_meth0 (G := gd K A) cB mt_undo tk' hr (by decide) (by decide) (pd_var (pv 0)))))) (pd_last (pd_ifS (ts_eq hr (pd_var (pv 1)) (pd_str)) (pd_last (pd_asg (i := 5) nd rfl (by first | exact .inl rfl | exact .inr rfl) (pd_meth (G := gd K A) cB mt_value tk' hr (by decide) (by decide) (pd_var (pv 0)) (pda_cons (pd_var (pv 2)) (pda_nil))))) (pd_last (pd_ifS (ts_eq hr (pd_var (pv 1)) (pd_str)) (pd_last (pd_asg (i := 5) nd rfl (by first | exact .inl rfl | exact .inr rfl) (pd_meth (G := gd K A) cB mt_under tk' hr (by decide) (by decide) (pd_var (pv 0)) (pda_cons (pd_var (pv 2)) (pda_nil))))) (pd_last (pd_asg (i := 5) nd rfl (by first | exact .inl rfl | exact .inr rfl) (pd_meth (G := gd K A) cB mt_over tk' hr (by decide) (by decide) (pd_var (pv 0)) (pda_cons (pd_var (pv 2)) (pda_nil))))))))))))))) (fun a pn => pss_one (ps_set (i := 4) nd rfl (.inl rfl) (pv 6)))) <|
    pd_last (pd_retM (pd_tup (pda_cons (pd_var (pv 4)) (pda_cons (pd_var (pv 5)) (pda_nil)))))
theorem okm__law_caught {f : Addr} {fd : FuncData} (FU : Fun K "_law_caught" "_law_caught" s__law_caught f fd) (cB : Cls K (A (2 * 1001 + 1))) (mt_over : MtOk P w K mg base (A (2 * 1001 + 1)) "over" 4 (spD (gd K A) F_over)) (mt_put : MtOk P w K mg base (A (2 * 1001 + 1)) "put" 4 (spD (gd K A) F_put)) (mt_swap : MtOk P w K mg base (A (2 * 1001 + 1)) "swap" 6 (spD (gd K A) F_swap)) (mt_under : MtOk P w K mg base (A (2 * 1001 + 1)) "under" 5 (spD (gd K A) F_under)) (mt_undo : MtOk P w K mg base (A (2 * 1001 + 1)) "undo" 6 (spD (gd K A) F_undo)) (mt_value : MtOk P w K mg base (A (2 * 1001 + 1)) "value" 4 (spD (gd K A) F_value)) (mm_put : MtOk P w K mg base (A (2 * 1001 + 1)) "put" 4 (spM (gd K A) FM_put)) (mm_swap : MtOk P w K mg base (A (2 * 1001 + 1)) "swap" 6 (spM (gd K A) FM_swap)) (mm_undo : MtOk P w K mg base (A (2 * 1001 + 1)) "undo" 6 (spM (gd K A) FM_undo)) {cS : Addr} (c_SetError : mg "SetError" = some (.ref cS)) (hm : ∀ m, PySem.W.exmOne K (.ref (A (2 * m))) (.ref cS) = some true) : FnOk P w K mg base (L2.CX P w) 7 f fd ["_law_book", "_law_word", "_law_one", "_law_other"] (spM (gd K A) FM__law_caught) :=
  fn_m (k := 6) (g := g__law_caught) FU sc__law_caught lenM__law_caught (bd__law_caught FU cB mt_over mt_put mt_swap mt_under mt_undo mt_value mm_put mm_swap mm_undo c_SetError hm) hM__law_caught
theorem ok__law_caught {f : Addr} {fd : FuncData} (FU : Fun K "_law_caught" "_law_caught" s__law_caught f fd) (cB : Cls K (A (2 * 1001 + 1))) (mt_over : MtOk P w K mg base (A (2 * 1001 + 1)) "over" 4 (spD (gd K A) F_over)) (mt_put : MtOk P w K mg base (A (2 * 1001 + 1)) "put" 4 (spD (gd K A) F_put)) (mt_swap : MtOk P w K mg base (A (2 * 1001 + 1)) "swap" 6 (spD (gd K A) F_swap)) (mt_under : MtOk P w K mg base (A (2 * 1001 + 1)) "under" 5 (spD (gd K A) F_under)) (mt_undo : MtOk P w K mg base (A (2 * 1001 + 1)) "undo" 6 (spD (gd K A) F_undo)) (mt_value : MtOk P w K mg base (A (2 * 1001 + 1)) "value" 4 (spD (gd K A) F_value)) (mm_put : MtOk P w K mg base (A (2 * 1001 + 1)) "put" 4 (spM (gd K A) FM_put)) (mm_swap : MtOk P w K mg base (A (2 * 1001 + 1)) "swap" 6 (spM (gd K A) FM_swap)) (mm_undo : MtOk P w K mg base (A (2 * 1001 + 1)) "undo" 6 (spM (gd K A) FM_undo)) {cS : Addr} (c_SetError : mg "SetError" = some (.ref cS)) (hm : ∀ m, PySem.W.exmOne K (.ref (A (2 * m))) (.ref cS) = some true) : FnOk P w K mg base (L2.CX P w) 7 f fd ["_law_book", "_law_word", "_law_one", "_law_other"] (spD (gd K A) F__law_caught) :=
  fn_d (k := 6) (g := g__law_caught) FU sc__law_caught len__law_caught (bd__law_caught FU cB mt_over mt_put mt_swap mt_under mt_undo mt_value mm_put mm_swap mm_undo c_SetError hm) h__law_caught
theorem sc__law_made : FnScope N__law_made ["_law_many"] (defScope s__law_made) := ⟨rfl, rfl, rfl, by decide +kernel, rfl, by decide +kernel, by decide +kernel⟩
theorem ok__law_made {f : Addr} {fd : FuncData} (FU : Fun K "_law_made" "_law_made" s__law_made f fd) (mk_Book : MkOk P w K mg base (gd K A) "Book" 5 badB zsB) {cS : Addr} (c_SetError : mg "SetError" = some (.ref cS)) (hm : ∀ m, PySem.W.exmOne K (.ref (A (2 * m))) (.ref cS) = some true) : FnOk P w K mg base (L2.CX P w) 7 f fd ["_law_many"] (spD (gd K A) F__law_made) := by
  have nd : (N__law_made : List Str).Nodup := sc__law_made.nd
  refine fn_d (k := 6) (g := g__law_made) FU sc__law_made len__law_made (fun cdv A1 outer s H E hr => ?_) h__law_made
  have tk : Takes (cxOf (L2.CX P w) P w K mg base N__law_made "_law_made" (defScope s__law_made) f cdv A1 outer s H E) (fun c d _ H => E c d H) := takes_of rfl rfl rfl rfl
  have hp : PassesOwn (model P w) _ _ (cxOf (L2.CX P w) P w K mg base N__law_made "_law_made" (defScope s__law_made) f cdv A1 outer s H E).xe := passes_of rfl
  exact pd_seq (pd_asg (i := 1) nd rfl (by first | exact .inl rfl | exact .inr rfl) (pd_non)) <|
    pd_seq (pd_try (i := 1) (j := 2) rfl rfl rfl nd rfl rfl rfl rfl (by decide) ⟨by rfl, by decide, .inl c_SetError⟩ hm (fun W' pn xe tk' hp' => pd_last (pd_expr (pd_bad (G := gd K A) mk_Book tk' hr (by decide) (by rfl) (pd_var (pv 0))))) (fun a pn => pss_one (ps_set (i := 1) nd rfl (.inl rfl) (pv 2)))) <|
    pd_last (pd_ret (pd_var (pv 1)))
theorem sc__law_seen : FnScope N__law_seen ["_law_book", "_law_rows", "_law_number", "_law_held"] (defScope s__law_seen) := ⟨rfl, rfl, rfl, by decide +kernel, rfl, by decide +kernel, by decide +kernel⟩
theorem bd__law_seen {f : Addr} {fd : FuncData} (FU : Fun K "_law_seen" "_law_seen" s__law_seen f fd) (c__law_is_table : Cl P w K mg base A "_law_is_table" 1 F__law_is_table) (cB : Cls K (A (2 * 1001 + 1))) (mt_many_done : MtOk P w K mg base (A (2 * 1001 + 1)) "many_done" 1 (spD (gd K A) F_many_done)) (mt_over : MtOk P w K mg base (A (2 * 1001 + 1)) "over" 4 (spD (gd K A) F_over)) (mt_table : MtOk P w K mg base (A (2 * 1001 + 1)) "table" 1 (spD (gd K A) F_table)) (mt_under : MtOk P w K mg base (A (2 * 1001 + 1)) "under" 5 (spD (gd K A) F_under)) (mt_value : MtOk P w K mg base (A (2 * 1001 + 1)) "value" 4 (spD (gd K A) F_value)) (m_len : mg "len" = none) (m_range : mg "range" = none) (m_sum : mg "sum" = none) (cdv : Value) (A1 : Around) (outer : List Env) (s : Shared) (H : Hp) (E : XK) (hr : Room 5 (A1.deeper (envOfC "_law_seen" (defScope s__law_seen) s.heap.objs.size f cdv))) : PSs (cxOf (L2.CX P w) P w K mg base N__law_seen "_law_seen" (defScope s__law_seen) f cdv A1 outer s H E) (defBody s__law_seen) (tsD (gd K A) (fun c d _ H => E c d H) g__law_seen) := by
  have nd : (N__law_seen : List Str).Nodup := sc__law_seen.nd
  have tk : Takes (cxOf (L2.CX P w) P w K mg base N__law_seen "_law_seen" (defScope s__law_seen) f cdv A1 outer s H E) (fun c d _ H => E c d H) := takes_of rfl rfl rfl rfl
  have hp : PassesOwn (model P w) _ _ (cxOf (L2.CX P w) P w K mg base N__law_seen "_law_seen" (defScope s__law_seen) f cdv A1 outer s H E).xe := passes_of rfl
  exact pd_seq (pd_rwIx (j := 4) nd rfl (by first | exact .inl rfl | exact .inr rfl) (pv 1) (pd_un un_neg op1_neg (pd_int))) <|
    pd_seq (pd_asg (i := 5) nd rfl (by first | exact .inl rfl | exact .inr rfl) (pd_len (by rfl) m_len (pd_var (pv 4)))) <|
    pd_seq (pd_asg (i := 6) nd rfl (by first | exact .inl rfl | exact .inr rfl) (pd_op op_mod op2_mod (pd_op op_fdiv op2_div (pd_var (pv 2)) (pd_int)) (pd_var (pv 5)))) <|
    pd_seq (pd_asg (i := 7) nd rfl (by first | exact .inl rfl | exact .inr rfl) (pd_sum (by rfl) m_sum rfl (pd_lc rfl nd (pdi_range1 (by rfl) m_range (pd_var (pv 5))) (blkOk_by (own := [("_law_other", 12)]) (N := N__law_seen) (sc := defScope s__law_seen) (by decide +kernel)) (by decide) (fun _ _ _ _ _ => .nm (pg_name (i := 12) nd rfl (by first | exact .inl rfl | exact .inr rfl))) (fun _ _ _ _ _ => ptd_one (ts_eq hr (pd_op op_and op2_and (pd_var (pv 12)) (pd_var (pv 6))) (pd_var (pv 12)))) (fun _ _ _ _ _ => pd_item (pd_var (pv 4)) (pd_var (pv 12)))))) <|
    pd_seq (pd_asg (i := 8) nd rfl (by first | exact .inl rfl | exact .inr rfl) (pd_sum (by rfl) m_sum rfl (pd_lc rfl nd (pdi_range1 (by rfl) m_range (pd_var (pv 5))) (blkOk_by (own := [("_law_other", 12)]) (N := N__law_seen) (sc := defScope s__law_seen) (by decide +kernel)) (by decide) (fun _ _ _ _ _ => .nm (pg_name (i := 12) nd rfl (by first | exact .inl rfl | exact .inr rfl))) (fun _ _ _ _ _ => ptd_one (ts_eq hr (pd_op op_and op2_and (pd_var (pv 12)) (pd_var (pv 6))) (pd_var (pv 6)))) (fun _ _ _ _ _ => pd_item (pd_var (pv 4)) (pd_var (pv 12)))))) <|
    pd_seq (pd_for hp rfl (pdi_range1 (by rfl) m_range (pd_int)) (.nm (pg_name (i := 9) nd rfl (by first | exact .inl rfl | exact .inr rfl))) (pd_seq (pd_asg (i := 10) nd rfl (by first | exact .inl rfl | exact .inr rfl) (pd_op op_mod op2_mod (pd_op (opr_or op_add op_cat) op2_add (pd_var (pv 2)) (pd_op opr_mulA op2_mul (pd_var (pv 9)) (pd_op (opr_or op_add op_cat) op2_add (pd_int) (pd_op opr_mulA op2_mul (pd_int) (pd_op op_mod op2_mod (pd_op op_fdiv op2_div (pd_var (pv 2)) (pd_int)) (pd_int)))))) (pd_int))) <|
    pd_seq (pd_ifS ((tw_and (ts_eq hr (pd_var (pv 10)) (pd_int)) (tw_and1 ((tw_or (ts_ne hr (pd_meth (G := gd K A) cB mt_value tk hr (by decide) (by decide) (pd_var (pv 0)) (pda_cons (pd_var (pv 6)) (pda_nil))) (pd_item (pd_var (pv 4)) (pd_var (pv 6)))) (tw_or1 (ts_ne hr (pd_meth (G := gd K A) cB mt_under tk hr (by decide) (by decide) (pd_var (pv 0)) (pda_cons (pd_var (pv 6)) (pda_nil))) (pd_var (pv 7))))).t))).t) (pd_last (pd_retM (pd_bl))) (pd_none)) <|
    pd_seq (pd_ifS ((tw_and (ts_eq hr (pd_var (pv 10)) (pd_int)) (tw_and1 ((tw_or (ts_ne hr (pd_meth (G := gd K A) cB mt_over tk hr (by decide) (by decide) (pd_var (pv 0)) (pda_cons (pd_var (pv 6)) (pda_nil))) (pd_var (pv 8))) (tw_or1 (ts_ne hr (pd_meth0 (G := gd K A) cB mt_many_done tk hr (by decide) (by decide) (pd_var (pv 0))) (pd_op op_sub op2_sub (pd_len (by rfl) m_len (pd_var (pv 1))) (pd_int))))).t))).t) (pd_last (pd_retM (pd_bl))) (pd_none)) <|
    pd_seq (pd_ifS ((tw_and (ts_eq hr (pd_var (pv 10)) (pd_int)) (tw_and1 ((tw_or (ts_ne hr (pd_meth (G := gd K A) cB mt_under tk hr (by decide) (by decide) (pd_var (pv 0)) (pda_cons (pd_var (pv 6)) (pda_nil))) (pd_var (pv 7))) (tw_or1 (ts_ne hr (pd_meth (G := gd K A) cB mt_over tk hr (by decide) (by decide) (pd_var (pv 0)) (pda_cons (pd_var (pv 6)) (pda_nil))) (pd_var (pv 8))))).t))).t) (pd_last (pd_retM (pd_bl))) (pd_none)) <|
    pd_last (pd_ifS (ts_eq hr (pd_var (pv 10)) (pd_int)) (pd_seq (pd_own (i := 11) nd rfl (by first | exact .inl rfl | exact .inr rfl) (pd_meth0 (G := gd K A) cB mt_table tk hr (by decide) (by decide) (pd_var (pv 0)))) <|
    pd_seq (pd_ifS (ts_not (ts_e (pd_cl c__law_is_table tk hr (by decide) (by rfl) (pda_cons (pd_var (pv 11)) (pda_cons (pd_var (pv 4)) (pda_nil)))))) (pd_last (pd_retM (pd_bl))) (pd_none)) <|
    pd_seq (pd_app (pv 11) (pd_var (pv 2))) <|
    pd_last (pd_hldApp (pv 3) (pv 11) (pd_op (opr_or op_add op_cat) op2_add (pd_var (pv 4)) (pd_lst (pda_cons (pd_var (pv 2)) (pda_nil)))))) (pd_none)))) <|
    pd_last (pd_retM (pd_bl))
theorem okm__law_seen {f : Addr} {fd : FuncData} (FU : Fun K "_law_seen" "_law_seen" s__law_seen f fd) (c__law_is_table : Cl P w K mg base A "_law_is_table" 1 F__law_is_table) (cB : Cls K (A (2 * 1001 + 1))) (mt_many_done : MtOk P w K mg base (A (2 * 1001 + 1)) "many_done" 1 (spD (gd K A) F_many_done)) (mt_over : MtOk P w K mg base (A (2 * 1001 + 1)) "over" 4 (spD (gd K A) F_over)) (mt_table : MtOk P w K mg base (A (2 * 1001 + 1)) "table" 1 (spD (gd K A) F_table)) (mt_under : MtOk P w K mg base (A (2 * 1001 + 1)) "under" 5 (spD (gd K A) F_under)) (mt_value : MtOk P w K mg base (A (2 * 1001 + 1)) "value" 4 (spD (gd K A) F_value)) (m_len : mg "len" = none) (m_range : mg "range" = none) (m_sum : mg "sum" = none) : FnOk P w K mg base (L2.CX P w) 6 f fd ["_law_book", "_law_rows", "_law_number", "_law_held"] (spM (gd K A) FM__law_seen) :=
  fn_m (k := 5) (g := g__law_seen) FU sc__law_seen lenM__law_seen (bd__law_seen FU c__law_is_table cB mt_many_done mt_over mt_table mt_under mt_value m_len m_range m_sum) hM__law_seen
theorem sc__law_wrong : FnScope N__law_wrong ["_law_many", "_law_number"] (defScope s__law_wrong) := ⟨rfl, rfl, rfl, by decide +kernel, rfl, by decide +kernel, by decide +kernel⟩
theorem ok__law_wrong {f : Addr} {fd : FuncData} (FU : Fun K "_law_wrong" "_law_wrong" s__law_wrong f fd)  : FnOk P w K mg base (L2.CX P w) 1 f fd ["_law_many", "_law_number"] (spD (gd K A) F__law_wrong) := by
  have nd : (N__law_wrong : List Str).Nodup := sc__law_wrong.nd
  refine fn_d (k := 0) (g := g__law_wrong) FU sc__law_wrong len__law_wrong (fun cdv A1 outer s H E hr => ?_) h__law_wrong
  have tk : Takes (cxOf (L2.CX P w) P w K mg base N__law_wrong "_law_wrong" (defScope s__law_wrong) f cdv A1 outer s H E) (fun c d _ H => E c d H) := takes_of rfl rfl rfl rfl
  have hp : PassesOwn (model P w) _ _ (cxOf (L2.CX P w) P w K mg base N__law_wrong "_law_wrong" (defScope s__law_wrong) f cdv A1 outer s H E).xe := passes_of rfl
  exact pd_seq (pd_asg (i := 2) nd rfl (by first | exact .inl rfl | exact .inr rfl) (pd_item (pd_lst (pda_cons (pd_non) (pda_cons (pd_un un_neg op1_neg (pd_int)) (pda_cons (pd_bl) (pda_cons (pd_str) (pda_cons (pd_lst (pda_cons (pd_int) (pda_nil))) (pda_cons (pd_op op_pow op2_pow (pd_int) (pd_int)) (pda_nil)))))))) (pd_op op_mod op2_mod (pd_var (pv 1)) (pd_int)))) <|
    pd_seq (pd_ifS (ts_eq hr (pd_op op_mod op2_mod (pd_op op_fdiv op2_div (pd_var (pv 1)) (pd_int)) (pd_int)) (pd_int)) (pd_last (pd_ret (pd_tup (pda_cons (pd_str) (pda_cons (pd_item (pd_lst (pda_cons (pd_var (pv 2)) (pda_cons (pd_op op_shl op2_shl (pd_int) (pd_var (pv 0))) (pda_nil)))) (pd_op op_mod op2_mod (pd_op op_fdiv op2_div (pd_var (pv 1)) (pd_int)) (pd_int))) (pda_cons (pd_item (pd_lst (pda_cons (pd_int) (pda_cons (pd_non) (pda_nil)))) (pd_op op_mod op2_mod (pd_op op_fdiv op2_div (pd_var (pv 1)) (pd_int)) (pd_int))) (pda_cons (pd_str) (pda_nil)))))))) (pd_none)) <|
    pd_seq (pd_ifS (ts_eq hr (pd_op op_mod op2_mod (pd_op op_fdiv op2_div (pd_var (pv 1)) (pd_int)) (pd_int)) (pd_int)) (pd_last (pd_ret (pd_tup (pda_cons (pd_str) (pda_cons (pd_int) (pda_cons (pd_item (pd_lst (pda_cons (pd_non) (pda_cons (pd_bl) (pda_cons (pd_str) (pda_cons (pd_lst (pda_cons (pd_int) (pda_nil))) (pda_cons (pd_tup (pda_cons (pd_int) (pda_nil))) (pda_nil))))))) (pd_op op_mod op2_mod (pd_op op_fdiv op2_div (pd_var (pv 1)) (pd_int)) (pd_int))) (pda_cons (pd_str) (pda_nil)))))))) (pd_none)) <|
    pd_seq (pd_ifS (ts_eq hr (pd_op op_mod op2_mod (pd_op op_fdiv op2_div (pd_var (pv 1)) (pd_int)) (pd_int)) (pd_int)) (pd_last (pd_ret (pd_tup (pda_cons (pd_item (pd_lst (pda_cons (pd_str) (pda_cons (pd_str) (pda_cons (pd_str) (pda_nil))))) (pd_op op_mod op2_mod (pd_op op_fdiv op2_div (pd_var (pv 1)) (pd_int)) (pd_int))) (pda_cons (pd_item (pd_lst (pda_cons (pd_var (pv 2)) (pda_cons (pd_op op_shl op2_shl (pd_int) (pd_var (pv 0))) (pda_nil)))) (pd_op op_mod op2_mod (pd_op op_fdiv op2_div (pd_var (pv 1)) (pd_int)) (pd_int))) (pda_cons (pd_int) (pda_cons (pd_str) (pda_nil)))))))) (pd_none)) <|
    pd_last (pd_ret (pd_tup (pda_cons (pd_str) (pda_cons (pd_item (pd_lst (pda_cons (pd_var (pv 2)) (pda_cons (pd_var (pv 0)) (pda_nil)))) (pd_op op_mod op2_mod (pd_op op_fdiv op2_div (pd_var (pv 1)) (pd_int)) (pd_int))) (pda_cons (pd_item (pd_lst (pda_cons (pd_int) (pda_cons (pd_non) (pda_nil)))) (pd_op op_mod op2_mod (pd_op op_fdiv op2_div (pd_var (pv 1)) (pd_int)) (pd_int))) (pda_cons (pd_str) (pda_nil)))))))
theorem sc__law_deed : FnScope N__law_deed ["_law_book", "_law_many", "_law_rows", "_law_number", "_law_great"] (defScope s__law_deed) := ⟨rfl, rfl, rfl, by decide +kernel, rfl, by decide +kernel, by decide +kernel⟩
theorem bd__law_deed {f : Addr} {fd : FuncData} (FU : Fun K "_law_deed" "_law_deed" s__law_deed f fd) (c__law_behind : Cl P w K mg base A "_law_behind" 3 F__law_behind) (c__law_caught : Cl P w K mg base A "_law_caught" 7 F__law_caught) (c__law_kind : Cl P w K mg base A "_law_kind" 1 F__law_kind) (c__law_wrong : Cl P w K mg base A "_law_wrong" 1 F__law_wrong) (cm__law_caught : ClM P w K mg base (gd K A) "_law_caught" 7 FM__law_caught) (m_len : mg "len" = none) (cdv : Value) (A1 : Around) (outer : List Env) (s : Shared) (H : Hp) (E : XK) (hr : Room 7 (A1.deeper (envOfC "_law_deed" (defScope s__law_deed) s.heap.objs.size f cdv))) : PSs (cxOf (L2.CX P w) P w K mg base N__law_deed "_law_deed" (defScope s__law_deed) f cdv A1 outer s H E) (defBody s__law_deed) (tsD (gd K A) (fun c d _ H => E c d H) g__law_deed) := by
  have nd : (N__law_deed : List Str).Nodup := sc__law_deed.nd
  have tk : Takes (cxOf (L2.CX P w) P w K mg base N__law_deed "_law_deed" (defScope s__law_deed) f cdv A1 outer s H E) (fun c d _ H => E c d H) := takes_of rfl rfl rfl rfl
  have hp : PassesOwn (model P w) _ _ (cxOf (L2.CX P w) P w K mg base N__law_deed "_law_deed" (defScope s__law_deed) f cdv A1 outer s H E).xe := passes_of rfl
  exact pd_seq (pd_asg (i := 5) nd rfl (by first | exact .inl rfl | exact .inr rfl) (pd_op op_mod op2_mod (pd_var (pv 3)) (pd_int))) <|
    pd_seq (pd_ifS (ts_eq hr (pd_var (pv 5)) (pd_int)) (pd_seq (pd_asgT (.tp (pg_tup rfl (pgs_cons (pg_name (i := 6) nd rfl (by first | exact .inl rfl | exact .inr rfl)) (pgs_cons (pg_name (i := 7) nd rfl (by first | exact .inl rfl | exact .inr rfl)) (pgs_cons (pg_name (i := 8) nd rfl (by first | exact .inl rfl | exact .inr rfl)) (pgs_cons (pg_name (i := 9) nd rfl (by first | exact .inl rfl | exact .inr rfl)) (pgs_nil))))))) (pd_cl c__law_wrong tk hr (by decide) (by rfl) (pda_cons (pd_var (pv 1)) (pda_cons (pd_op op_fdiv op2_div (pd_var (pv 3)) (pd_int)) (pda_nil))))) <|
    pd_last (pd_retM (pd_eq hr (pd_cl c__law_kind tk hr (by decide) (by rfl) (pda_cons (pd_item (pd_cl c__law_caught tk hr (by decide) (by rfl) (pda_cons (pd_var (pv 0)) (pda_cons (pd_var (pv 6)) (pda_cons (pd_var (pv 7)) (pda_cons (pd_var (pv 8)) (pda_nil)))))) (pd_int)) (pda_nil))) (pd_lst (pda_cons (pd_var (pv 9)) (pda_cons (pd_str) (pda_nil))))))) (pd_none)) <|
    pd_seq (pd_ifS ((tw_or (ts_eq hr (pd_var (pv 5)) (pd_int)) (tw_or1 ((tw_and (ts_eq hr (pd_var (pv 5)) (pd_int)) (tw_and1 (ts_eq hr (pd_var (pv 1)) (pd_int)))).t))).t) (pd_seq (pd_asgTM (is := [10, 11]) (c := (.fn [.sl 0, .ex (fC (.str "undo")), .ex (fC (.int 0)), .ex (fC (.int 0))] FM__law_caught)) (pg_tup rfl (pgs_cons (pg_name (i := 10) nd rfl (by first | exact .inl rfl | exact .inr rfl)) (pgs_cons (pg_name (i := 11) nd rfl (by first | exact .inl rfl | exact .inr rfl)) (pgs_nil)))) (pd_clM cm__law_caught tk hr (by decide) (by rfl) (by decide) (pam_sl (pv 0) (pam_ex (W := W0) (pd_str) (pam_ex (W := W0) (pd_int) (pam_ex (W := W0) (pd_int) (pam_nil))))))) <|
    pd_seq (pd_ifS (ts_eq hr (pd_len (by rfl) m_len (pd_var (pv 2))) (pd_int)) (pd_last (pd_retM (pd_eq hr (pd_cl c__law_kind tk hr (by decide) (by rfl) (pda_cons (pd_var (pv 10)) (pda_nil))) (pd_lst (pda_cons (pd_str) (pda_cons (pd_str) (pda_nil))))))) (pd_none)) <|
    pd_seq (pd_rwPop (pv 2)) <|
    pd_last (pd_retM (pd_and (pd_cmp op_isN op2_isN (pd_var (pv 10)) (pd_non) (nobehind _ (by decide) (by decide))) (pd_one (pd_cmp op_isN op2_isN (pd_var (pv 11)) (pd_non) (nobehind _ (by decide) (by decide))))))) (pd_none)) <|
    pd_seq (pd_ifS (ts_eq hr (pd_var (pv 5)) (pd_int)) (pd_last (pd_asg (i := 12) nd rfl (by first | exact .inl rfl | exact .inr rfl) (pd_tup (pda_cons (pd_str) (pda_cons (pd_op op_mod op2_mod (pd_op op_fdiv op2_div (pd_var (pv 3)) (pd_int)) (pd_var (pv 1))) (pda_cons (pd_op op_mod op2_mod (pd_op op_fdiv op2_div (pd_var (pv 3)) (pd_int)) (pd_var (pv 1))) (pda_nil))))))) (pd_last (pd_asg (i := 12) nd rfl (by first | exact .inl rfl | exact .inr rfl) (pd_tup (pda_cons (pd_str) (pda_cons (pd_op op_mod op2_mod (pd_op op_fdiv op2_div (pd_var (pv 3)) (pd_int)) (pd_op op_shl op2_shl (pd_int) (pd_var (pv 1)))) (pda_cons (pd_item (pd_lst (pda_cons (pd_var (pv 4)) (pda_cons (pd_op op_sub op2_sub (pd_int) (pd_var (pv 4))) (pda_cons (pd_op op_mod op2_mod (pd_var (pv 3)) (pd_int)) (pda_cons (pd_int) (pda_nil)))))) (pd_var (pv 5))) (pda_nil)))))))) <|
    pd_seq (pd_asgTM (is := [10, 11]) (c := (.fn [.sl 0, .ex (f2 oIx (fV 12) (fC (.int 0))), .ex (f2 oIx (fV 12) (fC (.int 1))), .ex (f2 oIx (fV 12) (fC (.int 2)))] FM__law_caught)) (pg_tup rfl (pgs_cons (pg_name (i := 10) nd rfl (by first | exact .inl rfl | exact .inr rfl)) (pgs_cons (pg_name (i := 11) nd rfl (by first | exact .inl rfl | exact .inr rfl)) (pgs_nil)))) (pd_clM cm__law_caught tk hr (by decide) (by rfl) (by decide) (pam_sl (pv 0) (pam_ex (W := W0) (pd_item (pd_var (pv 12)) (pd_int)) (pam_ex (W := W0) (pd_item (pd_var (pv 12)) (pd_int)) (pam_ex (W := W0) (pd_item (pd_var (pv 12)) (pd_int)) (pam_nil))))))) <|
    pd_seq (pd_rwApp (pv 2) (pd_cl c__law_behind tk hr (by decide) (by rfl) (pda_cons (pd_item (pd_var (pv 2)) (pd_un un_neg op1_neg (pd_int))) (pda_cons (pd_item (pd_var (pv 12)) (pd_int)) (pda_cons (pd_item (pd_var (pv 12)) (pd_int)) (pda_cons (pd_item (pd_var (pv 12)) (pd_int)) (pda_nil))))))) <|
    pd_last (pd_retM (pd_and (pd_cmp op_isN op2_isN (pd_var (pv 10)) (pd_non) (nobehind _ (by decide) (by decide))) (pd_one (pd_cmp op_isN op2_isN (pd_var (pv 11)) (pd_non) (nobehind _ (by decide) (by decide))))))
theorem okm__law_deed {f : Addr} {fd : FuncData} (FU : Fun K "_law_deed" "_law_deed" s__law_deed f fd) (c__law_behind : Cl P w K mg base A "_law_behind" 3 F__law_behind) (c__law_caught : Cl P w K mg base A "_law_caught" 7 F__law_caught) (c__law_kind : Cl P w K mg base A "_law_kind" 1 F__law_kind) (c__law_wrong : Cl P w K mg base A "_law_wrong" 1 F__law_wrong) (cm__law_caught : ClM P w K mg base (gd K A) "_law_caught" 7 FM__law_caught) (m_len : mg "len" = none) : FnOk P w K mg base (L2.CX P w) 8 f fd ["_law_book", "_law_many", "_law_rows", "_law_number", "_law_great"] (spM (gd K A) FM__law_deed) :=
  fn_m (k := 7) (g := g__law_deed) FU sc__law_deed lenM__law_deed (bd__law_deed FU c__law_behind c__law_caught c__law_kind c__law_wrong cm__law_caught m_len) hM__law_deed
theorem sc_law : FnScope N_law ["_law_script"] (defScope s_law) := ⟨rfl, rfl, rfl, by decide +kernel, rfl, by decide +kernel, by decide +kernel⟩
theorem ok_law {f : Addr} {fd : FuncData} (FU : Fun K "law" "law" s_law f fd) (c__law_cell : Cl P w K mg base A "_law_cell" 1 F__law_cell) (c__law_kind : Cl P w K mg base A "_law_kind" 1 F__law_kind) (c__law_made : Cl P w K mg base A "_law_made" 7 F__law_made) (c__law_mixed : Cl P w K mg base A "_law_mixed" 2 F__law_mixed) (cm__law_deed : ClM P w K mg base (gd K A) "_law_deed" 8 FM__law_deed) (cm__law_seen : ClM P w K mg base (gd K A) "_law_seen" 6 FM__law_seen) (mk_Book : MkOk P w K mg base (gd K A) "Book" 5 badB zsB) (m_len : mg "len" = none) (m_min : mg "min" = none) (m_range : mg "range" = none) : FnOk P w K mg base CX0 9 f fd ["_law_script"] (spD (gd K A) F_law) := by
  have nd : (N_law : List Str).Nodup := sc_law.nd
  obtain ⟨fB, fdB, psB, hmB, MKB, FOB, hbB⟩ := mk_Book.ex
  refine law_d (k := 8) (g := g_law) FU sc_law len_law (fun cdv A1 outer s H E hr => ?_) h_law
  have tk := @takes0 (cxOf CX0 P w K mg base N_law "law" (defScope s_law) f cdv A1 outer s H E).nox
  have hp : PassesOwn (model P w) (cxOf CX0 P w K mg base N_law "law" (defScope s_law) f cdv A1 outer s H E).nox.A (cxOf CX0 P w K mg base N_law "law" (defScope s_law) f cdv A1 outer s H E).nox.env (cxOf CX0 P w K mg base N_law "law" (defScope s_law) f cdv A1 outer s H E).nox.xe := PassesOwn.never
  exact pd_seq (pd_asg (i := 1) nd rfl (by first | exact .inl rfl | exact .inr rfl) (pd_lst (pda_cons (pd_op op_mod op2_mod (pd_cl c__law_mixed tk hr (by decide) (by rfl) (pda_cons (pd_var (pv 0)) (pda_cons (pd_int) (pda_nil)))) (pd_int)) (pda_cons (pd_op op_mod op2_mod (pd_cl c__law_mixed tk hr (by decide) (by rfl) (pda_cons (pd_var (pv 0)) (pda_cons (pd_int) (pda_nil)))) (pd_int)) (pda_nil))))) <|
    pd_seq (pd_newL (i := 2) (v0 := 14) (v1 := 15) (j := 12) rfl nd rfl rfl (sw_true rfl rfl rfl (by decide +kernel)) (pdi_list (pd_var (pv 1))) (blkOk_by (own := [("_law_many", 12)]) (N := N_law) (sc := defScope s_law) (by decide +kernel)) (by decide) (fun _ _ _ _ _ => pg_name (i := 12) nd rfl (by first | exact .inl rfl | exact .inr rfl)) (fun _ _ _ _ _ => pe_makeS MKB FOB (hr.mono (by decide)) (by rfl) hmB hbB (fun σ => passAt takes0 σ) (pa_cons (pv 12) pa_nil)) rfl (nvis rfl) rfl (nvis rfl) (P := fun x => badB (.int x) = false) (sl := fun x a => .bk a ⟨x, zsB x, []⟩) (fun x hx => new_book hx)) <|
    pd_seq (pd_newL (i := 3) (v0 := 16) (v1 := 17) (j := 12) rfl nd rfl rfl (sw_true rfl rfl rfl (by decide +kernel)) (pdi_list (pd_var (pv 1))) (blkOk_by (own := [("_law_many", 12)]) (N := N_law) (sc := defScope s_law) (by decide +kernel)) (by decide) (fun _ _ _ _ _ => pg_name (i := 12) nd rfl (by first | exact .inl rfl | exact .inr rfl)) (fun _ _ _ _ _ => pd_lst (pda_cons (pd_op opr_mulA op2_mul (pd_lst (pda_cons (pd_int) (pda_nil))) (pd_op op_shl op2_shl (pd_int) (pd_var (pv 12)))) (pda_nil))) rfl (nvis rfl) rfl (nvis rfl) (P := fun x => 0 ≤ x ∧ x ≤ 5) (sl := fun x a => .rws a [rowD (zsB x)]) (fun x hx => new_rows (ds := fun x => [rowD (zsB x)]) (fun ε he => rows_ev hx he))) <|
    pd_seq (pd_own (i := 4) nd rfl (by first | exact .inl rfl | exact .inr rfl) (pd_lst (pda_nil))) <|
    pd_hld0 <|
    pd_seq (pd_asg (i := 5) nd rfl (by first | exact .inl rfl | exact .inr rfl) (pd_item (pd_lst (pda_cons (pd_un un_neg op1_neg (pd_int)) (pda_cons (pd_int) (pda_cons (pd_non) (pda_cons (pd_bl) (pda_cons (pd_str) (pda_cons (pd_lst (pda_cons (pd_int) (pda_nil))) (pda_cons (pd_op op_pow op2_pow (pd_int) (pd_int)) (pda_nil))))))))) (pd_op op_mod op2_mod (pd_op op_fdiv op2_div (pd_cl c__law_mixed tk hr (by decide) (by rfl) (pda_cons (pd_var (pv 0)) (pda_cons (pd_int) (pda_nil)))) (pd_int)) (pd_int)))) <|
    pd_seq (pd_ifS (ts_ne hr (pd_cl c__law_kind tk hr (by decide) (by rfl) (pda_cons (pd_cl c__law_made tk hr (by decide) (by rfl) (pda_cons (pd_var (pv 5)) (pda_nil))) (pda_nil))) (pd_lst (pda_cons (pd_str) (pda_cons (pd_str) (pda_nil))))) (pd_last (pd_ret (pd_bl))) (pd_none)) <|
    pd_seq (pd_for hp rfl (pdi_range1 (by rfl) m_range (pd_min (by rfl) m_min rfl (pd_len (by rfl) m_len (pd_var (pv 0))) (pd_int))) (.nm (pg_name (i := 6) nd rfl (by first | exact .inl rfl | exact .inr rfl))) (pd_seq (pd_asg (i := 7) nd rfl (by first | exact .inl rfl | exact .inr rfl) (pd_cl c__law_mixed tk hr (by decide) (by rfl) (pda_cons (pd_var (pv 0)) (pda_cons (pd_op (opr_or op_add op_cat) op2_add (pd_var (pv 6)) (pd_int)) (pda_nil))))) <|
    pd_seq (pd_asg (i := 8) nd rfl (by first | exact .inl rfl | exact .inr rfl) (pd_op op_fdiv op2_div (pd_op op_mod op2_mod (pd_var (pv 7)) (pd_int)) (pd_int))) <|
    pd_seq (pd_asg (i := 9) nd rfl (by first | exact .inl rfl | exact .inr rfl) (pd_cl c__law_cell tk hr (by decide) (by rfl) (pda_cons (pd_var (pv 0)) (pda_cons (pd_var (pv 6)) (pda_nil))))) <|
    pd_seq (pd_ifNV (as := [.ix 2 (fV 8), .ex (f2 oIx (fV 1) (fV 8)), .ix 3 (fV 8), .ex (f2 oDiv (fV 7) (fC (.int 5))), .ex (fV 9)]) (pd_clV cm__law_deed tk hr (by decide) (by rfl) (pav_ix (W := W0) (pv 2) (pd_var (pv 8)) (pav_ex (W := W0) (pd_item (pd_var (pv 1)) (pd_var (pv 8))) (pav_ix (W := W0) (pv 3) (pd_var (pv 8)) (pav_ex (W := W0) (pd_op op_fdiv op2_div (pd_var (pv 7)) (pd_int)) (pav_ex (W := W0) (pd_var (pv 9)) (pav_nil))))))) (pd_last (pd_ret (pd_bl)))) <|
    pd_last (pd_for hp rfl (pdi_tup (pd_tup (pda_cons (pd_var (pv 8)) (pda_cons (pd_op op_sub op2_sub (pd_int) (pd_var (pv 8))) (pda_nil))))) (.nm (pg_name (i := 10) nd rfl (by first | exact .inl rfl | exact .inr rfl))) (pd_last (pd_ifNV (as := [.ix 2 (fV 10), .ix 3 (fV 10), .ex (f2 oDiv (fV 7) (f2 oAdd (fC (.int 35)) (fV 10))), .sl 4]) (pd_clV cm__law_seen tk hr (by decide) (by rfl) (pav_ix (W := W0) (pv 2) (pd_var (pv 10)) (pav_ix (W := W0) (pv 3) (pd_var (pv 10)) (pav_ex (W := W0) (pd_op op_fdiv op2_div (pd_var (pv 7)) (pd_op (opr_or op_add op_cat) op2_add (pd_int) (pd_var (pv 10)))) (pav_sl (pv 4) (pav_nil)))))) (pd_last (pd_ret (pd_bl)))))))) <|
    pd_seq (pd_for hp rfl (pdi_range1 (by rfl) m_range (pd_int)) (.nm (pg_name (i := 10) nd rfl (by first | exact .inl rfl | exact .inr rfl))) (pd_last (pd_for hp rfl (pdi_range1 (by rfl) m_range (pd_int)) (.nm (pg_name (i := 11) nd rfl (by first | exact .inl rfl | exact .inr rfl))) (pd_last (pd_ifNV (as := [.ix 2 (fV 10), .ix 3 (fV 10), .ex (fV 11), .sl 4]) (pd_clV cm__law_seen tk hr (by decide) (by rfl) (pav_ix (W := W0) (pv 2) (pd_var (pv 10)) (pav_ix (W := W0) (pv 3) (pd_var (pv 10)) (pav_ex (W := W0) (pd_var (pv 11)) (pav_sl (pv 4) (pav_nil)))))) (pd_last (pd_ret (pd_bl)))))))) <|
    pd_last (pd_ret (pd_eq hr (pd_lc rfl nd (pdi_list (pd_var (pv 4))) (blkOk_by (own := [("_law_pair", 13)]) (N := N_law) (sc := defScope s_law) (by decide +kernel)) (by decide) (fun _ _ _ _ _ => .nm (pg_name (i := 13) nd rfl (by first | exact .inl rfl | exact .inr rfl))) (fun _ _ _ _ _ => ptd_one (ts_ne hr (pd_item (pd_var (pv 13)) (pd_int)) (pd_item (pd_var (pv 13)) (pd_int)))) (fun _ _ _ _ _ => pd_var (pv 13))) (pd_lst (pda_nil))))
end
section
variable {P : Program} {w : World} {K : PySem.W.Frag} {mg : Str → Option Value} {base : Heap} {A : Nat → Addr}
theorem ok___init__ {f : Addr} {fd : FuncData} (FU : Fun K "__init__" "Book.__init__" s___init__ f fd) (c_blank : Cl P w K mg base A "blank" 4 F_blank) (cB : Cls K (A (2 * 1001 + 1))) (n__numbers : NoAttr K (A (2 * 1001 + 1)) "_numbers") (n__many : NoAttr K (A (2 * 1001 + 1)) "_many") (n__done : NoAttr K (A (2 * 1001 + 1)) "_done") : FnOk P w K mg base (L2.CX P w) 5 f fd ["self", "many"] (spI (gd K A) badB zsB) := by
  have nd : (N___init__ : List Str).Nodup := sc___init__.nd
  refine FU.okX sc___init__ (fun vs H Q E ⟨x, dx, B, H1, d, v, ev, _⟩ => by rw [ev] <;> rfl) fun cdv A1 outer s H vs Q E hr ⟨x, dx, B, H1, d, v, ev, eH, hx, hdx, ne, sB, tb, rp, hc⟩ => ?_
  subst ev
  have tk : Takes (cxOf (L2.CX P w) P w K mg base N___init__ "Book.__init__" (defScope s___init__) f cdv A1 outer s H E) (fun c d _ H => E c d H) := takes_of rfl rfl rfl rfl
  refine ⟨_, pss_cons (ps_fld (pv 0) (pd_cl c_blank tk hr (by decide) (by rfl) (pda_cons (pd_var (pv 1)) pda_nil)) (by rfl)) (pss_cons (ps_fld (pv 0) (pv 1) (by rfl)) (pss_one (ps_fld (pv 0) (pe_lst pa_nil) (by rfl)))), ?_⟩
  have s1 : DY.Same H1 H := by
    rw [eH]
    exact (same_new hdx).trans (same_new (by rw [upd_ne ne.symm]; exact hx))
  have hHx : H x = some (.ins (A (2 * 1001 + 1)) dx []) := by rw [eH]; exact upd_same
  have hHd : H dx = some (.own x) := by rw [eH, upd_ne ne]; exact upd_same
  have ed : EnvD (gd K A) B (L2.start N___init__ [.ref x, v]) [none, some d] := ⟨tb, rfl, fun i e q => by
    match i, q with
    | 0, q => cases q
    | 1, q =>
      cases q
      exact ⟨v, rfl, rp⟩
    | i + 2, q => simp at q⟩
  rcases hc with ⟨hb, hE⟩ | ⟨m, rfl, hb, hQ⟩
  · have hb' : isExcD d = false ∧ inB d 11 = false := by
      unfold badB at hb
      rw [Bool.and_eq_true, Bool.not_eq_true', Bool.not_eq_true'] at hb
      exact hb
    refine ⟨B, _, .ex 0, sB.trans s1, ed, fA_1 (x := d) rfl rfl (z := some (.ex 0)) ?_, fun u B' H' st res => res.elim, fun n er H' s' => ?_⟩
    · show (if isExcD d = true then none else some (if inB d 11 = true then R.nw _ else .ex 0)) = _
      rw [hb'.1, hb'.2] <;> rfl
    · cases er
      exact hE H' s'
  · have hi : inB (.int m) 11 = true := by
      unfold badB at hb
      cases e : inB (.int m) 11 with
      | true => rfl
      | false =>
        rw [e] at hb
        cases hb
    cases rp
    refine ⟨B, _, .nw ((zsB m).map .int), sB.trans s1, ed, fA_1 (x := .int m) rfl rfl (z := some (.nw ((zsB m).map .int))) ?_, fun u B' H' st res => ?_, fun n er => by cases er⟩
    · show some (if inB (.int m) 11 = true then R.nw (List.replicate (2 ^ m.toNat) (.int 0)) else .ex 0) = _
      rw [hi, if_pos rfl]
      unfold zsB
      rw [List.map_replicate]
    · obtain ⟨p, vs, rfl, hp, bp, h1, r1⟩ := res
      have evs := r1.intsV
      subst evs
      have px : p ≠ x := fun z => by rw [z, hHx] at hp; cases hp
      have pd : p ≠ dx := fun z => by rw [z, hHd] at hp; cases hp
      have hx' : H' x = some (.ins (A (2 * 1001 + 1)) dx []) := own_at st.h hHx rfl
      have hd' : H' dx = some (.own x) := own_at st.h hHd rfl
      refine ⟨.ref x, rfl, x, A (2 * 1001 + 1), dx, [], rfl, hx', cB, n__numbers, by decide, ?_⟩
      refine ⟨.int m, rfl, .ref x, rfl, x, A (2 * 1001 + 1), dx, [("_numbers", .ref p)], rfl, upd_same, cB, n__many, by (show 1 < 1000; decide), ?_⟩
      refine ⟨by decide, fun l hl => ⟨.ref x, rfl, x, A (2 * 1001 + 1), dx, [("_numbers", .ref p), ("_many", .int m)], rfl, ?_, cB, n__done, by (show 2 < 1000; decide), ?_⟩⟩
      · rw [upd_ne fun z => ?_]
        · exact upd_same
        · rw [← z, upd_same] at hl
          cases hl
      · have lx : l ≠ x := fun z => by rw [z, upd_same] at hl; cases hl
        have S4 : DY.Same H1 (upd (upd H' x (.ins (A (2 * 1001 + 1)) dx [("_numbers", .ref p)])) x (.ins (A (2 * 1001 + 1)) dx [("_numbers", .ref p), ("_many", .int m)])) := fun b o hb => by
          have bx : b ≠ x := fun z => by rw [z, hx] at hb; cases hb
          exact (((s1.trans st.h) b o hb).chg hx' rfl bx).chg upd_same rfl bx
        have S5 := S4.trans (same_new (o := .lst []) hl)
        have hx5 : upd (upd (upd H' x (.ins (A (2 * 1001 + 1)) dx [("_numbers", .ref p)])) x (.ins (A (2 * 1001 + 1)) dx [("_numbers", .ref p), ("_many", .int m)])) l (.lst []) x = some (.ins (A (2 * 1001 + 1)) dx [("_numbers", .ref p), ("_many", .int m)]) := by
          rw [upd_ne (Ne.symm lx)]
          exact upd_same
        rw [upd_ne lx, upd_ne lx] at hl
        have lp : l ≠ p := fun z => by rw [z, h1] at hl; cases hl
        have ld : l ≠ dx := fun z => by rw [z, hd'] at hl; cases hl
        have hl0 : H1 l = none := s1.free (st.h.free hl)
        have hp0 : H1 p = none := s1.free hp
        refine hQ p l _ ?_ hp0 hl0 upd_same ?_ ?_ ?_ ?_
        · simp only [List.nodup_cons, List.mem_cons, List.not_mem_nil, or_false, not_or, not_false_eq_true, List.nodup_nil, and_true]
          exact ⟨⟨Ne.symm ne, Ne.symm px, Ne.symm lx⟩, ⟨Ne.symm pd, Ne.symm ld⟩, Ne.symm lp⟩
        · rw [upd_ne ne, upd_ne (Ne.symm ld), upd_ne ne, upd_ne ne]
          exact hd'
        · rw [upd_ne px, upd_ne (Ne.symm lp), upd_ne px, upd_ne px]
          exact h1
        · rw [upd_ne lx]
          exact upd_same
        · intro b o hb
          have bx : b ≠ x := fun z => by rw [z, hx] at hb; cases hb
          exact (S5 b o hb).chg hx5 rfl bx
end
theorem isok_of {K : PySem.W.Frag} {mg : Str → Option Value} {A : Nat → Addr} {ns : List Nat} {m : Nat} {y : Str} {C : Addr} (hy : mg y = some (.ref C)) (h : ∀ n ∈ ns, ExcC K (A (2 * n)) ∧ PySem.W.kitOne K (.ref (A (2 * n))) (.ref C) = some (n == m)) : IsOk K mg A (tabC ns m) y := by
  refine ⟨⟨C, hy, fun n b e => ?_⟩⟩
  unfold tabC at e
  split at e
  · rename_i hc
    cases e
    exact h n (List.contains_iff_mem.mp hc)
  · cases e
theorem istyok_of {K : PySem.W.Frag} {A : Nat → Addr} {ns : List Nat} {T : String} (h : ∀ n ∈ ns, ExcC K (A (2 * n)) ∧ PySem.W.kitOne K (.ref (A (2 * n))) (.type T) = some true) : IsTyOk K A (tabV ns) T := by
  refine ⟨fun n b e => ?_⟩
  unfold tabV at e
  split at e
  · rename_i hc
    cases e
    exact h n (List.contains_iff_mem.mp hc)
  · cases e
def spTop (K : PySem.W.Frag) (cs : List (Addr × Addr)) : Sp := fun vs H Q _ => ∃ (a : Addr) (ns : List Int), vs = [.ref a] ∧ SqL K H a (ns.map V.int) ∧ ns.length ≤ 63 ∧ (∀ p ∈ cs, H p.2 = some (.tbl #[])) ∧ ∀ H', Q (.bl true) H'
theorem all_mk {l : PySem.W.OpenLaw} {w : World} {K : PySem.W.Frag} {h : Heap} {mg : Str → Option Value} {fa : Addr} (X : K.In h) (G : h.Ns mainGlobals mg) (hfa : mg "law" = some (.ref fa)) (TE : TabsE K h []) {E_BadCount E_BadSet E_BadName E_BadNumber E_BadOrder E_BadTable E_Unlike E_NoCover E_NothingDone E_SetError E_Book f_is_whole f_is_whole_below f_is_table_length f_check_count f_check_set f_check_name f_check_order f_check_number f_check_table f_names_of f_blank f_reordered f_parts f_put f_swap f_undo f_value f_under f_over f_table f_many_done f__exchange f__law_cell f__law_mixed f__law_kind f__law_bits f__law_is_table f__law_turned f__law_behind f__law_caught f__law_made f__law_seen f__law_wrong f__law_deed f_law f___init__ : Addr} {od_is_whole an_is_whole od_is_whole_below an_is_whole_below od_is_table_length an_is_table_length od_check_count an_check_count od_check_set an_check_set od_check_name an_check_name od_check_order an_check_order od_check_number an_check_number od_check_table an_check_table od_names_of an_names_of od_blank an_blank od_reordered an_reordered od_parts an_parts od_put an_put od_swap an_swap od_undo an_undo od_value an_value od_under an_under od_over an_over od_table an_table od_many_done an_many_done od__exchange an__exchange od__law_cell an__law_cell od__law_mixed an__law_mixed od__law_kind an__law_kind od__law_bits an__law_bits od__law_is_table an__law_is_table od__law_turned an__law_turned od__law_behind an__law_behind od__law_caught an__law_caught od__law_made an__law_made od__law_seen an__law_seen od__law_wrong an__law_wrong od__law_deed an__law_deed od_law an_law od___init__ an___init__ : Option Addr} {sl_is_whole sl_is_whole_below sl_is_table_length sl_check_count sl_check_set sl_check_name sl_check_order sl_check_number sl_check_table sl_names_of sl_blank sl_reordered sl_parts sl_put sl_swap sl_undo sl_value sl_under sl_over sl_table sl_many_done sl__exchange sl__law_cell sl__law_mixed sl__law_kind sl__law_bits sl__law_is_table sl__law_turned sl__law_behind sl__law_caught sl__law_made sl__law_seen sl__law_wrong sl__law_deed sl_law sl___init__ : Array (Option Value)} {oc_is_whole kV_is_whole dc_is_whole pm_is_whole ct_is_whole cd_is_whole oc_is_whole_below kV_is_whole_below dc_is_whole_below pm_is_whole_below ct_is_whole_below cd_is_whole_below oc_is_table_length kV_is_table_length dc_is_table_length pm_is_table_length ct_is_table_length cd_is_table_length oc_check_count kV_check_count dc_check_count pm_check_count ct_check_count cd_check_count oc_check_set kV_check_set dc_check_set pm_check_set ct_check_set cd_check_set oc_check_name kV_check_name dc_check_name pm_check_name ct_check_name cd_check_name oc_check_order kV_check_order dc_check_order pm_check_order ct_check_order cd_check_order oc_check_number kV_check_number dc_check_number pm_check_number ct_check_number cd_check_number oc_check_table kV_check_table dc_check_table pm_check_table ct_check_table cd_check_table oc_names_of kV_names_of dc_names_of pm_names_of ct_names_of cd_names_of oc_blank kV_blank dc_blank pm_blank ct_blank cd_blank oc_reordered kV_reordered dc_reordered pm_reordered ct_reordered cd_reordered oc_parts kV_parts dc_parts pm_parts ct_parts cd_parts oc_put kV_put dc_put pm_put ct_put cd_put oc_swap kV_swap dc_swap pm_swap ct_swap cd_swap oc_undo kV_undo dc_undo pm_undo ct_undo cd_undo oc_value kV_value dc_value pm_value ct_value cd_value oc_under kV_under dc_under pm_under ct_under cd_under oc_over kV_over dc_over pm_over ct_over cd_over oc_table kV_table dc_table pm_table ct_table cd_table oc_many_done kV_many_done dc_many_done pm_many_done ct_many_done cd_many_done oc__exchange kV__exchange dc__exchange pm__exchange ct__exchange cd__exchange oc__law_cell kV__law_cell dc__law_cell pm__law_cell ct__law_cell cd__law_cell oc__law_mixed kV__law_mixed dc__law_mixed pm__law_mixed ct__law_mixed cd__law_mixed oc__law_kind kV__law_kind dc__law_kind pm__law_kind ct__law_kind cd__law_kind oc__law_bits kV__law_bits dc__law_bits pm__law_bits ct__law_bits cd__law_bits oc__law_is_table kV__law_is_table dc__law_is_table pm__law_is_table ct__law_is_table cd__law_is_table oc__law_turned kV__law_turned dc__law_turned pm__law_turned ct__law_turned cd__law_turned oc__law_behind kV__law_behind dc__law_behind pm__law_behind ct__law_behind cd__law_behind oc__law_caught kV__law_caught dc__law_caught pm__law_caught ct__law_caught cd__law_caught oc__law_made kV__law_made dc__law_made pm__law_made ct__law_made cd__law_made oc__law_seen kV__law_seen dc__law_seen pm__law_seen ct__law_seen cd__law_seen oc__law_wrong kV__law_wrong dc__law_wrong pm__law_wrong ct__law_wrong cd__law_wrong oc__law_deed kV__law_deed dc__law_deed pm__law_deed ct__law_deed cd__law_deed oc_law kV_law dc_law pm_law ct_law cd_law oc___init__ kV___init__ dc___init__ pm___init__ ct___init__ cd___init__ : Value} {tk_MOST_NAMES : Tok} {tk_PUT : Tok} {tk_SWAP : Tok}
    (g_BadCount : PySem.W.nsIn K mainGlobals "BadCount" = some (some (.ref E_BadCount))) (g_BadSet : PySem.W.nsIn K mainGlobals "BadSet" = some (some (.ref E_BadSet))) (g_BadName : PySem.W.nsIn K mainGlobals "BadName" = some (some (.ref E_BadName))) (g_BadNumber : PySem.W.nsIn K mainGlobals "BadNumber" = some (some (.ref E_BadNumber))) (g_BadOrder : PySem.W.nsIn K mainGlobals "BadOrder" = some (some (.ref E_BadOrder))) (g_BadTable : PySem.W.nsIn K mainGlobals "BadTable" = some (some (.ref E_BadTable))) (g_Unlike : PySem.W.nsIn K mainGlobals "Unlike" = some (some (.ref E_Unlike))) (g_NoCover : PySem.W.nsIn K mainGlobals "NoCover" = some (some (.ref E_NoCover))) (g_NothingDone : PySem.W.nsIn K mainGlobals "NothingDone" = some (some (.ref E_NothingDone))) (g_SetError : PySem.W.nsIn K mainGlobals "SetError" = some (some (.ref E_SetError))) (g_Book : PySem.W.nsIn K mainGlobals "Book" = some (some (.ref E_Book))) (cb1 : PySem.W.plainGet K E_Book Str.empty = true) (cb2 : PySem.W.hasDictIn K E_Book = true) (cb3 : PySem.W.plainOver K E_Book = true) (cb4 : PySem.W.findIn K (.ref E_Book) "__setattr__" = some (some (.builtin "object.__setattr__"))) (cb5 : PySem.W.makesIn K E_Book = true) (cb6 : PySem.W.keepIn K (.ref E_Book) = true) (na__numbers : PySem.W.findIn K (.ref E_Book) "_numbers" = some none) (na__many : PySem.W.findIn K (.ref E_Book) "_many" = some none) (na__done : PySem.W.findIn K (.ref E_Book) "_done" = some none) (q_BadCount : PySem.W.excIn K E_BadCount [.type "ValueError", .type "Exception", .type "BaseException", .type "object"] "ValueError.__new__" = true) (kp_BadCount : PySem.W.keepIn K (.ref E_BadCount) = true) (sb_BadCount : PySem.W.subIn K (.ref E_BadCount) (.type "BaseException") = some true) (ty_BadCount : PySem.W.typeIn K (.ref E_BadCount) = some (.type "type")) (ga_BadCount : PySem.W.findIn K (.ref E_BadCount) "__getattribute__" = some (some (.builtin "BaseException.__getattribute__"))) (gt_BadCount : PySem.W.findIn K (.ref E_BadCount) "__getattr__" = some none) (hd_BadCount : PySem.W.hasDictIn K E_BadCount = true) (hc_BadCount : PySem.W.findIn K (.ref E_BadCount) "__class__" = some (some (.builtin "object.__class__"))) (ho_BadCount : PySem.W.mroIn K E_BadCount (.type "object") = some true) (it_BadCount_BadCount : PySem.W.kitOne K (.ref E_BadCount) (.ref E_BadCount) = some true) (it_BadCount_BadName : PySem.W.kitOne K (.ref E_BadCount) (.ref E_BadName) = some false) (it_BadCount_BadNumber : PySem.W.kitOne K (.ref E_BadCount) (.ref E_BadNumber) = some false) (it_BadCount_BadOrder : PySem.W.kitOne K (.ref E_BadCount) (.ref E_BadOrder) = some false) (it_BadCount_BadSet : PySem.W.kitOne K (.ref E_BadCount) (.ref E_BadSet) = some false) (it_BadCount_BadTable : PySem.W.kitOne K (.ref E_BadCount) (.ref E_BadTable) = some false) (it_BadCount_NoCover : PySem.W.kitOne K (.ref E_BadCount) (.ref E_NoCover) = some false) (it_BadCount_NothingDone : PySem.W.kitOne K (.ref E_BadCount) (.ref E_NothingDone) = some false) (it_BadCount_Unlike : PySem.W.kitOne K (.ref E_BadCount) (.ref E_Unlike) = some false) (iv_BadCount : PySem.W.kitOne K (.ref E_BadCount) (.type "ValueError") = some true) (xs_BadCount : PySem.W.exmOne K (.ref E_BadCount) (.ref E_SetError) = some true) (q_BadSet : PySem.W.excIn K E_BadSet [.type "ValueError", .type "Exception", .type "BaseException", .type "object"] "ValueError.__new__" = true) (kp_BadSet : PySem.W.keepIn K (.ref E_BadSet) = true) (sb_BadSet : PySem.W.subIn K (.ref E_BadSet) (.type "BaseException") = some true) (ty_BadSet : PySem.W.typeIn K (.ref E_BadSet) = some (.type "type")) (ga_BadSet : PySem.W.findIn K (.ref E_BadSet) "__getattribute__" = some (some (.builtin "BaseException.__getattribute__"))) (gt_BadSet : PySem.W.findIn K (.ref E_BadSet) "__getattr__" = some none) (hd_BadSet : PySem.W.hasDictIn K E_BadSet = true) (hc_BadSet : PySem.W.findIn K (.ref E_BadSet) "__class__" = some (some (.builtin "object.__class__"))) (ho_BadSet : PySem.W.mroIn K E_BadSet (.type "object") = some true) (it_BadSet_BadCount : PySem.W.kitOne K (.ref E_BadSet) (.ref E_BadCount) = some false) (it_BadSet_BadName : PySem.W.kitOne K (.ref E_BadSet) (.ref E_BadName) = some false) (it_BadSet_BadNumber : PySem.W.kitOne K (.ref E_BadSet) (.ref E_BadNumber) = some false) (it_BadSet_BadOrder : PySem.W.kitOne K (.ref E_BadSet) (.ref E_BadOrder) = some false) (it_BadSet_BadSet : PySem.W.kitOne K (.ref E_BadSet) (.ref E_BadSet) = some true) (it_BadSet_BadTable : PySem.W.kitOne K (.ref E_BadSet) (.ref E_BadTable) = some false) (it_BadSet_NoCover : PySem.W.kitOne K (.ref E_BadSet) (.ref E_NoCover) = some false) (it_BadSet_NothingDone : PySem.W.kitOne K (.ref E_BadSet) (.ref E_NothingDone) = some false) (it_BadSet_Unlike : PySem.W.kitOne K (.ref E_BadSet) (.ref E_Unlike) = some false) (iv_BadSet : PySem.W.kitOne K (.ref E_BadSet) (.type "ValueError") = some true) (xs_BadSet : PySem.W.exmOne K (.ref E_BadSet) (.ref E_SetError) = some true) (q_BadName : PySem.W.excIn K E_BadName [.type "ValueError", .type "Exception", .type "BaseException", .type "object"] "ValueError.__new__" = true) (kp_BadName : PySem.W.keepIn K (.ref E_BadName) = true) (sb_BadName : PySem.W.subIn K (.ref E_BadName) (.type "BaseException") = some true) (ty_BadName : PySem.W.typeIn K (.ref E_BadName) = some (.type "type")) (ga_BadName : PySem.W.findIn K (.ref E_BadName) "__getattribute__" = some (some (.builtin "BaseException.__getattribute__"))) (gt_BadName : PySem.W.findIn K (.ref E_BadName) "__getattr__" = some none) (hd_BadName : PySem.W.hasDictIn K E_BadName = true) (hc_BadName : PySem.W.findIn K (.ref E_BadName) "__class__" = some (some (.builtin "object.__class__"))) (ho_BadName : PySem.W.mroIn K E_BadName (.type "object") = some true) (it_BadName_BadCount : PySem.W.kitOne K (.ref E_BadName) (.ref E_BadCount) = some false) (it_BadName_BadName : PySem.W.kitOne K (.ref E_BadName) (.ref E_BadName) = some true) (it_BadName_BadNumber : PySem.W.kitOne K (.ref E_BadName) (.ref E_BadNumber) = some false) (it_BadName_BadOrder : PySem.W.kitOne K (.ref E_BadName) (.ref E_BadOrder) = some false) (it_BadName_BadSet : PySem.W.kitOne K (.ref E_BadName) (.ref E_BadSet) = some false) (it_BadName_BadTable : PySem.W.kitOne K (.ref E_BadName) (.ref E_BadTable) = some false) (it_BadName_NoCover : PySem.W.kitOne K (.ref E_BadName) (.ref E_NoCover) = some false) (it_BadName_NothingDone : PySem.W.kitOne K (.ref E_BadName) (.ref E_NothingDone) = some false) (it_BadName_Unlike : PySem.W.kitOne K (.ref E_BadName) (.ref E_Unlike) = some false) (iv_BadName : PySem.W.kitOne K (.ref E_BadName) (.type "ValueError") = some true) (xs_BadName : PySem.W.exmOne K (.ref E_BadName) (.ref E_SetError) = some true) (q_BadNumber : PySem.W.excIn K E_BadNumber [.type "ValueError", .type "Exception", .type "BaseException", .type "object"] "ValueError.__new__" = true) (kp_BadNumber : PySem.W.keepIn K (.ref E_BadNumber) = true) (sb_BadNumber : PySem.W.subIn K (.ref E_BadNumber) (.type "BaseException") = some true) (ty_BadNumber : PySem.W.typeIn K (.ref E_BadNumber) = some (.type "type")) (ga_BadNumber : PySem.W.findIn K (.ref E_BadNumber) "__getattribute__" = some (some (.builtin "BaseException.__getattribute__"))) (gt_BadNumber : PySem.W.findIn K (.ref E_BadNumber) "__getattr__" = some none) (hd_BadNumber : PySem.W.hasDictIn K E_BadNumber = true) (hc_BadNumber : PySem.W.findIn K (.ref E_BadNumber) "__class__" = some (some (.builtin "object.__class__"))) (ho_BadNumber : PySem.W.mroIn K E_BadNumber (.type "object") = some true) (it_BadNumber_BadCount : PySem.W.kitOne K (.ref E_BadNumber) (.ref E_BadCount) = some false) (it_BadNumber_BadName : PySem.W.kitOne K (.ref E_BadNumber) (.ref E_BadName) = some false) (it_BadNumber_BadNumber : PySem.W.kitOne K (.ref E_BadNumber) (.ref E_BadNumber) = some true) (it_BadNumber_BadOrder : PySem.W.kitOne K (.ref E_BadNumber) (.ref E_BadOrder) = some false) (it_BadNumber_BadSet : PySem.W.kitOne K (.ref E_BadNumber) (.ref E_BadSet) = some false) (it_BadNumber_BadTable : PySem.W.kitOne K (.ref E_BadNumber) (.ref E_BadTable) = some false) (it_BadNumber_NoCover : PySem.W.kitOne K (.ref E_BadNumber) (.ref E_NoCover) = some false) (it_BadNumber_NothingDone : PySem.W.kitOne K (.ref E_BadNumber) (.ref E_NothingDone) = some false) (it_BadNumber_Unlike : PySem.W.kitOne K (.ref E_BadNumber) (.ref E_Unlike) = some false) (iv_BadNumber : PySem.W.kitOne K (.ref E_BadNumber) (.type "ValueError") = some true) (xs_BadNumber : PySem.W.exmOne K (.ref E_BadNumber) (.ref E_SetError) = some true) (q_BadOrder : PySem.W.excIn K E_BadOrder [.type "ValueError", .type "Exception", .type "BaseException", .type "object"] "ValueError.__new__" = true) (kp_BadOrder : PySem.W.keepIn K (.ref E_BadOrder) = true) (sb_BadOrder : PySem.W.subIn K (.ref E_BadOrder) (.type "BaseException") = some true) (ty_BadOrder : PySem.W.typeIn K (.ref E_BadOrder) = some (.type "type")) (ga_BadOrder : PySem.W.findIn K (.ref E_BadOrder) "__getattribute__" = some (some (.builtin "BaseException.__getattribute__"))) (gt_BadOrder : PySem.W.findIn K (.ref E_BadOrder) "__getattr__" = some none) (hd_BadOrder : PySem.W.hasDictIn K E_BadOrder = true) (hc_BadOrder : PySem.W.findIn K (.ref E_BadOrder) "__class__" = some (some (.builtin "object.__class__"))) (ho_BadOrder : PySem.W.mroIn K E_BadOrder (.type "object") = some true) (it_BadOrder_BadCount : PySem.W.kitOne K (.ref E_BadOrder) (.ref E_BadCount) = some false) (it_BadOrder_BadName : PySem.W.kitOne K (.ref E_BadOrder) (.ref E_BadName) = some false) (it_BadOrder_BadNumber : PySem.W.kitOne K (.ref E_BadOrder) (.ref E_BadNumber) = some false) (it_BadOrder_BadOrder : PySem.W.kitOne K (.ref E_BadOrder) (.ref E_BadOrder) = some true) (it_BadOrder_BadSet : PySem.W.kitOne K (.ref E_BadOrder) (.ref E_BadSet) = some false) (it_BadOrder_BadTable : PySem.W.kitOne K (.ref E_BadOrder) (.ref E_BadTable) = some false) (it_BadOrder_NoCover : PySem.W.kitOne K (.ref E_BadOrder) (.ref E_NoCover) = some false) (it_BadOrder_NothingDone : PySem.W.kitOne K (.ref E_BadOrder) (.ref E_NothingDone) = some false) (it_BadOrder_Unlike : PySem.W.kitOne K (.ref E_BadOrder) (.ref E_Unlike) = some false) (iv_BadOrder : PySem.W.kitOne K (.ref E_BadOrder) (.type "ValueError") = some true) (xs_BadOrder : PySem.W.exmOne K (.ref E_BadOrder) (.ref E_SetError) = some true) (q_BadTable : PySem.W.excIn K E_BadTable [.type "ValueError", .type "Exception", .type "BaseException", .type "object"] "ValueError.__new__" = true) (kp_BadTable : PySem.W.keepIn K (.ref E_BadTable) = true) (sb_BadTable : PySem.W.subIn K (.ref E_BadTable) (.type "BaseException") = some true) (ty_BadTable : PySem.W.typeIn K (.ref E_BadTable) = some (.type "type")) (ga_BadTable : PySem.W.findIn K (.ref E_BadTable) "__getattribute__" = some (some (.builtin "BaseException.__getattribute__"))) (gt_BadTable : PySem.W.findIn K (.ref E_BadTable) "__getattr__" = some none) (hd_BadTable : PySem.W.hasDictIn K E_BadTable = true) (hc_BadTable : PySem.W.findIn K (.ref E_BadTable) "__class__" = some (some (.builtin "object.__class__"))) (ho_BadTable : PySem.W.mroIn K E_BadTable (.type "object") = some true) (it_BadTable_BadCount : PySem.W.kitOne K (.ref E_BadTable) (.ref E_BadCount) = some false) (it_BadTable_BadName : PySem.W.kitOne K (.ref E_BadTable) (.ref E_BadName) = some false) (it_BadTable_BadNumber : PySem.W.kitOne K (.ref E_BadTable) (.ref E_BadNumber) = some false) (it_BadTable_BadOrder : PySem.W.kitOne K (.ref E_BadTable) (.ref E_BadOrder) = some false) (it_BadTable_BadSet : PySem.W.kitOne K (.ref E_BadTable) (.ref E_BadSet) = some false) (it_BadTable_BadTable : PySem.W.kitOne K (.ref E_BadTable) (.ref E_BadTable) = some true) (it_BadTable_NoCover : PySem.W.kitOne K (.ref E_BadTable) (.ref E_NoCover) = some false) (it_BadTable_NothingDone : PySem.W.kitOne K (.ref E_BadTable) (.ref E_NothingDone) = some false) (it_BadTable_Unlike : PySem.W.kitOne K (.ref E_BadTable) (.ref E_Unlike) = some false) (iv_BadTable : PySem.W.kitOne K (.ref E_BadTable) (.type "ValueError") = some true) (xs_BadTable : PySem.W.exmOne K (.ref E_BadTable) (.ref E_SetError) = some true) (q_NothingDone : PySem.W.excIn K E_NothingDone [.type "ValueError", .type "Exception", .type "BaseException", .type "object"] "ValueError.__new__" = true) (kp_NothingDone : PySem.W.keepIn K (.ref E_NothingDone) = true) (sb_NothingDone : PySem.W.subIn K (.ref E_NothingDone) (.type "BaseException") = some true) (ty_NothingDone : PySem.W.typeIn K (.ref E_NothingDone) = some (.type "type")) (ga_NothingDone : PySem.W.findIn K (.ref E_NothingDone) "__getattribute__" = some (some (.builtin "BaseException.__getattribute__"))) (gt_NothingDone : PySem.W.findIn K (.ref E_NothingDone) "__getattr__" = some none) (hd_NothingDone : PySem.W.hasDictIn K E_NothingDone = true) (hc_NothingDone : PySem.W.findIn K (.ref E_NothingDone) "__class__" = some (some (.builtin "object.__class__"))) (ho_NothingDone : PySem.W.mroIn K E_NothingDone (.type "object") = some true) (it_NothingDone_BadCount : PySem.W.kitOne K (.ref E_NothingDone) (.ref E_BadCount) = some false) (it_NothingDone_BadName : PySem.W.kitOne K (.ref E_NothingDone) (.ref E_BadName) = some false) (it_NothingDone_BadNumber : PySem.W.kitOne K (.ref E_NothingDone) (.ref E_BadNumber) = some false) (it_NothingDone_BadOrder : PySem.W.kitOne K (.ref E_NothingDone) (.ref E_BadOrder) = some false) (it_NothingDone_BadSet : PySem.W.kitOne K (.ref E_NothingDone) (.ref E_BadSet) = some false) (it_NothingDone_BadTable : PySem.W.kitOne K (.ref E_NothingDone) (.ref E_BadTable) = some false) (it_NothingDone_NoCover : PySem.W.kitOne K (.ref E_NothingDone) (.ref E_NoCover) = some false) (it_NothingDone_NothingDone : PySem.W.kitOne K (.ref E_NothingDone) (.ref E_NothingDone) = some true) (it_NothingDone_Unlike : PySem.W.kitOne K (.ref E_NothingDone) (.ref E_Unlike) = some false) (iv_NothingDone : PySem.W.kitOne K (.ref E_NothingDone) (.type "ValueError") = some true) (xs_NothingDone : PySem.W.exmOne K (.ref E_NothingDone) (.ref E_SetError) = some true) (sp_ : PySem.W.specialIn K (.builtin "object.__class__") "__get__" = some (some (.builtin "getset_descriptor.__get__"))) (tk_ : PySem.W.takesIn K (.builtin "object.__class__") = some true) (n_MOST_NAMES : PySem.W.nsIn K mainGlobals "MOST_NAMES" = some (some (.int 10 tk_MOST_NAMES))) (n_PUT : PySem.W.nsIn K mainGlobals "PUT" = some (some (.int 0 tk_PUT))) (n_SWAP : PySem.W.nsIn K mainGlobals "SWAP" = some (some (.int 1 tk_SWAP))) (z_bool : PySem.W.nsIn K mainGlobals "bool" = some none) (z_int : PySem.W.nsIn K mainGlobals "int" = some none) (z_isinstance : PySem.W.nsIn K mainGlobals "isinstance" = some none) (z_len : PySem.W.nsIn K mainGlobals "len" = some none) (z_list : PySem.W.nsIn K mainGlobals "list" = some none) (z_range : PySem.W.nsIn K mainGlobals "range" = some none) (z_sorted : PySem.W.nsIn K mainGlobals "sorted" = some none) (z_sum : PySem.W.nsIn K mainGlobals "sum" = some none) (z_enumerate : PySem.W.nsIn K mainGlobals "enumerate" = some none) (z_max : PySem.W.nsIn K mainGlobals "max" = some none) (z_ValueError : PySem.W.nsIn K mainGlobals "ValueError" = some none) (z_all : PySem.W.nsIn K mainGlobals "all" = some none) (z_min : PySem.W.nsIn K mainGlobals "min" = some none) (a_is_whole : PySem.W.nsIn K mainGlobals "is_whole" = some (some (.ref f_is_whole))) (l_is_whole : K.lookup f_is_whole = some ⟨oc_is_whole, od_is_whole, .func (PySem.W.fnOf "is_whole" "is_whole" (defArgs s_is_whole) (defBody s_is_whole) (defScope s_is_whole) .none kV_is_whole dc_is_whole pm_is_whole an_is_whole cd_is_whole ct_is_whole), sl_is_whole⟩) (co_is_whole : PySem.W.codeIn K cd_is_whole "is_whole" = true) (ke_is_whole : PySem.W.keepIn K (.ref f_is_whole) = true) (a_is_whole_below : PySem.W.nsIn K mainGlobals "is_whole_below" = some (some (.ref f_is_whole_below))) (l_is_whole_below : K.lookup f_is_whole_below = some ⟨oc_is_whole_below, od_is_whole_below, .func (PySem.W.fnOf "is_whole_below" "is_whole_below" (defArgs s_is_whole_below) (defBody s_is_whole_below) (defScope s_is_whole_below) .none kV_is_whole_below dc_is_whole_below pm_is_whole_below an_is_whole_below cd_is_whole_below ct_is_whole_below), sl_is_whole_below⟩) (co_is_whole_below : PySem.W.codeIn K cd_is_whole_below "is_whole_below" = true) (ke_is_whole_below : PySem.W.keepIn K (.ref f_is_whole_below) = true) (a_is_table_length : PySem.W.nsIn K mainGlobals "is_table_length" = some (some (.ref f_is_table_length))) (l_is_table_length : K.lookup f_is_table_length = some ⟨oc_is_table_length, od_is_table_length, .func (PySem.W.fnOf "is_table_length" "is_table_length" (defArgs s_is_table_length) (defBody s_is_table_length) (defScope s_is_table_length) .none kV_is_table_length dc_is_table_length pm_is_table_length an_is_table_length cd_is_table_length ct_is_table_length), sl_is_table_length⟩) (co_is_table_length : PySem.W.codeIn K cd_is_table_length "is_table_length" = true) (ke_is_table_length : PySem.W.keepIn K (.ref f_is_table_length) = true) (a_check_count : PySem.W.nsIn K mainGlobals "check_count" = some (some (.ref f_check_count))) (l_check_count : K.lookup f_check_count = some ⟨oc_check_count, od_check_count, .func (PySem.W.fnOf "check_count" "check_count" (defArgs s_check_count) (defBody s_check_count) (defScope s_check_count) .none kV_check_count dc_check_count pm_check_count an_check_count cd_check_count ct_check_count), sl_check_count⟩) (co_check_count : PySem.W.codeIn K cd_check_count "check_count" = true) (ke_check_count : PySem.W.keepIn K (.ref f_check_count) = true) (a_check_set : PySem.W.nsIn K mainGlobals "check_set" = some (some (.ref f_check_set))) (l_check_set : K.lookup f_check_set = some ⟨oc_check_set, od_check_set, .func (PySem.W.fnOf "check_set" "check_set" (defArgs s_check_set) (defBody s_check_set) (defScope s_check_set) .none kV_check_set dc_check_set pm_check_set an_check_set cd_check_set ct_check_set), sl_check_set⟩) (co_check_set : PySem.W.codeIn K cd_check_set "check_set" = true) (ke_check_set : PySem.W.keepIn K (.ref f_check_set) = true) (a_check_name : PySem.W.nsIn K mainGlobals "check_name" = some (some (.ref f_check_name))) (l_check_name : K.lookup f_check_name = some ⟨oc_check_name, od_check_name, .func (PySem.W.fnOf "check_name" "check_name" (defArgs s_check_name) (defBody s_check_name) (defScope s_check_name) .none kV_check_name dc_check_name pm_check_name an_check_name cd_check_name ct_check_name), sl_check_name⟩) (co_check_name : PySem.W.codeIn K cd_check_name "check_name" = true) (ke_check_name : PySem.W.keepIn K (.ref f_check_name) = true) (a_check_order : PySem.W.nsIn K mainGlobals "check_order" = some (some (.ref f_check_order))) (l_check_order : K.lookup f_check_order = some ⟨oc_check_order, od_check_order, .func (PySem.W.fnOf "check_order" "check_order" (defArgs s_check_order) (defBody s_check_order) (defScope s_check_order) .none kV_check_order dc_check_order pm_check_order an_check_order cd_check_order ct_check_order), sl_check_order⟩) (co_check_order : PySem.W.codeIn K cd_check_order "check_order" = true) (ke_check_order : PySem.W.keepIn K (.ref f_check_order) = true) (a_check_number : PySem.W.nsIn K mainGlobals "check_number" = some (some (.ref f_check_number))) (l_check_number : K.lookup f_check_number = some ⟨oc_check_number, od_check_number, .func (PySem.W.fnOf "check_number" "check_number" (defArgs s_check_number) (defBody s_check_number) (defScope s_check_number) .none kV_check_number dc_check_number pm_check_number an_check_number cd_check_number ct_check_number), sl_check_number⟩) (co_check_number : PySem.W.codeIn K cd_check_number "check_number" = true) (ke_check_number : PySem.W.keepIn K (.ref f_check_number) = true) (a_check_table : PySem.W.nsIn K mainGlobals "check_table" = some (some (.ref f_check_table))) (l_check_table : K.lookup f_check_table = some ⟨oc_check_table, od_check_table, .func (PySem.W.fnOf "check_table" "check_table" (defArgs s_check_table) (defBody s_check_table) (defScope s_check_table) .none kV_check_table dc_check_table pm_check_table an_check_table cd_check_table ct_check_table), sl_check_table⟩) (co_check_table : PySem.W.codeIn K cd_check_table "check_table" = true) (ke_check_table : PySem.W.keepIn K (.ref f_check_table) = true) (a_names_of : PySem.W.nsIn K mainGlobals "names_of" = some (some (.ref f_names_of))) (l_names_of : K.lookup f_names_of = some ⟨oc_names_of, od_names_of, .func (PySem.W.fnOf "names_of" "names_of" (defArgs s_names_of) (defBody s_names_of) (defScope s_names_of) .none kV_names_of dc_names_of pm_names_of an_names_of cd_names_of ct_names_of), sl_names_of⟩) (co_names_of : PySem.W.codeIn K cd_names_of "names_of" = true) (ke_names_of : PySem.W.keepIn K (.ref f_names_of) = true) (a_blank : PySem.W.nsIn K mainGlobals "blank" = some (some (.ref f_blank))) (l_blank : K.lookup f_blank = some ⟨oc_blank, od_blank, .func (PySem.W.fnOf "blank" "blank" (defArgs s_blank) (defBody s_blank) (defScope s_blank) .none kV_blank dc_blank pm_blank an_blank cd_blank ct_blank), sl_blank⟩) (co_blank : PySem.W.codeIn K cd_blank "blank" = true) (ke_blank : PySem.W.keepIn K (.ref f_blank) = true) (a_reordered : PySem.W.nsIn K mainGlobals "reordered" = some (some (.ref f_reordered))) (l_reordered : K.lookup f_reordered = some ⟨oc_reordered, od_reordered, .func (PySem.W.fnOf "reordered" "reordered" (defArgs s_reordered) (defBody s_reordered) (defScope s_reordered) .none kV_reordered dc_reordered pm_reordered an_reordered cd_reordered ct_reordered), sl_reordered⟩) (co_reordered : PySem.W.codeIn K cd_reordered "reordered" = true) (ke_reordered : PySem.W.keepIn K (.ref f_reordered) = true) (a_parts : PySem.W.nsIn K mainGlobals "parts" = some (some (.ref f_parts))) (l_parts : K.lookup f_parts = some ⟨oc_parts, od_parts, .func (PySem.W.fnOf "parts" "parts" (defArgs s_parts) (defBody s_parts) (defScope s_parts) .none kV_parts dc_parts pm_parts an_parts cd_parts ct_parts), sl_parts⟩) (co_parts : PySem.W.codeIn K cd_parts "parts" = true) (ke_parts : PySem.W.keepIn K (.ref f_parts) = true) (a_put : PySem.W.findIn K (.ref E_Book) "put" = some (some (.ref f_put))) (fn_put : PySem.W.isFn K (.ref f_put) = true) (l_put : K.lookup f_put = some ⟨oc_put, od_put, .func (PySem.W.fnOf "put" "Book.put" (defArgs s_put) (defBody s_put) (defScope s_put) .none kV_put dc_put pm_put an_put cd_put ct_put), sl_put⟩) (co_put : PySem.W.codeIn K cd_put "Book.put" = true) (ke_put : PySem.W.keepIn K (.ref f_put) = true) (a_swap : PySem.W.findIn K (.ref E_Book) "swap" = some (some (.ref f_swap))) (fn_swap : PySem.W.isFn K (.ref f_swap) = true) (l_swap : K.lookup f_swap = some ⟨oc_swap, od_swap, .func (PySem.W.fnOf "swap" "Book.swap" (defArgs s_swap) (defBody s_swap) (defScope s_swap) .none kV_swap dc_swap pm_swap an_swap cd_swap ct_swap), sl_swap⟩) (co_swap : PySem.W.codeIn K cd_swap "Book.swap" = true) (ke_swap : PySem.W.keepIn K (.ref f_swap) = true) (a_undo : PySem.W.findIn K (.ref E_Book) "undo" = some (some (.ref f_undo))) (fn_undo : PySem.W.isFn K (.ref f_undo) = true) (l_undo : K.lookup f_undo = some ⟨oc_undo, od_undo, .func (PySem.W.fnOf "undo" "Book.undo" (defArgs s_undo) (defBody s_undo) (defScope s_undo) .none kV_undo dc_undo pm_undo an_undo cd_undo ct_undo), sl_undo⟩) (co_undo : PySem.W.codeIn K cd_undo "Book.undo" = true) (ke_undo : PySem.W.keepIn K (.ref f_undo) = true) (a_value : PySem.W.findIn K (.ref E_Book) "value" = some (some (.ref f_value))) (fn_value : PySem.W.isFn K (.ref f_value) = true) (l_value : K.lookup f_value = some ⟨oc_value, od_value, .func (PySem.W.fnOf "value" "Book.value" (defArgs s_value) (defBody s_value) (defScope s_value) .none kV_value dc_value pm_value an_value cd_value ct_value), sl_value⟩) (co_value : PySem.W.codeIn K cd_value "Book.value" = true) (ke_value : PySem.W.keepIn K (.ref f_value) = true) (a_under : PySem.W.findIn K (.ref E_Book) "under" = some (some (.ref f_under))) (fn_under : PySem.W.isFn K (.ref f_under) = true) (l_under : K.lookup f_under = some ⟨oc_under, od_under, .func (PySem.W.fnOf "under" "Book.under" (defArgs s_under) (defBody s_under) (defScope s_under) .none kV_under dc_under pm_under an_under cd_under ct_under), sl_under⟩) (co_under : PySem.W.codeIn K cd_under "Book.under" = true) (ke_under : PySem.W.keepIn K (.ref f_under) = true) (a_over : PySem.W.findIn K (.ref E_Book) "over" = some (some (.ref f_over))) (fn_over : PySem.W.isFn K (.ref f_over) = true) (l_over : K.lookup f_over = some ⟨oc_over, od_over, .func (PySem.W.fnOf "over" "Book.over" (defArgs s_over) (defBody s_over) (defScope s_over) .none kV_over dc_over pm_over an_over cd_over ct_over), sl_over⟩) (co_over : PySem.W.codeIn K cd_over "Book.over" = true) (ke_over : PySem.W.keepIn K (.ref f_over) = true) (a_table : PySem.W.findIn K (.ref E_Book) "table" = some (some (.ref f_table))) (fn_table : PySem.W.isFn K (.ref f_table) = true) (l_table : K.lookup f_table = some ⟨oc_table, od_table, .func (PySem.W.fnOf "table" "Book.table" (defArgs s_table) (defBody s_table) (defScope s_table) .none kV_table dc_table pm_table an_table cd_table ct_table), sl_table⟩) (co_table : PySem.W.codeIn K cd_table "Book.table" = true) (ke_table : PySem.W.keepIn K (.ref f_table) = true) (a_many_done : PySem.W.findIn K (.ref E_Book) "many_done" = some (some (.ref f_many_done))) (fn_many_done : PySem.W.isFn K (.ref f_many_done) = true) (l_many_done : K.lookup f_many_done = some ⟨oc_many_done, od_many_done, .func (PySem.W.fnOf "many_done" "Book.many_done" (defArgs s_many_done) (defBody s_many_done) (defScope s_many_done) .none kV_many_done dc_many_done pm_many_done an_many_done cd_many_done ct_many_done), sl_many_done⟩) (co_many_done : PySem.W.codeIn K cd_many_done "Book.many_done" = true) (ke_many_done : PySem.W.keepIn K (.ref f_many_done) = true) (a__exchange : PySem.W.findIn K (.ref E_Book) "_exchange" = some (some (.ref f__exchange))) (fn__exchange : PySem.W.isFn K (.ref f__exchange) = true) (l__exchange : K.lookup f__exchange = some ⟨oc__exchange, od__exchange, .func (PySem.W.fnOf "_exchange" "Book._exchange" (defArgs s__exchange) (defBody s__exchange) (defScope s__exchange) .none kV__exchange dc__exchange pm__exchange an__exchange cd__exchange ct__exchange), sl__exchange⟩) (co__exchange : PySem.W.codeIn K cd__exchange "Book._exchange" = true) (ke__exchange : PySem.W.keepIn K (.ref f__exchange) = true) (a__law_cell : PySem.W.nsIn K mainGlobals "_law_cell" = some (some (.ref f__law_cell))) (l__law_cell : K.lookup f__law_cell = some ⟨oc__law_cell, od__law_cell, .func (PySem.W.fnOf "_law_cell" "_law_cell" (defArgs s__law_cell) (defBody s__law_cell) (defScope s__law_cell) .none kV__law_cell dc__law_cell pm__law_cell an__law_cell cd__law_cell ct__law_cell), sl__law_cell⟩) (co__law_cell : PySem.W.codeIn K cd__law_cell "_law_cell" = true) (ke__law_cell : PySem.W.keepIn K (.ref f__law_cell) = true) (a__law_mixed : PySem.W.nsIn K mainGlobals "_law_mixed" = some (some (.ref f__law_mixed))) (l__law_mixed : K.lookup f__law_mixed = some ⟨oc__law_mixed, od__law_mixed, .func (PySem.W.fnOf "_law_mixed" "_law_mixed" (defArgs s__law_mixed) (defBody s__law_mixed) (defScope s__law_mixed) .none kV__law_mixed dc__law_mixed pm__law_mixed an__law_mixed cd__law_mixed ct__law_mixed), sl__law_mixed⟩) (co__law_mixed : PySem.W.codeIn K cd__law_mixed "_law_mixed" = true) (ke__law_mixed : PySem.W.keepIn K (.ref f__law_mixed) = true) (a__law_kind : PySem.W.nsIn K mainGlobals "_law_kind" = some (some (.ref f__law_kind))) (l__law_kind : K.lookup f__law_kind = some ⟨oc__law_kind, od__law_kind, .func (PySem.W.fnOf "_law_kind" "_law_kind" (defArgs s__law_kind) (defBody s__law_kind) (defScope s__law_kind) .none kV__law_kind dc__law_kind pm__law_kind an__law_kind cd__law_kind ct__law_kind), sl__law_kind⟩) (co__law_kind : PySem.W.codeIn K cd__law_kind "_law_kind" = true) (ke__law_kind : PySem.W.keepIn K (.ref f__law_kind) = true) (a__law_bits : PySem.W.nsIn K mainGlobals "_law_bits" = some (some (.ref f__law_bits))) (l__law_bits : K.lookup f__law_bits = some ⟨oc__law_bits, od__law_bits, .func (PySem.W.fnOf "_law_bits" "_law_bits" (defArgs s__law_bits) (defBody s__law_bits) (defScope s__law_bits) .none kV__law_bits dc__law_bits pm__law_bits an__law_bits cd__law_bits ct__law_bits), sl__law_bits⟩) (co__law_bits : PySem.W.codeIn K cd__law_bits "_law_bits" = true) (ke__law_bits : PySem.W.keepIn K (.ref f__law_bits) = true) (a__law_is_table : PySem.W.nsIn K mainGlobals "_law_is_table" = some (some (.ref f__law_is_table))) (l__law_is_table : K.lookup f__law_is_table = some ⟨oc__law_is_table, od__law_is_table, .func (PySem.W.fnOf "_law_is_table" "_law_is_table" (defArgs s__law_is_table) (defBody s__law_is_table) (defScope s__law_is_table) .none kV__law_is_table dc__law_is_table pm__law_is_table an__law_is_table cd__law_is_table ct__law_is_table), sl__law_is_table⟩) (co__law_is_table : PySem.W.codeIn K cd__law_is_table "_law_is_table" = true) (ke__law_is_table : PySem.W.keepIn K (.ref f__law_is_table) = true) (a__law_turned : PySem.W.nsIn K mainGlobals "_law_turned" = some (some (.ref f__law_turned))) (l__law_turned : K.lookup f__law_turned = some ⟨oc__law_turned, od__law_turned, .func (PySem.W.fnOf "_law_turned" "_law_turned" (defArgs s__law_turned) (defBody s__law_turned) (defScope s__law_turned) .none kV__law_turned dc__law_turned pm__law_turned an__law_turned cd__law_turned ct__law_turned), sl__law_turned⟩) (co__law_turned : PySem.W.codeIn K cd__law_turned "_law_turned" = true) (ke__law_turned : PySem.W.keepIn K (.ref f__law_turned) = true) (a__law_behind : PySem.W.nsIn K mainGlobals "_law_behind" = some (some (.ref f__law_behind))) (l__law_behind : K.lookup f__law_behind = some ⟨oc__law_behind, od__law_behind, .func (PySem.W.fnOf "_law_behind" "_law_behind" (defArgs s__law_behind) (defBody s__law_behind) (defScope s__law_behind) .none kV__law_behind dc__law_behind pm__law_behind an__law_behind cd__law_behind ct__law_behind), sl__law_behind⟩) (co__law_behind : PySem.W.codeIn K cd__law_behind "_law_behind" = true) (ke__law_behind : PySem.W.keepIn K (.ref f__law_behind) = true) (a__law_caught : PySem.W.nsIn K mainGlobals "_law_caught" = some (some (.ref f__law_caught))) (l__law_caught : K.lookup f__law_caught = some ⟨oc__law_caught, od__law_caught, .func (PySem.W.fnOf "_law_caught" "_law_caught" (defArgs s__law_caught) (defBody s__law_caught) (defScope s__law_caught) .none kV__law_caught dc__law_caught pm__law_caught an__law_caught cd__law_caught ct__law_caught), sl__law_caught⟩) (co__law_caught : PySem.W.codeIn K cd__law_caught "_law_caught" = true) (ke__law_caught : PySem.W.keepIn K (.ref f__law_caught) = true) (a__law_made : PySem.W.nsIn K mainGlobals "_law_made" = some (some (.ref f__law_made))) (l__law_made : K.lookup f__law_made = some ⟨oc__law_made, od__law_made, .func (PySem.W.fnOf "_law_made" "_law_made" (defArgs s__law_made) (defBody s__law_made) (defScope s__law_made) .none kV__law_made dc__law_made pm__law_made an__law_made cd__law_made ct__law_made), sl__law_made⟩) (co__law_made : PySem.W.codeIn K cd__law_made "_law_made" = true) (ke__law_made : PySem.W.keepIn K (.ref f__law_made) = true) (a__law_seen : PySem.W.nsIn K mainGlobals "_law_seen" = some (some (.ref f__law_seen))) (l__law_seen : K.lookup f__law_seen = some ⟨oc__law_seen, od__law_seen, .func (PySem.W.fnOf "_law_seen" "_law_seen" (defArgs s__law_seen) (defBody s__law_seen) (defScope s__law_seen) .none kV__law_seen dc__law_seen pm__law_seen an__law_seen cd__law_seen ct__law_seen), sl__law_seen⟩) (co__law_seen : PySem.W.codeIn K cd__law_seen "_law_seen" = true) (ke__law_seen : PySem.W.keepIn K (.ref f__law_seen) = true) (a__law_wrong : PySem.W.nsIn K mainGlobals "_law_wrong" = some (some (.ref f__law_wrong))) (l__law_wrong : K.lookup f__law_wrong = some ⟨oc__law_wrong, od__law_wrong, .func (PySem.W.fnOf "_law_wrong" "_law_wrong" (defArgs s__law_wrong) (defBody s__law_wrong) (defScope s__law_wrong) .none kV__law_wrong dc__law_wrong pm__law_wrong an__law_wrong cd__law_wrong ct__law_wrong), sl__law_wrong⟩) (co__law_wrong : PySem.W.codeIn K cd__law_wrong "_law_wrong" = true) (ke__law_wrong : PySem.W.keepIn K (.ref f__law_wrong) = true) (a__law_deed : PySem.W.nsIn K mainGlobals "_law_deed" = some (some (.ref f__law_deed))) (l__law_deed : K.lookup f__law_deed = some ⟨oc__law_deed, od__law_deed, .func (PySem.W.fnOf "_law_deed" "_law_deed" (defArgs s__law_deed) (defBody s__law_deed) (defScope s__law_deed) .none kV__law_deed dc__law_deed pm__law_deed an__law_deed cd__law_deed ct__law_deed), sl__law_deed⟩) (co__law_deed : PySem.W.codeIn K cd__law_deed "_law_deed" = true) (ke__law_deed : PySem.W.keepIn K (.ref f__law_deed) = true) (a_law : PySem.W.nsIn K mainGlobals "law" = some (some (.ref f_law))) (l_law : K.lookup f_law = some ⟨oc_law, od_law, .func (PySem.W.fnOf "law" "law" (defArgs s_law) (defBody s_law) (defScope s_law) .none kV_law dc_law pm_law an_law cd_law ct_law), sl_law⟩) (co_law : PySem.W.codeIn K cd_law "law" = true) (ke_law : PySem.W.keepIn K (.ref f_law) = true) (a___init__ : PySem.W.findIn K (.ref E_Book) "__init__" = some (some (.ref f___init__))) (fn___init__ : PySem.W.isFn K (.ref f___init__) = true) (l___init__ : K.lookup f___init__ = some ⟨oc___init__, od___init__, .func (PySem.W.fnOf "__init__" "Book.__init__" (defArgs s___init__) (defBody s___init__) (defScope s___init__) .none kV___init__ dc___init__ pm___init__ an___init__ cd___init__ ct___init__), sl___init__⟩) (co___init__ : PySem.W.codeIn K cd___init__ "Book.__init__" = true) (ke___init__ : PySem.W.keepIn K (.ref f___init__) = true) :
    LamX.LawAtS l w K CX0 9 63 "_law_script" mg fa h := by
  have e := hfa.symm.trans (PySem.W.mg_of X G a_law)
  cases e
  have FU_is_whole := fun_mk (st := s_is_whole) l_is_whole co_is_whole ke_is_whole
  have FU_is_whole_below := fun_mk (st := s_is_whole_below) l_is_whole_below co_is_whole_below ke_is_whole_below
  have FU_is_table_length := fun_mk (st := s_is_table_length) l_is_table_length co_is_table_length ke_is_table_length
  have FU_check_count := fun_mk (st := s_check_count) l_check_count co_check_count ke_check_count
  have FU_check_set := fun_mk (st := s_check_set) l_check_set co_check_set ke_check_set
  have FU_check_name := fun_mk (st := s_check_name) l_check_name co_check_name ke_check_name
  have FU_check_order := fun_mk (st := s_check_order) l_check_order co_check_order ke_check_order
  have FU_check_number := fun_mk (st := s_check_number) l_check_number co_check_number ke_check_number
  have FU_check_table := fun_mk (st := s_check_table) l_check_table co_check_table ke_check_table
  have FU_names_of := fun_mk (st := s_names_of) l_names_of co_names_of ke_names_of
  have FU_blank := fun_mk (st := s_blank) l_blank co_blank ke_blank
  have FU_reordered := fun_mk (st := s_reordered) l_reordered co_reordered ke_reordered
  have FU_parts := fun_mk (st := s_parts) l_parts co_parts ke_parts
  have FU_put := fun_mk (st := s_put) l_put co_put ke_put
  have FU_swap := fun_mk (st := s_swap) l_swap co_swap ke_swap
  have FU_undo := fun_mk (st := s_undo) l_undo co_undo ke_undo
  have FU_value := fun_mk (st := s_value) l_value co_value ke_value
  have FU_under := fun_mk (st := s_under) l_under co_under ke_under
  have FU_over := fun_mk (st := s_over) l_over co_over ke_over
  have FU_table := fun_mk (st := s_table) l_table co_table ke_table
  have FU_many_done := fun_mk (st := s_many_done) l_many_done co_many_done ke_many_done
  have FU__exchange := fun_mk (st := s__exchange) l__exchange co__exchange ke__exchange
  have FU__law_cell := fun_mk (st := s__law_cell) l__law_cell co__law_cell ke__law_cell
  have FU__law_mixed := fun_mk (st := s__law_mixed) l__law_mixed co__law_mixed ke__law_mixed
  have FU__law_kind := fun_mk (st := s__law_kind) l__law_kind co__law_kind ke__law_kind
  have FU__law_bits := fun_mk (st := s__law_bits) l__law_bits co__law_bits ke__law_bits
  have FU__law_is_table := fun_mk (st := s__law_is_table) l__law_is_table co__law_is_table ke__law_is_table
  have FU__law_turned := fun_mk (st := s__law_turned) l__law_turned co__law_turned ke__law_turned
  have FU__law_behind := fun_mk (st := s__law_behind) l__law_behind co__law_behind ke__law_behind
  have FU__law_caught := fun_mk (st := s__law_caught) l__law_caught co__law_caught ke__law_caught
  have FU__law_made := fun_mk (st := s__law_made) l__law_made co__law_made ke__law_made
  have FU__law_seen := fun_mk (st := s__law_seen) l__law_seen co__law_seen ke__law_seen
  have FU__law_wrong := fun_mk (st := s__law_wrong) l__law_wrong co__law_wrong ke__law_wrong
  have FU__law_deed := fun_mk (st := s__law_deed) l__law_deed co__law_deed ke__law_deed
  have FU_law := fun_mk (st := s_law) l_law co_law ke_law
  have FU___init__ := fun_mk (st := s___init__) l___init__ co___init__ ke___init__
  have xc_BadCount : ExcC K E_BadCount := ⟨ga_BadCount, gt_BadCount, sb_BadCount, hd_BadCount, hc_BadCount, sp_, tk_, ho_BadCount⟩
  have xc_BadSet : ExcC K E_BadSet := ⟨ga_BadSet, gt_BadSet, sb_BadSet, hd_BadSet, hc_BadSet, sp_, tk_, ho_BadSet⟩
  have xc_BadName : ExcC K E_BadName := ⟨ga_BadName, gt_BadName, sb_BadName, hd_BadName, hc_BadName, sp_, tk_, ho_BadName⟩
  have xc_BadNumber : ExcC K E_BadNumber := ⟨ga_BadNumber, gt_BadNumber, sb_BadNumber, hd_BadNumber, hc_BadNumber, sp_, tk_, ho_BadNumber⟩
  have xc_BadOrder : ExcC K E_BadOrder := ⟨ga_BadOrder, gt_BadOrder, sb_BadOrder, hd_BadOrder, hc_BadOrder, sp_, tk_, ho_BadOrder⟩
  have xc_BadTable : ExcC K E_BadTable := ⟨ga_BadTable, gt_BadTable, sb_BadTable, hd_BadTable, hc_BadTable, sp_, tk_, ho_BadTable⟩
  have xc_NothingDone : ExcC K E_NothingDone := ⟨ga_NothingDone, gt_NothingDone, sb_NothingDone, hd_NothingDone, hc_NothingDone, sp_, tk_, ho_NothingDone⟩
  let A : Nat → Addr := fun n => if n % 2 = 1 then (if n = 2003 then E_Book else 0) else if n = 2 then E_BadSet else if n = 4 then E_BadName else if n = 6 then E_BadNumber else if n = 8 then E_BadOrder else if n = 10 then E_BadTable else if n = 16 then E_NothingDone else E_BadCount
  have eA_BadCount : A (2 * 0) = E_BadCount := rfl
  have eA_BadSet : A (2 * 1) = E_BadSet := rfl
  have eA_BadName : A (2 * 2) = E_BadName := rfl
  have eA_BadNumber : A (2 * 3) = E_BadNumber := rfl
  have eA_BadOrder : A (2 * 4) = E_BadOrder := rfl
  have eA_BadTable : A (2 * 5) = E_BadTable := rfl
  have eA_NothingDone : A (2 * 8) = E_NothingDone := rfl
  have e_BadCount : ErrOk K mg A 0 "BadCount" := ⟨PySem.W.mg_of X G g_BadCount, q_BadCount, kp_BadCount, sb_BadCount, ty_BadCount⟩
  have e_BadSet : ErrOk K mg A 1 "BadSet" := ⟨PySem.W.mg_of X G g_BadSet, q_BadSet, kp_BadSet, sb_BadSet, ty_BadSet⟩
  have e_BadName : ErrOk K mg A 2 "BadName" := ⟨PySem.W.mg_of X G g_BadName, q_BadName, kp_BadName, sb_BadName, ty_BadName⟩
  have e_BadNumber : ErrOk K mg A 3 "BadNumber" := ⟨PySem.W.mg_of X G g_BadNumber, q_BadNumber, kp_BadNumber, sb_BadNumber, ty_BadNumber⟩
  have e_BadOrder : ErrOk K mg A 4 "BadOrder" := ⟨PySem.W.mg_of X G g_BadOrder, q_BadOrder, kp_BadOrder, sb_BadOrder, ty_BadOrder⟩
  have e_BadTable : ErrOk K mg A 5 "BadTable" := ⟨PySem.W.mg_of X G g_BadTable, q_BadTable, kp_BadTable, sb_BadTable, ty_BadTable⟩
  have e_NothingDone : ErrOk K mg A 8 "NothingDone" := ⟨PySem.W.mg_of X G g_NothingDone, q_NothingDone, kp_NothingDone, sb_NothingDone, ty_NothingDone⟩
  have i_BadCount : IsOk K mg A (tabC raised 0) "BadCount" := isok_of (PySem.W.mg_of X G g_BadCount) fun n hn => by
    simp only [raised, List.mem_cons, List.not_mem_nil, or_false] at hn
    rcases hn with rfl | rfl | rfl | rfl | rfl | rfl | rfl
    · exact ⟨xc_BadCount, it_BadCount_BadCount⟩
    · exact ⟨xc_BadSet, it_BadSet_BadCount⟩
    · exact ⟨xc_BadName, it_BadName_BadCount⟩
    · exact ⟨xc_BadNumber, it_BadNumber_BadCount⟩
    · exact ⟨xc_BadOrder, it_BadOrder_BadCount⟩
    · exact ⟨xc_BadTable, it_BadTable_BadCount⟩
    · exact ⟨xc_NothingDone, it_NothingDone_BadCount⟩
  have i_BadName : IsOk K mg A (tabC raised 2) "BadName" := isok_of (PySem.W.mg_of X G g_BadName) fun n hn => by
    simp only [raised, List.mem_cons, List.not_mem_nil, or_false] at hn
    rcases hn with rfl | rfl | rfl | rfl | rfl | rfl | rfl
    · exact ⟨xc_BadCount, it_BadCount_BadName⟩
    · exact ⟨xc_BadSet, it_BadSet_BadName⟩
    · exact ⟨xc_BadName, it_BadName_BadName⟩
    · exact ⟨xc_BadNumber, it_BadNumber_BadName⟩
    · exact ⟨xc_BadOrder, it_BadOrder_BadName⟩
    · exact ⟨xc_BadTable, it_BadTable_BadName⟩
    · exact ⟨xc_NothingDone, it_NothingDone_BadName⟩
  have i_BadNumber : IsOk K mg A (tabC raised 3) "BadNumber" := isok_of (PySem.W.mg_of X G g_BadNumber) fun n hn => by
    simp only [raised, List.mem_cons, List.not_mem_nil, or_false] at hn
    rcases hn with rfl | rfl | rfl | rfl | rfl | rfl | rfl
    · exact ⟨xc_BadCount, it_BadCount_BadNumber⟩
    · exact ⟨xc_BadSet, it_BadSet_BadNumber⟩
    · exact ⟨xc_BadName, it_BadName_BadNumber⟩
    · exact ⟨xc_BadNumber, it_BadNumber_BadNumber⟩
    · exact ⟨xc_BadOrder, it_BadOrder_BadNumber⟩
    · exact ⟨xc_BadTable, it_BadTable_BadNumber⟩
    · exact ⟨xc_NothingDone, it_NothingDone_BadNumber⟩
  have i_BadOrder : IsOk K mg A (tabC raised 4) "BadOrder" := isok_of (PySem.W.mg_of X G g_BadOrder) fun n hn => by
    simp only [raised, List.mem_cons, List.not_mem_nil, or_false] at hn
    rcases hn with rfl | rfl | rfl | rfl | rfl | rfl | rfl
    · exact ⟨xc_BadCount, it_BadCount_BadOrder⟩
    · exact ⟨xc_BadSet, it_BadSet_BadOrder⟩
    · exact ⟨xc_BadName, it_BadName_BadOrder⟩
    · exact ⟨xc_BadNumber, it_BadNumber_BadOrder⟩
    · exact ⟨xc_BadOrder, it_BadOrder_BadOrder⟩
    · exact ⟨xc_BadTable, it_BadTable_BadOrder⟩
    · exact ⟨xc_NothingDone, it_NothingDone_BadOrder⟩
  have i_BadSet : IsOk K mg A (tabC raised 1) "BadSet" := isok_of (PySem.W.mg_of X G g_BadSet) fun n hn => by
    simp only [raised, List.mem_cons, List.not_mem_nil, or_false] at hn
    rcases hn with rfl | rfl | rfl | rfl | rfl | rfl | rfl
    · exact ⟨xc_BadCount, it_BadCount_BadSet⟩
    · exact ⟨xc_BadSet, it_BadSet_BadSet⟩
    · exact ⟨xc_BadName, it_BadName_BadSet⟩
    · exact ⟨xc_BadNumber, it_BadNumber_BadSet⟩
    · exact ⟨xc_BadOrder, it_BadOrder_BadSet⟩
    · exact ⟨xc_BadTable, it_BadTable_BadSet⟩
    · exact ⟨xc_NothingDone, it_NothingDone_BadSet⟩
  have i_BadTable : IsOk K mg A (tabC raised 5) "BadTable" := isok_of (PySem.W.mg_of X G g_BadTable) fun n hn => by
    simp only [raised, List.mem_cons, List.not_mem_nil, or_false] at hn
    rcases hn with rfl | rfl | rfl | rfl | rfl | rfl | rfl
    · exact ⟨xc_BadCount, it_BadCount_BadTable⟩
    · exact ⟨xc_BadSet, it_BadSet_BadTable⟩
    · exact ⟨xc_BadName, it_BadName_BadTable⟩
    · exact ⟨xc_BadNumber, it_BadNumber_BadTable⟩
    · exact ⟨xc_BadOrder, it_BadOrder_BadTable⟩
    · exact ⟨xc_BadTable, it_BadTable_BadTable⟩
    · exact ⟨xc_NothingDone, it_NothingDone_BadTable⟩
  have i_NoCover : IsOk K mg A (tabC raised 7) "NoCover" := isok_of (PySem.W.mg_of X G g_NoCover) fun n hn => by
    simp only [raised, List.mem_cons, List.not_mem_nil, or_false] at hn
    rcases hn with rfl | rfl | rfl | rfl | rfl | rfl | rfl
    · exact ⟨xc_BadCount, it_BadCount_NoCover⟩
    · exact ⟨xc_BadSet, it_BadSet_NoCover⟩
    · exact ⟨xc_BadName, it_BadName_NoCover⟩
    · exact ⟨xc_BadNumber, it_BadNumber_NoCover⟩
    · exact ⟨xc_BadOrder, it_BadOrder_NoCover⟩
    · exact ⟨xc_BadTable, it_BadTable_NoCover⟩
    · exact ⟨xc_NothingDone, it_NothingDone_NoCover⟩
  have i_NothingDone : IsOk K mg A (tabC raised 8) "NothingDone" := isok_of (PySem.W.mg_of X G g_NothingDone) fun n hn => by
    simp only [raised, List.mem_cons, List.not_mem_nil, or_false] at hn
    rcases hn with rfl | rfl | rfl | rfl | rfl | rfl | rfl
    · exact ⟨xc_BadCount, it_BadCount_NothingDone⟩
    · exact ⟨xc_BadSet, it_BadSet_NothingDone⟩
    · exact ⟨xc_BadName, it_BadName_NothingDone⟩
    · exact ⟨xc_BadNumber, it_BadNumber_NothingDone⟩
    · exact ⟨xc_BadOrder, it_BadOrder_NothingDone⟩
    · exact ⟨xc_BadTable, it_BadTable_NothingDone⟩
    · exact ⟨xc_NothingDone, it_NothingDone_NothingDone⟩
  have i_Unlike : IsOk K mg A (tabC raised 6) "Unlike" := isok_of (PySem.W.mg_of X G g_Unlike) fun n hn => by
    simp only [raised, List.mem_cons, List.not_mem_nil, or_false] at hn
    rcases hn with rfl | rfl | rfl | rfl | rfl | rfl | rfl
    · exact ⟨xc_BadCount, it_BadCount_Unlike⟩
    · exact ⟨xc_BadSet, it_BadSet_Unlike⟩
    · exact ⟨xc_BadName, it_BadName_Unlike⟩
    · exact ⟨xc_BadNumber, it_BadNumber_Unlike⟩
    · exact ⟨xc_BadOrder, it_BadOrder_Unlike⟩
    · exact ⟨xc_BadTable, it_BadTable_Unlike⟩
    · exact ⟨xc_NothingDone, it_NothingDone_Unlike⟩
  have v_ValueError : IsTyOk K A (tabV raised) "ValueError" := istyok_of fun n hn => by
    simp only [raised, List.mem_cons, List.not_mem_nil, or_false] at hn
    rcases hn with rfl | rfl | rfl | rfl | rfl | rfl | rfl
    · exact ⟨xc_BadCount, iv_BadCount⟩
    · exact ⟨xc_BadSet, iv_BadSet⟩
    · exact ⟨xc_BadName, iv_BadName⟩
    · exact ⟨xc_BadNumber, iv_BadNumber⟩
    · exact ⟨xc_BadOrder, iv_BadOrder⟩
    · exact ⟨xc_BadTable, iv_BadTable⟩
    · exact ⟨xc_NothingDone, iv_NothingDone⟩
  have hm : ∀ m, PySem.W.exmOne K (.ref (A (2 * m))) (.ref E_SetError) = some true := fun m => by
    have od : ¬ (2 * m % 2 = 1) := by omega
    show PySem.W.exmOne K (.ref (if 2 * m % 2 = 1 then (if 2 * m = 2003 then E_Book else 0) else if 2 * m = 2 then E_BadSet else if 2 * m = 4 then E_BadName else if 2 * m = 6 then E_BadNumber else if 2 * m = 8 then E_BadOrder else if 2 * m = 10 then E_BadTable else if 2 * m = 16 then E_NothingDone else E_BadCount)) (.ref E_SetError) = some true
    rw [if_neg od]
    repeat' split
    all_goals first | exact xs_BadCount | exact xs_BadSet | exact xs_BadName | exact xs_BadNumber | exact xs_BadOrder | exact xs_BadTable | exact xs_NothingDone
  have cB : Cls K (A (2 * 1001 + 1)) := ⟨cb1, cb2, cb3, cb4⟩
  have n__numbers : NoAttr K (A (2 * 1001 + 1)) "_numbers" := na__numbers
  have n__many : NoAttr K (A (2 * 1001 + 1)) "_many" := na__many
  have n__done : NoAttr K (A (2 * 1001 + 1)) "_done" := na__done
  have k_MOST_NAMES : ∃ t, mg "MOST_NAMES" = some (.int 10 t) := ⟨_, PySem.W.mg_of X G n_MOST_NAMES⟩
  have k_PUT : ∃ t, mg "PUT" = some (.int 0 t) := ⟨_, PySem.W.mg_of X G n_PUT⟩
  have k_SWAP : ∃ t, mg "SWAP" = some (.int 1 t) := ⟨_, PySem.W.mg_of X G n_SWAP⟩
  have m_bool : mg "bool" = none := PySem.W.mg_none_of X G z_bool
  have m_int : mg "int" = none := PySem.W.mg_none_of X G z_int
  have m_isinstance : mg "isinstance" = none := PySem.W.mg_none_of X G z_isinstance
  have m_len : mg "len" = none := PySem.W.mg_none_of X G z_len
  have m_list : mg "list" = none := PySem.W.mg_none_of X G z_list
  have m_range : mg "range" = none := PySem.W.mg_none_of X G z_range
  have m_sorted : mg "sorted" = none := PySem.W.mg_none_of X G z_sorted
  have m_sum : mg "sum" = none := PySem.W.mg_none_of X G z_sum
  have m_enumerate : mg "enumerate" = none := PySem.W.mg_none_of X G z_enumerate
  have m_max : mg "max" = none := PySem.W.mg_none_of X G z_max
  have m_ValueError : mg "ValueError" = none := PySem.W.mg_none_of X G z_ValueError
  have m_all : mg "all" = none := PySem.W.mg_none_of X G z_all
  have m_min : mg "min" = none := PySem.W.mg_none_of X G z_min
  refine ⟨PySem.W.fnOf "law" "law" (defArgs s_law) (defBody s_law) (defScope s_law) .none kV_law dc_law pm_law an_law cd_law ct_law, [], spTop K [], (fun p hp => absurd hp List.not_mem_nil), (fun p hp => absurd hp List.not_mem_nil), (fun p hp => absurd hp List.not_mem_nil), fun s v => .of_eq rfl, fun H a ns hl _ hT hS => ⟨a, ns, rfl, hS, hl, hT, fun _ => rfl⟩, fun base _ _ hB => ?_⟩
  have B_is_whole : Binds K _ ["thing"] [] := FU_is_whole.binds (ps := ["thing"]) fun _ _ _ _ _ _ us hl => match us, hl with | [_], _ => rfl
  have c_is_whole : Cl l.prog w K mg base A "is_whole" 1 F_is_whole := ⟨⟨_, _, _, (ok_is_whole FU_is_whole m_bool m_int m_isinstance), PySem.W.mg_of X G a_is_whole, ke_is_whole, B_is_whole⟩⟩
  have B_is_table_length : Binds K _ ["length"] [] := FU_is_table_length.binds (ps := ["length"]) fun _ _ _ _ _ _ us hl => match us, hl with | [_], _ => rfl
  have c_is_table_length : Cl l.prog w K mg base A "is_table_length" 1 F_is_table_length := ⟨⟨_, _, _, (ok_is_table_length FU_is_table_length k_MOST_NAMES), PySem.W.mg_of X G a_is_table_length, ke_is_table_length, B_is_table_length⟩⟩
  have B_table : Binds K _ ["self"] [] := FU_table.binds (ps := ["self"]) fun _ _ _ _ _ _ us hl => match us, hl with | [_], _ => rfl
  have mt_table : MtOk l.prog w K mg base (A (2 * 1001 + 1)) "table" 1 (spD (gd K A) F_table) := ⟨⟨_, _, _, ⟨a_table, fn_table, ke_table⟩, (ok_table FU_table cB n__numbers m_list), B_table⟩⟩
  have B_many_done : Binds K _ ["self"] [] := FU_many_done.binds (ps := ["self"]) fun _ _ _ _ _ _ us hl => match us, hl with | [_], _ => rfl
  have mt_many_done : MtOk l.prog w K mg base (A (2 * 1001 + 1)) "many_done" 1 (spD (gd K A) F_many_done) := ⟨⟨_, _, _, ⟨a_many_done, fn_many_done, ke_many_done⟩, (ok_many_done FU_many_done cB n__done m_len), B_many_done⟩⟩
  have B__law_cell : Binds K _ ["_law_script", "_law_k"] [] := FU__law_cell.binds (ps := ["_law_script", "_law_k"]) fun _ _ _ _ _ _ us hl => match us, hl with | [_, _], _ => rfl
  have c__law_cell : Cl l.prog w K mg base A "_law_cell" 1 F__law_cell := ⟨⟨_, _, _, (ok__law_cell FU__law_cell), PySem.W.mg_of X G a__law_cell, ke__law_cell, B__law_cell⟩⟩
  have B__law_kind : Binds K _ ["_law_caught_here"] [] := FU__law_kind.binds (ps := ["_law_caught_here"]) fun _ _ _ _ _ _ us hl => match us, hl with | [_], _ => rfl
  have c__law_kind : Cl l.prog w K mg base A "_law_kind" 1 F__law_kind := ⟨⟨_, _, _, (ok__law_kind FU__law_kind m_ValueError m_isinstance i_BadCount i_BadName i_BadNumber i_BadOrder i_BadSet i_BadTable i_NoCover i_NothingDone i_Unlike v_ValueError), PySem.W.mg_of X G a__law_kind, ke__law_kind, B__law_kind⟩⟩
  have B__law_bits : Binds K _ ["_law_one"] [] := FU__law_bits.binds (ps := ["_law_one"]) fun _ _ _ _ _ _ us hl => match us, hl with | [_], _ => rfl
  have c__law_bits : Cl l.prog w K mg base A "_law_bits" 1 F__law_bits := ⟨⟨_, _, _, (ok__law_bits FU__law_bits), PySem.W.mg_of X G a__law_bits, ke__law_bits, B__law_bits⟩⟩
  have B__law_is_table : Binds K _ ["_law_found", "_law_due"] [] := FU__law_is_table.binds (ps := ["_law_found", "_law_due"]) fun _ _ _ _ _ _ us hl => match us, hl with | [_, _], _ => rfl
  have c__law_is_table : Cl l.prog w K mg base A "_law_is_table" 1 F__law_is_table := ⟨⟨_, _, _, (ok__law_is_table FU__law_is_table m_all m_bool m_int m_isinstance m_list), PySem.W.mg_of X G a__law_is_table, ke__law_is_table, B__law_is_table⟩⟩
  have B__law_wrong : Binds K _ ["_law_many", "_law_number"] [] := FU__law_wrong.binds (ps := ["_law_many", "_law_number"]) fun _ _ _ _ _ _ us hl => match us, hl with | [_, _], _ => rfl
  have c__law_wrong : Cl l.prog w K mg base A "_law_wrong" 1 F__law_wrong := ⟨⟨_, _, _, (ok__law_wrong FU__law_wrong), PySem.W.mg_of X G a__law_wrong, ke__law_wrong, B__law_wrong⟩⟩
  have B_is_whole_below : Binds K _ ["thing", "end"] [] := FU_is_whole_below.binds (ps := ["thing", "end"]) fun _ _ _ _ _ _ us hl => match us, hl with | [_, _], _ => rfl
  have c_is_whole_below : Cl l.prog w K mg base A "is_whole_below" 2 F_is_whole_below := ⟨⟨_, _, _, (ok_is_whole_below FU_is_whole_below c_is_whole), PySem.W.mg_of X G a_is_whole_below, ke_is_whole_below, B_is_whole_below⟩⟩
  have B_check_number : Binds K _ ["number"] [] := FU_check_number.binds (ps := ["number"]) fun _ _ _ _ _ _ us hl => match us, hl with | [_], _ => rfl
  have c_check_number : Cl l.prog w K mg base A "check_number" 2 F_check_number := ⟨⟨_, _, _, (ok_check_number FU_check_number c_is_whole e_BadNumber), PySem.W.mg_of X G a_check_number, ke_check_number, B_check_number⟩⟩
  have B_check_table : Binds K _ ["table"] [] := FU_check_table.binds (ps := ["table"]) fun _ _ _ _ _ _ us hl => match us, hl with | [_], _ => rfl
  have c_check_table : Cl l.prog w K mg base A "check_table" 2 F_check_table := ⟨⟨_, _, _, (ok_check_table FU_check_table c_is_table_length c_is_whole m_isinstance m_len m_list e_BadTable), PySem.W.mg_of X G a_check_table, ke_check_table, B_check_table⟩⟩
  have B__law_mixed : Binds K _ ["_law_script", "_law_k"] [] := FU__law_mixed.binds (ps := ["_law_script", "_law_k"]) fun _ _ _ _ _ _ us hl => match us, hl with | [_, _], _ => rfl
  have c__law_mixed : Cl l.prog w K mg base A "_law_mixed" 2 F__law_mixed := ⟨⟨_, _, _, (ok__law_mixed FU__law_mixed c__law_cell m_len m_max), PySem.W.mg_of X G a__law_mixed, ke__law_mixed, B__law_mixed⟩⟩
  have B__law_turned : Binds K _ ["_law_one", "_law_name", "_law_other"] [] := FU__law_turned.binds (ps := ["_law_one", "_law_name", "_law_other"]) fun _ _ _ _ _ _ us hl => match us, hl with | [_, _, _], _ => rfl
  have c__law_turned : Cl l.prog w K mg base A "_law_turned" 2 F__law_turned := ⟨⟨_, _, _, (ok__law_turned FU__law_turned c__law_bits m_int m_sum), PySem.W.mg_of X G a__law_turned, ke__law_turned, B__law_turned⟩⟩
  have B_check_count : Binds K _ ["many"] [] := FU_check_count.binds (ps := ["many"]) fun _ _ _ _ _ _ us hl => match us, hl with | [_], _ => rfl
  have c_check_count : Cl l.prog w K mg base A "check_count" 3 F_check_count := ⟨⟨_, _, _, (ok_check_count FU_check_count c_is_whole_below k_MOST_NAMES e_BadCount), PySem.W.mg_of X G a_check_count, ke_check_count, B_check_count⟩⟩
  have B_check_set : Binds K _ ["one", "many"] [] := FU_check_set.binds (ps := ["one", "many"]) fun _ _ _ _ _ _ us hl => match us, hl with | [_, _], _ => rfl
  have c_check_set : Cl l.prog w K mg base A "check_set" 3 F_check_set := ⟨⟨_, _, _, (ok_check_set FU_check_set c_is_whole_below e_BadSet), PySem.W.mg_of X G a_check_set, ke_check_set, B_check_set⟩⟩
  have B_check_name : Binds K _ ["name", "many"] [] := FU_check_name.binds (ps := ["name", "many"]) fun _ _ _ _ _ _ us hl => match us, hl with | [_, _], _ => rfl
  have c_check_name : Cl l.prog w K mg base A "check_name" 3 F_check_name := ⟨⟨_, _, _, (ok_check_name FU_check_name c_is_whole_below e_BadName), PySem.W.mg_of X G a_check_name, ke_check_name, B_check_name⟩⟩
  have B_check_order : Binds K _ ["order", "many"] [] := FU_check_order.binds (ps := ["order", "many"]) fun _ _ _ _ _ _ us hl => match us, hl with | [_, _], _ => rfl
  have c_check_order : Cl l.prog w K mg base A "check_order" 3 F_check_order := ⟨⟨_, _, _, (ok_check_order FU_check_order c_is_whole_below m_isinstance m_len m_list m_range m_sorted e_BadOrder), PySem.W.mg_of X G a_check_order, ke_check_order, B_check_order⟩⟩
  have B_names_of : Binds K _ ["table"] [] := FU_names_of.binds (ps := ["table"]) fun _ _ _ _ _ _ us hl => match us, hl with | [_], _ => rfl
  have c_names_of : Cl l.prog w K mg base A "names_of" 3 F_names_of := ⟨⟨_, _, _, (ok_names_of FU_names_of c_check_table m_len), PySem.W.mg_of X G a_names_of, ke_names_of, B_names_of⟩⟩
  have B__law_behind : Binds K _ ["_law_numbers", "_law_word", "_law_one", "_law_other"] [] := FU__law_behind.binds (ps := ["_law_numbers", "_law_word", "_law_one", "_law_other"]) fun _ _ _ _ _ _ us hl => match us, hl with | [_, _, _, _], _ => rfl
  have c__law_behind : Cl l.prog w K mg base A "_law_behind" 3 F__law_behind := ⟨⟨_, _, _, (ok__law_behind FU__law_behind c__law_turned m_len m_list m_range), PySem.W.mg_of X G a__law_behind, ke__law_behind, B__law_behind⟩⟩
  have B_blank : Binds K _ ["many"] [] := FU_blank.binds (ps := ["many"]) fun _ _ _ _ _ _ us hl => match us, hl with | [_], _ => rfl
  have c_blank : Cl l.prog w K mg base A "blank" 4 F_blank := ⟨⟨_, _, _, (ok_blank FU_blank c_check_count), PySem.W.mg_of X G a_blank, ke_blank, B_blank⟩⟩
  have B_reordered : Binds K _ ["table", "order"] [] := FU_reordered.binds (ps := ["table", "order"]) fun _ _ _ _ _ _ us hl => match us, hl with | [_, _], _ => rfl
  have c_reordered : Cl l.prog w K mg base A "reordered" 4 F_reordered := ⟨⟨_, _, _, (ok_reordered FU_reordered c_check_order c_names_of), PySem.W.mg_of X G a_reordered, ke_reordered, B_reordered⟩⟩
  have B_parts : Binds K _ ["one"] [] := FU_parts.binds (ps := ["one"]) fun _ _ _ _ _ _ us hl => match us, hl with | [_], _ => rfl
  have c_parts : Cl l.prog w K mg base A "parts" 4 F_parts := ⟨⟨_, _, _, (ok_parts FU_parts c_check_set m_range k_MOST_NAMES), PySem.W.mg_of X G a_parts, ke_parts, B_parts⟩⟩
  have B_put : Binds K _ ["self", "one", "number"] [] := FU_put.binds (ps := ["self", "one", "number"]) fun _ _ _ _ _ _ us hl => match us, hl with | [_, _, _], _ => rfl
  have mm_put : MtOk l.prog w K mg base (A (2 * 1001 + 1)) "put" 4 (spM (gd K A) FM_put) := ⟨⟨_, _, _, ⟨a_put, fn_put, ke_put⟩, (okm_put FU_put c_check_number c_check_set cB n__done n__many n__numbers k_PUT), B_put⟩⟩
  have mt_put : MtOk l.prog w K mg base (A (2 * 1001 + 1)) "put" 4 (spD (gd K A) F_put) := ⟨⟨_, _, _, ⟨a_put, fn_put, ke_put⟩, (ok_put FU_put c_check_number c_check_set cB n__done n__many n__numbers k_PUT), B_put⟩⟩
  have B_value : Binds K _ ["self", "one"] [] := FU_value.binds (ps := ["self", "one"]) fun _ _ _ _ _ _ us hl => match us, hl with | [_, _], _ => rfl
  have mt_value : MtOk l.prog w K mg base (A (2 * 1001 + 1)) "value" 4 (spD (gd K A) F_value) := ⟨⟨_, _, _, ⟨a_value, fn_value, ke_value⟩, (ok_value FU_value c_check_set cB n__many n__numbers), B_value⟩⟩
  have B_over : Binds K _ ["self", "one"] [] := FU_over.binds (ps := ["self", "one"]) fun _ _ _ _ _ _ us hl => match us, hl with | [_, _], _ => rfl
  have mt_over : MtOk l.prog w K mg base (A (2 * 1001 + 1)) "over" 4 (spD (gd K A) F_over) := ⟨⟨_, _, _, ⟨a_over, fn_over, ke_over⟩, (ok_over FU_over c_check_set cB n__many n__numbers m_enumerate m_sum), B_over⟩⟩
  have B_under : Binds K _ ["self", "one"] [] := FU_under.binds (ps := ["self", "one"]) fun _ _ _ _ _ _ us hl => match us, hl with | [_, _], _ => rfl
  have mt_under : MtOk l.prog w K mg base (A (2 * 1001 + 1)) "under" 5 (spD (gd K A) F_under) := ⟨⟨_, _, _, ⟨a_under, fn_under, ke_under⟩, (ok_under FU_under c_check_set c_parts cB n__many n__numbers m_sum), B_under⟩⟩
  have B__exchange : Binds K _ ["self", "name", "other"] [] := FU__exchange.binds (ps := ["self", "name", "other"]) fun _ _ _ _ _ _ us hl => match us, hl with | [_, _, _], _ => rfl
  have mm__exchange : MtOk l.prog w K mg base (A (2 * 1001 + 1)) "_exchange" 5 (spM (gd K A) FM__exchange) := ⟨⟨_, _, _, ⟨a__exchange, fn__exchange, ke__exchange⟩, (okm__exchange FU__exchange c_reordered cB n__many n__numbers m_list m_range), B__exchange⟩⟩
  have B___init__ : Binds K _ ["self", "many"] [] := FU___init__.binds (ps := ["self", "many"]) fun _ _ _ _ _ _ us hl => match us, hl with | [_, _], _ => rfl
  have mk_Book : MkOk l.prog w K mg base (gd K A) "Book" 5 badB zsB := ⟨⟨_, _, _, PySem.W.mg_of X G g_Book, ⟨cb5, a___init__, fn___init__, cb6⟩, (ok___init__ FU___init__ c_blank cB n__numbers n__many n__done), B___init__⟩⟩
  have B_swap : Binds K _ ["self", "name", "other"] [] := FU_swap.binds (ps := ["self", "name", "other"]) fun _ _ _ _ _ _ us hl => match us, hl with | [_, _, _], _ => rfl
  have mm_swap : MtOk l.prog w K mg base (A (2 * 1001 + 1)) "swap" 6 (spM (gd K A) FM_swap) := ⟨⟨_, _, _, ⟨a_swap, fn_swap, ke_swap⟩, (okm_swap FU_swap c_check_name cB n__done n__many mm__exchange k_SWAP), B_swap⟩⟩
  have mt_swap : MtOk l.prog w K mg base (A (2 * 1001 + 1)) "swap" 6 (spD (gd K A) F_swap) := ⟨⟨_, _, _, ⟨a_swap, fn_swap, ke_swap⟩, (ok_swap FU_swap c_check_name cB n__done n__many mm__exchange k_SWAP), B_swap⟩⟩
  have B_undo : Binds K _ ["self"] [] := FU_undo.binds (ps := ["self"]) fun _ _ _ _ _ _ us hl => match us, hl with | [_], _ => rfl
  have mm_undo : MtOk l.prog w K mg base (A (2 * 1001 + 1)) "undo" 6 (spM (gd K A) FM_undo) := ⟨⟨_, _, _, ⟨a_undo, fn_undo, ke_undo⟩, (okm_undo FU_undo cB n__done n__numbers mm__exchange m_len k_PUT e_NothingDone), B_undo⟩⟩
  have mt_undo : MtOk l.prog w K mg base (A (2 * 1001 + 1)) "undo" 6 (spD (gd K A) F_undo) := ⟨⟨_, _, _, ⟨a_undo, fn_undo, ke_undo⟩, (ok_undo FU_undo cB n__done n__numbers mm__exchange m_len k_PUT e_NothingDone), B_undo⟩⟩
  have B__law_seen : Binds K _ ["_law_book", "_law_rows", "_law_number", "_law_held"] [] := FU__law_seen.binds (ps := ["_law_book", "_law_rows", "_law_number", "_law_held"]) fun _ _ _ _ _ _ us hl => match us, hl with | [_, _, _, _], _ => rfl
  have cm__law_seen : ClM l.prog w K mg base (gd K A) "_law_seen" 6 FM__law_seen := ⟨⟨_, _, _, (okm__law_seen FU__law_seen c__law_is_table cB mt_many_done mt_over mt_table mt_under mt_value m_len m_range m_sum), PySem.W.mg_of X G a__law_seen, ke__law_seen, B__law_seen⟩⟩
  have B__law_caught : Binds K _ ["_law_book", "_law_word", "_law_one", "_law_other"] [] := FU__law_caught.binds (ps := ["_law_book", "_law_word", "_law_one", "_law_other"]) fun _ _ _ _ _ _ us hl => match us, hl with | [_, _, _, _], _ => rfl
  have cm__law_caught : ClM l.prog w K mg base (gd K A) "_law_caught" 7 FM__law_caught := ⟨⟨_, _, _, (okm__law_caught FU__law_caught cB mt_over mt_put mt_swap mt_under mt_undo mt_value mm_put mm_swap mm_undo (PySem.W.mg_of X G g_SetError) hm), PySem.W.mg_of X G a__law_caught, ke__law_caught, B__law_caught⟩⟩
  have c__law_caught : Cl l.prog w K mg base A "_law_caught" 7 F__law_caught := ⟨⟨_, _, _, (ok__law_caught FU__law_caught cB mt_over mt_put mt_swap mt_under mt_undo mt_value mm_put mm_swap mm_undo (PySem.W.mg_of X G g_SetError) hm), PySem.W.mg_of X G a__law_caught, ke__law_caught, B__law_caught⟩⟩
  have B__law_made : Binds K _ ["_law_many"] [] := FU__law_made.binds (ps := ["_law_many"]) fun _ _ _ _ _ _ us hl => match us, hl with | [_], _ => rfl
  have c__law_made : Cl l.prog w K mg base A "_law_made" 7 F__law_made := ⟨⟨_, _, _, (ok__law_made FU__law_made mk_Book (PySem.W.mg_of X G g_SetError) hm), PySem.W.mg_of X G a__law_made, ke__law_made, B__law_made⟩⟩
  have B__law_deed : Binds K _ ["_law_book", "_law_many", "_law_rows", "_law_number", "_law_great"] [] := FU__law_deed.binds (ps := ["_law_book", "_law_many", "_law_rows", "_law_number", "_law_great"]) fun _ _ _ _ _ _ us hl => match us, hl with | [_, _, _, _, _], _ => rfl
  have cm__law_deed : ClM l.prog w K mg base (gd K A) "_law_deed" 8 FM__law_deed := ⟨⟨_, _, _, (okm__law_deed FU__law_deed c__law_behind c__law_caught c__law_kind c__law_wrong cm__law_caught m_len), PySem.W.mg_of X G a__law_deed, ke__law_deed, B__law_deed⟩⟩
  refine FnOk.imp (sp := spD (gd K A) F_law) (ok_law FU_law c__law_cell c__law_kind c__law_made c__law_mixed cm__law_deed cm__law_seen mk_Book m_len m_min m_range) fun vs H Q E hh => ?_
  obtain ⟨a, ns, rfl, hS, hl, hT, q⟩ := hh
  have tb : TabsB (gd K A) H := fun i hi => by
    match i, hi with
    | i + 0, hi => exact absurd hi (Nat.not_lt.mpr (Nat.le_add_left 0 i))
  refine ⟨H, [.scr ns], .ok (.bl true), Same.refl _, tb, .cons (.scr hS) .nil, if_pos hl, fun v B' H' st res => ?_, fun n en => (by cases en)⟩
  cases res
  exact q H'
end LX
open PySem PySem.W PyProof.Rows
set_option maxHeartbeats 0 in
theorem PySem.Challenge.cw_setsums_k13_a_book_holds : PySem.Challenge.rw_setsums_k13_a_book.Holds := by
  w_on; o_law; k_head; (case hw => w_witness2)
  k_fill
  refine DY.walk_T (l := PySem.Challenge.rw_setsums_k13_a_book) (n := 63) (k := 9) (x := "_law_script") (CX := fun _ => L2.CX0) [] rfl (by decide) rfl ⟨rfl, by decide, by decide⟩ ?T (fun w h Y => PySem.W.kIn_of Y) ?F (fun _ _ _ _ _ h => h)
  case T => decide +kernel
  case F =>
    intro w mg fa h KX G hmg TE
    refine' LX.all_mk KX G hmg TE ?g_BadCount ?g_BadSet ?g_BadName ?g_BadNumber ?g_BadOrder ?g_BadTable ?g_Unlike ?g_NoCover ?g_NothingDone ?g_SetError ?g_Book ?cb1 ?cb2 ?cb3 ?cb4 ?cb5 ?cb6 ?na__numbers ?na__many ?na__done ?q_BadCount ?kp_BadCount ?sb_BadCount ?ty_BadCount ?ga_BadCount ?gt_BadCount ?hd_BadCount ?hc_BadCount ?ho_BadCount ?it_BadCount_BadCount ?it_BadCount_BadName ?it_BadCount_BadNumber ?it_BadCount_BadOrder ?it_BadCount_BadSet ?it_BadCount_BadTable ?it_BadCount_NoCover ?it_BadCount_NothingDone ?it_BadCount_Unlike ?iv_BadCount ?xs_BadCount ?q_BadSet ?kp_BadSet ?sb_BadSet ?ty_BadSet ?ga_BadSet ?gt_BadSet ?hd_BadSet ?hc_BadSet ?ho_BadSet ?it_BadSet_BadCount ?it_BadSet_BadName ?it_BadSet_BadNumber ?it_BadSet_BadOrder ?it_BadSet_BadSet ?it_BadSet_BadTable ?it_BadSet_NoCover ?it_BadSet_NothingDone ?it_BadSet_Unlike ?iv_BadSet ?xs_BadSet ?q_BadName ?kp_BadName ?sb_BadName ?ty_BadName ?ga_BadName ?gt_BadName ?hd_BadName ?hc_BadName ?ho_BadName ?it_BadName_BadCount ?it_BadName_BadName ?it_BadName_BadNumber ?it_BadName_BadOrder ?it_BadName_BadSet ?it_BadName_BadTable ?it_BadName_NoCover ?it_BadName_NothingDone ?it_BadName_Unlike ?iv_BadName ?xs_BadName ?q_BadNumber ?kp_BadNumber ?sb_BadNumber ?ty_BadNumber ?ga_BadNumber ?gt_BadNumber ?hd_BadNumber ?hc_BadNumber ?ho_BadNumber ?it_BadNumber_BadCount ?it_BadNumber_BadName ?it_BadNumber_BadNumber ?it_BadNumber_BadOrder ?it_BadNumber_BadSet ?it_BadNumber_BadTable ?it_BadNumber_NoCover ?it_BadNumber_NothingDone ?it_BadNumber_Unlike ?iv_BadNumber ?xs_BadNumber ?q_BadOrder ?kp_BadOrder ?sb_BadOrder ?ty_BadOrder ?ga_BadOrder ?gt_BadOrder ?hd_BadOrder ?hc_BadOrder ?ho_BadOrder ?it_BadOrder_BadCount ?it_BadOrder_BadName ?it_BadOrder_BadNumber ?it_BadOrder_BadOrder ?it_BadOrder_BadSet ?it_BadOrder_BadTable ?it_BadOrder_NoCover ?it_BadOrder_NothingDone ?it_BadOrder_Unlike ?iv_BadOrder ?xs_BadOrder ?q_BadTable ?kp_BadTable ?sb_BadTable ?ty_BadTable ?ga_BadTable ?gt_BadTable ?hd_BadTable ?hc_BadTable ?ho_BadTable ?it_BadTable_BadCount ?it_BadTable_BadName ?it_BadTable_BadNumber ?it_BadTable_BadOrder ?it_BadTable_BadSet ?it_BadTable_BadTable ?it_BadTable_NoCover ?it_BadTable_NothingDone ?it_BadTable_Unlike ?iv_BadTable ?xs_BadTable ?q_NothingDone ?kp_NothingDone ?sb_NothingDone ?ty_NothingDone ?ga_NothingDone ?gt_NothingDone ?hd_NothingDone ?hc_NothingDone ?ho_NothingDone ?it_NothingDone_BadCount ?it_NothingDone_BadName ?it_NothingDone_BadNumber ?it_NothingDone_BadOrder ?it_NothingDone_BadSet ?it_NothingDone_BadTable ?it_NothingDone_NoCover ?it_NothingDone_NothingDone ?it_NothingDone_Unlike ?iv_NothingDone ?xs_NothingDone ?sp_ ?tk_ ?n_MOST_NAMES ?n_PUT ?n_SWAP ?z_bool ?z_int ?z_isinstance ?z_len ?z_list ?z_range ?z_sorted ?z_sum ?z_enumerate ?z_max ?z_ValueError ?z_all ?z_min ?a_is_whole ?l_is_whole ?co_is_whole ?ke_is_whole ?a_is_whole_below ?l_is_whole_below ?co_is_whole_below ?ke_is_whole_below ?a_is_table_length ?l_is_table_length ?co_is_table_length ?ke_is_table_length ?a_check_count ?l_check_count ?co_check_count ?ke_check_count ?a_check_set ?l_check_set ?co_check_set ?ke_check_set ?a_check_name ?l_check_name ?co_check_name ?ke_check_name ?a_check_order ?l_check_order ?co_check_order ?ke_check_order ?a_check_number ?l_check_number ?co_check_number ?ke_check_number ?a_check_table ?l_check_table ?co_check_table ?ke_check_table ?a_names_of ?l_names_of ?co_names_of ?ke_names_of ?a_blank ?l_blank ?co_blank ?ke_blank ?a_reordered ?l_reordered ?co_reordered ?ke_reordered ?a_parts ?l_parts ?co_parts ?ke_parts ?a_put ?fn_put ?l_put ?co_put ?ke_put ?a_swap ?fn_swap ?l_swap ?co_swap ?ke_swap ?a_undo ?fn_undo ?l_undo ?co_undo ?ke_undo ?a_value ?fn_value ?l_value ?co_value ?ke_value ?a_under ?fn_under ?l_under ?co_under ?ke_under ?a_over ?fn_over ?l_over ?co_over ?ke_over ?a_table ?fn_table ?l_table ?co_table ?ke_table ?a_many_done ?fn_many_done ?l_many_done ?co_many_done ?ke_many_done ?a__exchange ?fn__exchange ?l__exchange ?co__exchange ?ke__exchange ?a__law_cell ?l__law_cell ?co__law_cell ?ke__law_cell ?a__law_mixed ?l__law_mixed ?co__law_mixed ?ke__law_mixed ?a__law_kind ?l__law_kind ?co__law_kind ?ke__law_kind ?a__law_bits ?l__law_bits ?co__law_bits ?ke__law_bits ?a__law_is_table ?l__law_is_table ?co__law_is_table ?ke__law_is_table ?a__law_turned ?l__law_turned ?co__law_turned ?ke__law_turned ?a__law_behind ?l__law_behind ?co__law_behind ?ke__law_behind ?a__law_caught ?l__law_caught ?co__law_caught ?ke__law_caught ?a__law_made ?l__law_made ?co__law_made ?ke__law_made ?a__law_seen ?l__law_seen ?co__law_seen ?ke__law_seen ?a__law_wrong ?l__law_wrong ?co__law_wrong ?ke__law_wrong ?a__law_deed ?l__law_deed ?co__law_deed ?ke__law_deed ?a_law ?l_law ?co_law ?ke_law ?a___init__ ?fn___init__ ?l___init__ ?co___init__ ?ke___init__
    (case g_BadCount => first | k_is | kernel_rfl)
    (case g_BadSet => first | k_is | kernel_rfl)
    (case g_BadName => first | k_is | kernel_rfl)
    (case g_BadNumber => first | k_is | kernel_rfl)
    (case g_BadOrder => first | k_is | kernel_rfl)
    (case g_BadTable => first | k_is | kernel_rfl)
    (case g_Unlike => first | k_is | kernel_rfl)
    (case g_NoCover => first | k_is | kernel_rfl)
    (case g_NothingDone => first | k_is | kernel_rfl)
    (case g_SetError => first | k_is | kernel_rfl)
    (case g_Book => first | k_is | kernel_rfl)
    (case cb1 => first | k_is | kernel_rfl)
    (case cb2 => first | k_is | kernel_rfl)
    (case cb3 => first | k_is | kernel_rfl)
    (case cb4 => first | k_is | kernel_rfl)
    (case cb5 => first | k_is | kernel_rfl)
    (case cb6 => first | k_is | kernel_rfl)
    (case na__numbers => first | k_is | kernel_rfl)
    (case na__many => first | k_is | kernel_rfl)
    (case na__done => first | k_is | kernel_rfl)
    (case q_BadCount => first | k_is | kernel_rfl)
    (case kp_BadCount => first | k_is | kernel_rfl)
    (case sb_BadCount => first | k_is | kernel_rfl)
    (case ty_BadCount => first | k_is | kernel_rfl)
    (case ga_BadCount => first | k_is | kernel_rfl)
    (case gt_BadCount => first | k_is | kernel_rfl)
    (case hd_BadCount => first | k_is | kernel_rfl)
    (case hc_BadCount => first | k_is | kernel_rfl)
    (case ho_BadCount => first | k_is | kernel_rfl)
    (case it_BadCount_BadCount => first | k_is | kernel_rfl)
    (case it_BadCount_BadName => first | k_is | kernel_rfl)
    (case it_BadCount_BadNumber => first | k_is | kernel_rfl)
    (case it_BadCount_BadOrder => first | k_is | kernel_rfl)
    (case it_BadCount_BadSet => first | k_is | kernel_rfl)
    (case it_BadCount_BadTable => first | k_is | kernel_rfl)
    (case it_BadCount_NoCover => first | k_is | kernel_rfl)
    (case it_BadCount_NothingDone => first | k_is | kernel_rfl)
    (case it_BadCount_Unlike => first | k_is | kernel_rfl)
    (case iv_BadCount => first | k_is | kernel_rfl)
    (case xs_BadCount => first | k_is | kernel_rfl)
    (case q_BadSet => first | k_is | kernel_rfl)
    (case kp_BadSet => first | k_is | kernel_rfl)
    (case sb_BadSet => first | k_is | kernel_rfl)
    (case ty_BadSet => first | k_is | kernel_rfl)
    (case ga_BadSet => first | k_is | kernel_rfl)
    (case gt_BadSet => first | k_is | kernel_rfl)
    (case hd_BadSet => first | k_is | kernel_rfl)
    (case hc_BadSet => first | k_is | kernel_rfl)
    (case ho_BadSet => first | k_is | kernel_rfl)
    (case it_BadSet_BadCount => first | k_is | kernel_rfl)
    (case it_BadSet_BadName => first | k_is | kernel_rfl)
    (case it_BadSet_BadNumber => first | k_is | kernel_rfl)
    (case it_BadSet_BadOrder => first | k_is | kernel_rfl)
    (case it_BadSet_BadSet => first | k_is | kernel_rfl)
    (case it_BadSet_BadTable => first | k_is | kernel_rfl)
    (case it_BadSet_NoCover => first | k_is | kernel_rfl)
    (case it_BadSet_NothingDone => first | k_is | kernel_rfl)
    (case it_BadSet_Unlike => first | k_is | kernel_rfl)
    (case iv_BadSet => first | k_is | kernel_rfl)
    (case xs_BadSet => first | k_is | kernel_rfl)
    (case q_BadName => first | k_is | kernel_rfl)
    (case kp_BadName => first | k_is | kernel_rfl)
    (case sb_BadName => first | k_is | kernel_rfl)
    (case ty_BadName => first | k_is | kernel_rfl)
    (case ga_BadName => first | k_is | kernel_rfl)
    (case gt_BadName => first | k_is | kernel_rfl)
    (case hd_BadName => first | k_is | kernel_rfl)
    (case hc_BadName => first | k_is | kernel_rfl)
    (case ho_BadName => first | k_is | kernel_rfl)
    (case it_BadName_BadCount => first | k_is | kernel_rfl)
    (case it_BadName_BadName => first | k_is | kernel_rfl)
    (case it_BadName_BadNumber => first | k_is | kernel_rfl)
    (case it_BadName_BadOrder => first | k_is | kernel_rfl)
    (case it_BadName_BadSet => first | k_is | kernel_rfl)
    (case it_BadName_BadTable => first | k_is | kernel_rfl)
    (case it_BadName_NoCover => first | k_is | kernel_rfl)
    (case it_BadName_NothingDone => first | k_is | kernel_rfl)
    (case it_BadName_Unlike => first | k_is | kernel_rfl)
    (case iv_BadName => first | k_is | kernel_rfl)
    (case xs_BadName => first | k_is | kernel_rfl)
    (case q_BadNumber => first | k_is | kernel_rfl)
    (case kp_BadNumber => first | k_is | kernel_rfl)
    (case sb_BadNumber => first | k_is | kernel_rfl)
    (case ty_BadNumber => first | k_is | kernel_rfl)
    (case ga_BadNumber => first | k_is | kernel_rfl)
    (case gt_BadNumber => first | k_is | kernel_rfl)
    (case hd_BadNumber => first | k_is | kernel_rfl)
    (case hc_BadNumber => first | k_is | kernel_rfl)
    (case ho_BadNumber => first | k_is | kernel_rfl)
    (case it_BadNumber_BadCount => first | k_is | kernel_rfl)
    (case it_BadNumber_BadName => first | k_is | kernel_rfl)
    (case it_BadNumber_BadNumber => first | k_is | kernel_rfl)
    (case it_BadNumber_BadOrder => first | k_is | kernel_rfl)
    (case it_BadNumber_BadSet => first | k_is | kernel_rfl)
    (case it_BadNumber_BadTable => first | k_is | kernel_rfl)
    (case it_BadNumber_NoCover => first | k_is | kernel_rfl)
    (case it_BadNumber_NothingDone => first | k_is | kernel_rfl)
    (case it_BadNumber_Unlike => first | k_is | kernel_rfl)
    (case iv_BadNumber => first | k_is | kernel_rfl)
    (case xs_BadNumber => first | k_is | kernel_rfl)
    (case q_BadOrder => first | k_is | kernel_rfl)
    (case kp_BadOrder => first | k_is | kernel_rfl)
    (case sb_BadOrder => first | k_is | kernel_rfl)
    (case ty_BadOrder => first | k_is | kernel_rfl)
    (case ga_BadOrder => first | k_is | kernel_rfl)
    (case gt_BadOrder => first | k_is | kernel_rfl)
    (case hd_BadOrder => first | k_is | kernel_rfl)
    (case hc_BadOrder => first | k_is | kernel_rfl)
    (case ho_BadOrder => first | k_is | kernel_rfl)
    (case it_BadOrder_BadCount => first | k_is | kernel_rfl)
    (case it_BadOrder_BadName => first | k_is | kernel_rfl)
    (case it_BadOrder_BadNumber => first | k_is | kernel_rfl)
    (case it_BadOrder_BadOrder => first | k_is | kernel_rfl)
    (case it_BadOrder_BadSet => first | k_is | kernel_rfl)
    (case it_BadOrder_BadTable => first | k_is | kernel_rfl)
    (case it_BadOrder_NoCover => first | k_is | kernel_rfl)
    (case it_BadOrder_NothingDone => first | k_is | kernel_rfl)
    (case it_BadOrder_Unlike => first | k_is | kernel_rfl)
    (case iv_BadOrder => first | k_is | kernel_rfl)
    (case xs_BadOrder => first | k_is | kernel_rfl)
    (case q_BadTable => first | k_is | kernel_rfl)
    (case kp_BadTable => first | k_is | kernel_rfl)
    (case sb_BadTable => first | k_is | kernel_rfl)
    (case ty_BadTable => first | k_is | kernel_rfl)
    (case ga_BadTable => first | k_is | kernel_rfl)
    (case gt_BadTable => first | k_is | kernel_rfl)
    (case hd_BadTable => first | k_is | kernel_rfl)
    (case hc_BadTable => first | k_is | kernel_rfl)
    (case ho_BadTable => first | k_is | kernel_rfl)
    (case it_BadTable_BadCount => first | k_is | kernel_rfl)
    (case it_BadTable_BadName => first | k_is | kernel_rfl)
    (case it_BadTable_BadNumber => first | k_is | kernel_rfl)
    (case it_BadTable_BadOrder => first | k_is | kernel_rfl)
    (case it_BadTable_BadSet => first | k_is | kernel_rfl)
    (case it_BadTable_BadTable => first | k_is | kernel_rfl)
    (case it_BadTable_NoCover => first | k_is | kernel_rfl)
    (case it_BadTable_NothingDone => first | k_is | kernel_rfl)
    (case it_BadTable_Unlike => first | k_is | kernel_rfl)
    (case iv_BadTable => first | k_is | kernel_rfl)
    (case xs_BadTable => first | k_is | kernel_rfl)
    (case q_NothingDone => first | k_is | kernel_rfl)
    (case kp_NothingDone => first | k_is | kernel_rfl)
    (case sb_NothingDone => first | k_is | kernel_rfl)
    (case ty_NothingDone => first | k_is | kernel_rfl)
    (case ga_NothingDone => first | k_is | kernel_rfl)
    (case gt_NothingDone => first | k_is | kernel_rfl)
    (case hd_NothingDone => first | k_is | kernel_rfl)
    (case hc_NothingDone => first | k_is | kernel_rfl)
    (case ho_NothingDone => first | k_is | kernel_rfl)
    (case it_NothingDone_BadCount => first | k_is | kernel_rfl)
    (case it_NothingDone_BadName => first | k_is | kernel_rfl)
    (case it_NothingDone_BadNumber => first | k_is | kernel_rfl)
    (case it_NothingDone_BadOrder => first | k_is | kernel_rfl)
    (case it_NothingDone_BadSet => first | k_is | kernel_rfl)
    (case it_NothingDone_BadTable => first | k_is | kernel_rfl)
    (case it_NothingDone_NoCover => first | k_is | kernel_rfl)
    (case it_NothingDone_NothingDone => first | k_is | kernel_rfl)
    (case it_NothingDone_Unlike => first | k_is | kernel_rfl)
    (case iv_NothingDone => first | k_is | kernel_rfl)
    (case xs_NothingDone => first | k_is | kernel_rfl)
    (case sp_ => first | k_is | kernel_rfl)
    (case tk_ => first | k_is | kernel_rfl)
    (case n_MOST_NAMES => first | k_is | kernel_rfl)
    (case n_PUT => first | k_is | kernel_rfl)
    (case n_SWAP => first | k_is | kernel_rfl)
    (case z_bool => first | k_is | kernel_rfl)
    (case z_int => first | k_is | kernel_rfl)
    (case z_isinstance => first | k_is | kernel_rfl)
    (case z_len => first | k_is | kernel_rfl)
    (case z_list => first | k_is | kernel_rfl)
    (case z_range => first | k_is | kernel_rfl)
    (case z_sorted => first | k_is | kernel_rfl)
    (case z_sum => first | k_is | kernel_rfl)
    (case z_enumerate => first | k_is | kernel_rfl)
    (case z_max => first | k_is | kernel_rfl)
    (case z_ValueError => first | k_is | kernel_rfl)
    (case z_all => first | k_is | kernel_rfl)
    (case z_min => first | k_is | kernel_rfl)
    (case a_is_whole => first | k_is | kernel_rfl)
    (case l_is_whole => first | k_is | kernel_rfl)
    (case co_is_whole => first | k_is | kernel_rfl)
    (case ke_is_whole => first | k_is | kernel_rfl)
    (case a_is_whole_below => first | k_is | kernel_rfl)
    (case l_is_whole_below => first | k_is | kernel_rfl)
    (case co_is_whole_below => first | k_is | kernel_rfl)
    (case ke_is_whole_below => first | k_is | kernel_rfl)
    (case a_is_table_length => first | k_is | kernel_rfl)
    (case l_is_table_length => first | k_is | kernel_rfl)
    (case co_is_table_length => first | k_is | kernel_rfl)
    (case ke_is_table_length => first | k_is | kernel_rfl)
    (case a_check_count => first | k_is | kernel_rfl)
    (case l_check_count => first | k_is | kernel_rfl)
    (case co_check_count => first | k_is | kernel_rfl)
    (case ke_check_count => first | k_is | kernel_rfl)
    (case a_check_set => first | k_is | kernel_rfl)
    (case l_check_set => first | k_is | kernel_rfl)
    (case co_check_set => first | k_is | kernel_rfl)
    (case ke_check_set => first | k_is | kernel_rfl)
    (case a_check_name => first | k_is | kernel_rfl)
    (case l_check_name => first | k_is | kernel_rfl)
    (case co_check_name => first | k_is | kernel_rfl)
    (case ke_check_name => first | k_is | kernel_rfl)
    (case a_check_order => first | k_is | kernel_rfl)
    (case l_check_order => first | k_is | kernel_rfl)
    (case co_check_order => first | k_is | kernel_rfl)
    (case ke_check_order => first | k_is | kernel_rfl)
    (case a_check_number => first | k_is | kernel_rfl)
    (case l_check_number => first | k_is | kernel_rfl)
    (case co_check_number => first | k_is | kernel_rfl)
    (case ke_check_number => first | k_is | kernel_rfl)
    (case a_check_table => first | k_is | kernel_rfl)
    (case l_check_table => first | k_is | kernel_rfl)
    (case co_check_table => first | k_is | kernel_rfl)
    (case ke_check_table => first | k_is | kernel_rfl)
    (case a_names_of => first | k_is | kernel_rfl)
    (case l_names_of => first | k_is | kernel_rfl)
    (case co_names_of => first | k_is | kernel_rfl)
    (case ke_names_of => first | k_is | kernel_rfl)
    (case a_blank => first | k_is | kernel_rfl)
    (case l_blank => first | k_is | kernel_rfl)
    (case co_blank => first | k_is | kernel_rfl)
    (case ke_blank => first | k_is | kernel_rfl)
    (case a_reordered => first | k_is | kernel_rfl)
    (case l_reordered => first | k_is | kernel_rfl)
    (case co_reordered => first | k_is | kernel_rfl)
    (case ke_reordered => first | k_is | kernel_rfl)
    (case a_parts => first | k_is | kernel_rfl)
    (case l_parts => first | k_is | kernel_rfl)
    (case co_parts => first | k_is | kernel_rfl)
    (case ke_parts => first | k_is | kernel_rfl)
    (case a_put => first | k_is | kernel_rfl)
    (case fn_put => first | k_is | kernel_rfl)
    (case l_put => first | k_is | kernel_rfl)
    (case co_put => first | k_is | kernel_rfl)
    (case ke_put => first | k_is | kernel_rfl)
    (case a_swap => first | k_is | kernel_rfl)
    (case fn_swap => first | k_is | kernel_rfl)
    (case l_swap => first | k_is | kernel_rfl)
    (case co_swap => first | k_is | kernel_rfl)
    (case ke_swap => first | k_is | kernel_rfl)
    (case a_undo => first | k_is | kernel_rfl)
    (case fn_undo => first | k_is | kernel_rfl)
    (case l_undo => first | k_is | kernel_rfl)
    (case co_undo => first | k_is | kernel_rfl)
    (case ke_undo => first | k_is | kernel_rfl)
    (case a_value => first | k_is | kernel_rfl)
    (case fn_value => first | k_is | kernel_rfl)
    (case l_value => first | k_is | kernel_rfl)
    (case co_value => first | k_is | kernel_rfl)
    (case ke_value => first | k_is | kernel_rfl)
    (case a_under => first | k_is | kernel_rfl)
    (case fn_under => first | k_is | kernel_rfl)
    (case l_under => first | k_is | kernel_rfl)
    (case co_under => first | k_is | kernel_rfl)
    (case ke_under => first | k_is | kernel_rfl)
    (case a_over => first | k_is | kernel_rfl)
    (case fn_over => first | k_is | kernel_rfl)
    (case l_over => first | k_is | kernel_rfl)
    (case co_over => first | k_is | kernel_rfl)
    (case ke_over => first | k_is | kernel_rfl)
    (case a_table => first | k_is | kernel_rfl)
    (case fn_table => first | k_is | kernel_rfl)
    (case l_table => first | k_is | kernel_rfl)
    (case co_table => first | k_is | kernel_rfl)
    (case ke_table => first | k_is | kernel_rfl)
    (case a_many_done => first | k_is | kernel_rfl)
    (case fn_many_done => first | k_is | kernel_rfl)
    (case l_many_done => first | k_is | kernel_rfl)
    (case co_many_done => first | k_is | kernel_rfl)
    (case ke_many_done => first | k_is | kernel_rfl)
    (case a__exchange => first | k_is | kernel_rfl)
    (case fn__exchange => first | k_is | kernel_rfl)
    (case l__exchange => first | k_is | kernel_rfl)
    (case co__exchange => first | k_is | kernel_rfl)
    (case ke__exchange => first | k_is | kernel_rfl)
    (case a__law_cell => first | k_is | kernel_rfl)
    (case l__law_cell => first | k_is | kernel_rfl)
    (case co__law_cell => first | k_is | kernel_rfl)
    (case ke__law_cell => first | k_is | kernel_rfl)
    (case a__law_mixed => first | k_is | kernel_rfl)
    (case l__law_mixed => first | k_is | kernel_rfl)
    (case co__law_mixed => first | k_is | kernel_rfl)
    (case ke__law_mixed => first | k_is | kernel_rfl)
    (case a__law_kind => first | k_is | kernel_rfl)
    (case l__law_kind => first | k_is | kernel_rfl)
    (case co__law_kind => first | k_is | kernel_rfl)
    (case ke__law_kind => first | k_is | kernel_rfl)
    (case a__law_bits => first | k_is | kernel_rfl)
    (case l__law_bits => first | k_is | kernel_rfl)
    (case co__law_bits => first | k_is | kernel_rfl)
    (case ke__law_bits => first | k_is | kernel_rfl)
    (case a__law_is_table => first | k_is | kernel_rfl)
    (case l__law_is_table => first | k_is | kernel_rfl)
    (case co__law_is_table => first | k_is | kernel_rfl)
    (case ke__law_is_table => first | k_is | kernel_rfl)
    (case a__law_turned => first | k_is | kernel_rfl)
    (case l__law_turned => first | k_is | kernel_rfl)
    (case co__law_turned => first | k_is | kernel_rfl)
    (case ke__law_turned => first | k_is | kernel_rfl)
    (case a__law_behind => first | k_is | kernel_rfl)
    (case l__law_behind => first | k_is | kernel_rfl)
    (case co__law_behind => first | k_is | kernel_rfl)
    (case ke__law_behind => first | k_is | kernel_rfl)
    (case a__law_caught => first | k_is | kernel_rfl)
    (case l__law_caught => first | k_is | kernel_rfl)
    (case co__law_caught => first | k_is | kernel_rfl)
    (case ke__law_caught => first | k_is | kernel_rfl)
    (case a__law_made => first | k_is | kernel_rfl)
    (case l__law_made => first | k_is | kernel_rfl)
    (case co__law_made => first | k_is | kernel_rfl)
    (case ke__law_made => first | k_is | kernel_rfl)
    (case a__law_seen => first | k_is | kernel_rfl)
    (case l__law_seen => first | k_is | kernel_rfl)
    (case co__law_seen => first | k_is | kernel_rfl)
    (case ke__law_seen => first | k_is | kernel_rfl)
    (case a__law_wrong => first | k_is | kernel_rfl)
    (case l__law_wrong => first | k_is | kernel_rfl)
    (case co__law_wrong => first | k_is | kernel_rfl)
    (case ke__law_wrong => first | k_is | kernel_rfl)
    (case a__law_deed => first | k_is | kernel_rfl)
    (case l__law_deed => first | k_is | kernel_rfl)
    (case co__law_deed => first | k_is | kernel_rfl)
    (case ke__law_deed => first | k_is | kernel_rfl)
    (case a_law => first | k_is | kernel_rfl)
    (case l_law => first | k_is | kernel_rfl)
    (case co_law => first | k_is | kernel_rfl)
    (case ke_law => first | k_is | kernel_rfl)
    (case a___init__ => first | k_is | kernel_rfl)
    (case fn___init__ => first | k_is | kernel_rfl)
    (case l___init__ => first | k_is | kernel_rfl)
    (case co___init__ => first | k_is | kernel_rfl)
    (case ke___init__ => first | k_is | kernel_rfl)
