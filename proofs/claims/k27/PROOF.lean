import PyProof.Rows.All
import Wide.All
import OpenK.AllK
import Wide.FinOn
import PySem.Challenge.RW_anydraws_k27_whole_best_and_fewest_place
import HandS.ForMost
import HandS.Evl
import HandS.TupAny
import HandS.TupMul
import HandS.TupLe
import HandS.IsInst
import HandS.Gcd
import HandS.Wide
import HandS.WideBits
import HandS.Style
import HandS.Flow
import HandS.More
import HandS.Comp
import KE.KMathG
import KE.KMathGC
import PyProof.ReprRoads
import PyProof.Rows.NestShow
import HandS.Iter
import HandS.Zip
import HandS.Defaults
import HandS.Ends
import HandS.WordsList
import HandS.HeadHook4
import HandS.HeadEnd
import PyProof.MinMaxWalk
import PyProof.WalkInts
import HandS.FltList
import HandS.Head0
import HandS.Head1
import HandS.Head2
import HandS.Head3
set_option Elab.async false
set_option maxRecDepth 100000
/-! Ly, part A: data laid in a heap that only grows, lists of one's own by handles, what an evaluation tells -/
namespace Ly
open PySem PySem.Spec PyProof.Rows L2
open Evl (Ex ex_rd ex_l ex_t fresh_back)

/-! ### data as it lies in a heap: lists that are tracked, tuples, flat values -/
mutual
inductive Dt (K : PySem.W.Frag) (H : Hp) : V → PyData → Prop
  | non : Dt K H .non .none
  | bl (b : Bool) : Dt K H (.bl b) (.bool b)
  | int (i : Int) : Dt K H (.int i) (.int i)
  | str (x : Str) : Dt K H (.str x) (.str x)
  | lst {a : Addr} {xs : List V} {ds : List PyData} (h : H a = some (.lst xs)) (t : DtAll K H xs ds) : Dt K H (.ref a) (.list ds)
  | tup {a : Addr} {xs : List V} {ds : List PyData} (h : SqT K H a xs) (t : DtAll K H xs ds) : Dt K H (.ref a) (.tuple ds)
inductive DtAll (K : PySem.W.Frag) (H : Hp) : List V → List PyData → Prop
  | nil : DtAll K H [] []
  | cons {v : V} {vs : List V} {d : PyData} {ds : List PyData} (h : Dt K H v d) (t : DtAll K H vs ds) : DtAll K H (v :: vs) (d :: ds)
end
section
variable {K : PySem.W.Frag}
mutual
theorem Dt.dp {H : Hp} : ∀ (d : PyData) (v : V), Dt K H v d → Dp K H v d
  | .none, _, h => by cases h; exact .non
  | .bool b, _, h => by cases h; exact .bl b
  | .int i, _, h => by cases h; exact .int i
  | .str x, _, h => by cases h; exact .str x
  | .list ds, _, h => by
    cases h with
    | lst hs ha => exact .lst (.inl (.inl hs)) (DtAll.dp ds _ ha)
  | .tuple ds, _, h => by
    cases h with
    | tup hs ha => exact .tup hs (DtAll.dp ds _ ha)
  | .dict _, _, h => by cases h
theorem DtAll.dp {H : Hp} : ∀ (ds : List PyData) (vs : List V), DtAll K H vs ds → DpAll K H vs ds
  | [], _, h => by cases h; exact .nil
  | d :: ds, _, h => by
    cases h with
    | cons h1 h2 => exact .cons (Dt.dp d _ h1) (DtAll.dp ds _ h2)
end
mutual
theorem dp_mono {H H' : Hp} (e : Ex H H') : ∀ (d : PyData) (v : V), Dt K H v d → Dt K H' v d
  | .none, _, h => by cases h; exact .non
  | .bool b, _, h => by cases h; exact .bl b
  | .int i, _, h => by cases h; exact .int i
  | .str x, _, h => by cases h; exact .str x
  | .list ds, _, h => by
    cases h with
    | lst hs ha => exact .lst (e _ _ hs) (dpa_mono e ds _ ha)
  | .tuple ds, _, h => by
    cases h with
    | tup hs ha => exact .tup (ex_t e hs) (dpa_mono e ds _ ha)
  | .dict _, _, h => by cases h
theorem dpa_mono {H H' : Hp} (e : Ex H H') : ∀ (ds : List PyData) (vs : List V), DtAll K H vs ds → DtAll K H' vs ds
  | [], _, h => by cases h; exact .nil
  | d :: ds, _, h => by
    cases h with
    | cons h1 h2 => exact .cons (dp_mono e d _ h1) (dpa_mono e ds _ h2)
end
theorem dpa_len {H : Hp} : ∀ {vs : List V} {ds : List PyData}, DtAll K H vs ds → vs.length = ds.length
  | _, _, .nil => rfl
  | _, _, .cons _ t => by rw [List.length_cons, List.length_cons, dpa_len t]
theorem dpa_get {H : Hp} : ∀ {vs : List V} {ds : List PyData} {i : Nat} {d : PyData}, DtAll K H vs ds → ds[i]? = some d → ∃ v, vs[i]? = some v ∧ Dt K H v d
  | _, _, _, _, .nil, e => by cases e
  | _, _, 0, _, .cons h _, e => by
    cases e
    exact ⟨_, rfl, h⟩
  | _, _, i + 1, d, .cons _ t, e => dpa_get (i := i) t e
theorem dpa_app {H : Hp} : ∀ {vs : List V} {ds : List PyData} {ws : List V} {es : List PyData}, DtAll K H vs ds → DtAll K H ws es → DtAll K H (vs ++ ws) (ds ++ es)
  | _, _, _, _, .nil, h => h
  | _, _, _, _, .cons a t, h => .cons a (dpa_app t h)
theorem dpa_take {H : Hp} : ∀ {vs : List V} {ds : List PyData} (n : Nat), DtAll K H vs ds → DtAll K H (vs.take n) (ds.take n)
  | _, _, 0, _ => .nil
  | _, _, _ + 1, .nil => .nil
  | _, _, n + 1, .cons a t => .cons a (dpa_take n t)
theorem dpa_drop {H : Hp} : ∀ {vs : List V} {ds : List PyData} (n : Nat), DtAll K H vs ds → DtAll K H (vs.drop n) (ds.drop n)
  | _, _, 0, h => h
  | _, _, _ + 1, .nil => .nil
  | _, _, n + 1, .cons _ t => dpa_drop n t
theorem dpa_rev {H : Hp} : ∀ {vs : List V} {ds : List PyData}, DtAll K H vs ds → DtAll K H vs.reverse ds.reverse
  | _, _, .nil => .nil
  | _, _, .cons a t => by
    rw [List.reverse_cons, List.reverse_cons]
    exact dpa_app (dpa_rev t) (.cons a .nil)
theorem dpa_set {H : Hp} : ∀ {vs : List V} {ds : List PyData} (i : Nat) {v : V} {d : PyData}, DtAll K H vs ds → Dt K H v d → DtAll K H (vs.set i v) (ds.set i d)
  | _, _, _, _, _, .nil, _ => .nil
  | _, _, 0, _, _, .cons _ t, h => .cons h t
  | _, _, i + 1, _, _, .cons a t, h => .cons a (dpa_set i t h)
theorem dpa_rep {H : Hp} {vs : List V} {ds : List PyData} (h : DtAll K H vs ds) : ∀ n : Nat, DtAll K H (List.replicate n vs).flatten (List.replicate n ds).flatten
  | 0 => .nil
  | n + 1 => by
    rw [List.replicate_succ, List.replicate_succ, List.flatten_cons, List.flatten_cons]
    exact dpa_app h (dpa_rep h n)
theorem dpa_ints {H : Hp} : ∀ {vs : List V} {ns : List Int}, DtAll K H vs (ns.map PyData.int) → vs = ns.map V.int
  | _, [], h => by cases h; rfl
  | _, n :: ns, h => by
    cases h with
    | cons h1 h2 =>
      cases h1
      rw [List.map_cons, dpa_ints h2]
theorem dpa_of_ints {H : Hp} : ∀ (ns : List Int), DtAll K H (ns.map V.int) (ns.map PyData.int)
  | [] => .nil
  | n :: ns => .cons (.int n) (dpa_of_ints ns)
end

/-! ### slots, memory -/
/-- what a slot holds: data, the list of one's own by its number, a list that is read alone (the script) -/
inductive Sl where
  | v (d : PyData) | o (h : Nat) | s (ds : List PyData)
/-- the lists of one's own; none: handed over as data -/
abbrev Mem := List (Option (List PyData))
abbrev Ro := List (Option Sl)
structure Wd (K : PySem.W.Frag) (B H : Hp) (α : List Addr) (μ : Mem) : Prop where
  bh : Ex B H
  len : α.length = μ.length
  nd : α.Nodup
  own : ∀ (h : Nat) (p : Addr) (ds : List PyData), α[h]? = some p → μ[h]? = some (some ds) → B p = none ∧ ∃ xs, H p = some (.lst xs) ∧ DtAll K B xs ds
  al : ∀ p ∈ α, H p ≠ none
inductive SlR (K : PySem.W.Frag) (B : Hp) (α : List Addr) : V → Sl → Prop
  | v {x : V} {d : PyData} : Dt K B x d → SlR K B α x (.v d)
  | o {p : Addr} {h : Nat} : α[h]? = some p → SlR K B α (.ref p) (.o h)
  | s {a : Addr} {xs : List V} {ds : List PyData} : SqL K B a xs → DtAll K B xs ds → SlR K B α (.ref a) (.s ds)
inductive SlA (K : PySem.W.Frag) (B : Hp) (α : List Addr) : List V → List Sl → Prop
  | nil : SlA K B α [] []
  | cons {v : V} {vs : List V} {s : Sl} {ss : List Sl} : SlR K B α v s → SlA K B α vs ss → SlA K B α (v :: vs) (s :: ss)
def EnvR (K : PySem.W.Frag) (B : Hp) (α : List Addr) (σ : L2.St) (ρ : Ro) : Prop :=
  σ.length = ρ.length ∧ ∀ (i : Nat) (s : Sl), ρ[i]? = some (some s) → ∃ v, σ[i]? = some (some v) ∧ SlR K B α v s
/-- from one place to a later one: what is no list of one's own stays, and does not become data -/
structure Mv (α : List Addr) (B H : Hp) (α2 : List Addr) (B2 H2 : Hp) : Prop where
  ex : ∃ β, α2 = α ++ β
  bb : Ex B B2
  fr : ∀ p ∈ α2, p ∉ α → H p = none
  hh : ∀ a o, a ∉ α → H a = some o → H2 a = some o
  sp : ∀ a, a ∉ α → H a ≠ none → B a = none → B2 a = none
section
variable {K : PySem.W.Frag} {B H B1 H1 B2 H2 : Hp} {α α1 α2 : List Addr} {μ μ1 : Mem}
theorem Mv.refl : Mv α B H α B H := ⟨⟨[], by simp⟩, Ex.refl _, fun _ h n => absurd h n, fun _ _ _ h => h, fun _ _ _ h => h⟩
theorem Mv.get (m : Mv α B H α2 B2 H2) {h : Nat} {p : Addr} (e : α[h]? = some p) : α2[h]? = some p := by
  obtain ⟨β, rfl⟩ := m.ex
  rw [List.getElem?_append_left (List.getElem?_eq_some_iff.mp e).1]
  exact e
theorem Mv.trans (a : Mv α B H α1 B1 H1) (b : Mv α1 B1 H1 α2 B2 H2) : Mv α B H α2 B2 H2 where
  ex := by
    obtain ⟨β, rfl⟩ := a.ex
    obtain ⟨γ, rfl⟩ := b.ex
    exact ⟨β ++ γ, by rw [List.append_assoc]⟩
  bb := a.bb.trans b.bb
  fr := fun p hp hn => by
    by_cases h : p ∈ α1
    · exact a.fr p h hn
    · cases e : H p with
      | none => rfl
      | some o =>
        have h2 := b.fr p hp h
        rw [a.hh p o hn e] at h2
        cases h2
  hh := fun x o hx e => b.hh x o (fun z => by rw [a.fr x z hx] at e; cases e) (a.hh x o hx e)
  sp := fun x hx hn hb => by
    cases e : H x with
    | none => exact absurd e hn
    | some o => exact b.sp x (fun z => by rw [a.fr x z hx] at e; cases e) (by rw [a.hh x o hx e]; exact fun z => nomatch z) (a.sp x hx hn hb)
theorem SlR.mono {v : V} {s : Sl} (m : Mv α B H α2 B2 H2) (h : SlR K B α v s) : SlR K B2 α2 v s := by
  cases h with
  | v d => exact .v (dp_mono m.bb _ _ d)
  | o e => exact .o (m.get e)
  | s h1 h2 => exact .s (ex_l m.bb h1) (dpa_mono m.bb _ _ h2)
theorem SlA.mono (m : Mv α B H α2 B2 H2) : ∀ {vs : List V} {ss : List Sl}, SlA K B α vs ss → SlA K B2 α2 vs ss
  | _, _, .nil => .nil
  | _, _, .cons h t => .cons (h.mono m) (SlA.mono m t)
theorem SlA.len : ∀ {vs : List V} {ss : List Sl}, SlA K B α vs ss → vs.length = ss.length
  | _, _, .nil => rfl
  | _, _, .cons _ t => by rw [List.length_cons, List.length_cons, t.len]
theorem SlA.get : ∀ {vs : List V} {ss : List Sl} {i : Nat} {s : Sl}, SlA K B α vs ss → ss[i]? = some s → ∃ v, vs[i]? = some v ∧ SlR K B α v s
  | _, _, _, _, .nil, e => by cases e
  | _, _, 0, _, .cons h _, e => by
    cases e
    exact ⟨_, rfl, h⟩
  | _, _, i + 1, _, .cons _ t, e => SlA.get (i := i) t e
theorem EnvR.mono {σ : L2.St} {ρ : Ro} (h : EnvR K B α σ ρ) (m : Mv α B H α2 B2 H2) : EnvR K B2 α2 σ ρ :=
  ⟨h.1, fun i s e => let ⟨v, a, b⟩ := h.2 i s e; ⟨v, a, b.mono m⟩⟩
theorem EnvR.set {σ : L2.St} {ρ : Ro} {v : V} {s : Sl} (i : Nat) (h : EnvR K B α σ ρ) (r : SlR K B α v s) : EnvR K B α (σ.set i (some v)) (ρ.set i (some s)) := by
  refine ⟨by simp [h.1], fun j t e => ?_⟩
  by_cases q : i = j
  · subst q
    by_cases l : i < ρ.length
    · rw [List.getElem?_set_self l] at e
      cases e
      exact ⟨v, by rw [List.getElem?_set_self (by rw [h.1]; exact l)], r⟩
    · rw [List.getElem?_eq_none (by rw [List.length_set]; omega)] at e
      cases e
  · rw [List.getElem?_set_ne q] at e ⊢
    exact h.2 j t e
theorem Wd.fresh {p : Addr} (w : Wd K B H α μ) (hp : H p = none) : p ∉ α := fun z => w.al p z hp
/-- a new object that is laid still -/
theorem Wd.lay {p : Addr} {o : HO} (w : Wd K B H α μ) (hp : H p = none) : Mv α B H α (upd B p o) (upd H p o) ∧ Wd K (upd B p o) (upd H p o) α μ := by
  have bp : B p = none := fresh_back w.bh hp
  have na : p ∉ α := w.fresh hp
  refine ⟨⟨⟨[], by simp⟩, Ex.new bp, fun _ h n => absurd h n, fun a u _ e => Ex.new hp a u e, fun a _ hn hb => by rw [upd_ne (fun (z : a = p) => hn (by rw [z]; exact hp))]; exact hb⟩, ⟨fun a u e => ?_, w.len, w.nd, fun h q ds e1 e2 => ?_, fun q hq => ?_⟩⟩
  · by_cases q : a = p
    · subst q; rw [upd_same] at e ⊢; exact e
    · rw [upd_ne q] at e ⊢; exact w.bh a u e
  · obtain ⟨b, xs, hx, hd⟩ := w.own h q ds e1 e2
    have qp : q ≠ p := ne_of_none hx hp
    exact ⟨by rw [upd_ne qp]; exact b, xs, by rw [upd_ne qp]; exact hx, dpa_mono (Ex.new bp) _ _ hd⟩
  · rw [upd_ne (fun (z : q = p) => na (by rw [← z]; exact hq))]
    exact w.al q hq
/-- a new list that becomes one's own -/
theorem Wd.take {p : Addr} {xs : List V} {ds : List PyData} (w : Wd K B H α μ) (hp : H p = none) (hd : DtAll K B xs ds) :
    Mv α B H (α ++ [p]) B (upd H p (.lst xs)) ∧ Wd K B (upd H p (.lst xs)) (α ++ [p]) (μ ++ [some ds]) := by
  have bp : B p = none := fresh_back w.bh hp
  have na : p ∉ α := w.fresh hp
  refine ⟨⟨⟨[p], rfl⟩, Ex.refl _, fun q hq hn => by rw [List.mem_singleton.mp ((List.mem_append.mp hq).resolve_left hn)]; exact hp, fun a u _ e => Ex.new hp a u e, fun _ _ _ h => h⟩, ⟨fun a u e => Ex.new hp a u (w.bh a u e), by simp [w.len], ?_, fun h q es e1 e2 => ?_, fun q hq => ?_⟩⟩
  · exact List.nodup_append.mpr ⟨w.nd, by simp, fun a ha b hb e => by rw [List.mem_singleton.mp hb] at e; exact na (e ▸ ha)⟩
  · by_cases hl : h < α.length
    · rw [List.getElem?_append_left hl] at e1
      rw [List.getElem?_append_left (by rw [← w.len]; exact hl)] at e2
      obtain ⟨b, ys, hx, hd'⟩ := w.own h q es e1 e2
      exact ⟨b, ys, by rw [upd_ne (ne_of_none hx hp)]; exact hx, hd'⟩
    · have hl2 : h = α.length := by
        have := (List.getElem?_eq_some_iff.mp e1).1
        rw [List.length_append, List.length_singleton] at this
        omega
      subst hl2
      rw [List.getElem?_append_right (Nat.le_refl _), Nat.sub_self] at e1
      rw [w.len, List.getElem?_append_right (Nat.le_refl _), Nat.sub_self] at e2
      cases e1
      cases e2
      exact ⟨bp, xs, upd_same, hd⟩
  · rcases List.mem_append.mp hq with z | z
    · rw [upd_ne (fun (e : q = p) => na (by rw [← e]; exact z))]; exact w.al q z
    · rw [List.mem_singleton.mp z, upd_same]; exact fun z => nomatch z
theorem nodup_at {l : List Addr} (nd : l.Nodup) {i j : Nat} {p : Addr} (e1 : l[i]? = some p) (e2 : l[j]? = some p) : i = j := by
  obtain ⟨h1, e3⟩ := List.getElem?_eq_some_iff.mp e1
  obtain ⟨h2, e4⟩ := List.getElem?_eq_some_iff.mp e2
  exact (List.getElem_inj nd).mp (e3.trans e4.symm)
/-- a list of one's own is written -/
theorem Wd.put {h : Nat} {p : Addr} {xs : List V} {es ds : List PyData} (w : Wd K B H α μ) (hp : α[h]? = some p) (hm : μ[h]? = some (some es)) (hd : DtAll K B xs ds) :
    Mv α B H α B (upd H p (.lst xs)) ∧ Wd K B (upd H p (.lst xs)) α (μ.set h (some ds)) := by
  obtain ⟨bp, ys, hy, _⟩ := w.own h p es hp hm
  have hl : h < μ.length := (List.getElem?_eq_some_iff.mp hm).1
  have pm : p ∈ α := List.mem_of_getElem? hp
  refine ⟨⟨⟨[], by simp⟩, Ex.refl _, fun _ h n => absurd h n, fun a u ha e => by rw [upd_ne (fun (z : a = p) => ha (by rw [z]; exact pm))]; exact e, fun _ _ _ h => h⟩, fun a u e => ?_, by simp [w.len], w.nd, fun j q es' e1 e2 => ?_, fun q hq => ?_⟩
  · rw [upd_ne (ne_of_none e bp)]; exact w.bh a u e
  · by_cases q' : h = j
    · subst q'
      rw [hp] at e1; cases e1
      rw [List.getElem?_set_self hl] at e2; cases e2
      exact ⟨bp, xs, upd_same, hd⟩
    · rw [List.getElem?_set_ne q'] at e2
      obtain ⟨b, zs, hz, hd'⟩ := w.own j q es' e1 e2
      have qp : q ≠ p := fun z => q' (nodup_at w.nd hp (z ▸ e1))
      exact ⟨b, zs, by rw [upd_ne qp]; exact hz, hd'⟩
  · by_cases q' : q = p
    · subst q'; rw [upd_same]; exact fun z => nomatch z
    · rw [upd_ne q']; exact w.al q hq
/-- a list of one's own is handed over: data from here on -/
theorem Wd.freeze {h : Nat} {p : Addr} {es : List PyData} (w : Wd K B H α μ) (hp : α[h]? = some p) (hm : μ[h]? = some (some es)) :
    ∃ B', Mv α B H α B' H ∧ Wd K B' H α (μ.set h none) ∧ Dt K B' (.ref p) (.list es) := by
  obtain ⟨bp, ys, hy, hd⟩ := w.own h p es hp hm
  refine ⟨upd B p (.lst ys), ⟨⟨[], by simp⟩, Ex.new bp, fun _ h n => absurd h n, fun _ _ _ h => h, fun a ha _ hb => by rw [upd_ne (fun (z : a = p) => ha (by rw [z]; exact List.mem_of_getElem? hp))]; exact hb⟩, ⟨fun a u e => ?_, by simp [w.len], w.nd, fun j q es' e1 e2 => ?_, w.al⟩, .lst upd_same (dpa_mono (Ex.new bp) _ _ hd)⟩
  · by_cases q : a = p
    · subst q; rw [upd_same] at e; cases e; exact hy
    · rw [upd_ne q] at e; exact w.bh a u e
  · by_cases q' : h = j
    · subst q'
      by_cases hl : h < μ.length
      · rw [List.getElem?_set_self hl] at e2; cases e2
      · rw [List.getElem?_eq_none (by rw [List.length_set]; omega)] at e2; cases e2
    · rw [List.getElem?_set_ne q'] at e2
      obtain ⟨b, zs, hz, hd'⟩ := w.own j q es' e1 e2
      have qp : q ≠ p := fun z => q' (nodup_at w.nd hp (z ▸ e1))
      exact ⟨by rw [upd_ne qp]; exact b, zs, hz, dpa_mono (Ex.new bp) _ _ hd'⟩
/-- the last lists are forgotten -/
theorem Wd.cut (w : Wd K B H (α ++ α1) μ) : Wd K B H α (μ.take α.length) := by
  have hl := w.len
  rw [List.length_append] at hl
  refine ⟨w.bh, by rw [List.length_take]; omega, (List.nodup_append.mp w.nd).1, fun h p ds e1 e2 => ?_, fun p hp => w.al p (List.mem_append_left _ hp)⟩
  have h1 := (List.getElem?_eq_some_iff.mp e1).1
  rw [List.getElem?_take_of_lt h1] at e2
  exact w.own h p ds (by rw [List.getElem?_append_left h1]; exact e1) e2
end

/-! ### what an evaluation tells -/
inductive Res (A : Type) where
  | ok (a : A) (μ : Mem) | er (c : Str) (d : PyData) (μ : Mem) | no
def Res.bind {A C : Type} (r : Res A) (f : A → Mem → Res C) : Res C := match r with
  | .ok a μ => f a μ
  | .er c d μ => .er c d μ
  | .no => .no
@[simp] theorem Res.bind_ok {A C : Type} {a : A} {μ : Mem} {f : A → Mem → Res C} : (Res.ok a μ).bind f = f a μ := rfl
@[simp] theorem Res.bind_no {A C : Type} {f : A → Mem → Res C} : (Res.no : Res A).bind f = .no := rfl
def Sat {A : Type} (K : PySem.W.Frag) (α : List Addr) (B H : Hp) (r : Res A) (P : A → Mem → List Addr → Hp → Hp → Prop) : Prop := match r with
  | .ok a μ => ∀ α' B' H', Mv α B H α' B' H' → Wd K B' H' α' μ → P a μ α' B' H'
  | .er _ _ _ => False
  | .no => False
section
variable {K : PySem.W.Frag} {B H B1 H1 B2 H2 : Hp} {α α1 α2 : List Addr} {μ μ1 : Mem} {A C : Type}
theorem Sat.mono {r : Res A} {P : A → Mem → List Addr → Hp → Hp → Prop} (h : Sat K α B H r P) (m : Mv α B H α2 B2 H2) : Sat K α2 B2 H2 r P := by
  cases r with
  | ok a μ => exact fun α' B' H' m' w => h α' B' H' (m.trans m') w
  | er _ _ _ => exact h.elim
  | no => exact h.elim
theorem Sat.imp {r : Res A} {P P' : A → Mem → List Addr → Hp → Hp → Prop} (h : Sat K α B H r P) (f : ∀ a μ α' B' H', Mv α B H α' B' H' → Wd K B' H' α' μ → P a μ α' B' H' → P' a μ α' B' H') : Sat K α B H r P' := by
  cases r with
  | ok a μ => exact fun α' B' H' m' w => f _ _ _ _ _ m' w (h α' B' H' m' w)
  | er _ _ _ => exact h.elim
  | no => exact h.elim
theorem Sat.bind {r : Res A} {f : A → Mem → Res C} {P : C → Mem → List Addr → Hp → Hp → Prop} (h : Sat K α B H (r.bind f) P) : Sat K α B H r (fun a μ α' B' H' => Sat K α' B' H' (f a μ) P) := by
  cases r with
  | ok a μ => exact fun α' B' H' m' _ => Sat.mono h m'
  | er _ _ _ => exact h.elim
  | no => exact h.elim
theorem Sat.ok {a : A} {P : A → Mem → List Addr → Hp → Hp → Prop} (h : Sat K α B H (.ok a μ) P) (w : Wd K B H α μ) : P a μ α B H := h α B H Mv.refl w
end
/-- what a value's end wants -/
abbrev PV (K : PySem.W.Frag) (Q : VK) : Sl → Mem → List Addr → Hp → Hp → Prop := fun s _ α' B' H' => ∀ x, SlR K B' α' x s → Q x H'
abbrev PVs (K : PySem.W.Frag) (Q : List V → Hp → Prop) : List Sl → Mem → List Addr → Hp → Hp → Prop := fun ss _ α' B' H' => ∀ xs, SlA K B' α' xs ss → Q xs H'
abbrev PB (Q : Bool → Hp → Prop) : Bool → Mem → List Addr → Hp → Hp → Prop := fun b _ _ _ H' => Q b H'
abbrev ME := Ro → Mem → Res Sl
abbrev MA := Ro → Mem → Res (List Sl)
abbrev MT := Ro → Mem → Res Bool
def RdE (K : PySem.W.Frag) (te : TE) (m : ME) : Prop := ∀ (α : List Addr) (B H : Hp) (μ : Mem) (σ : L2.St) (ρ : Ro) (Q : VK), Wd K B H α μ → EnvR K B α σ ρ → Sat K α B H (m ρ μ) (PV K Q) → te σ H Q
def RdA (K : PySem.W.Frag) (ta : TA) (m : MA) : Prop := ∀ (α : List Addr) (B H : Hp) (μ : Mem) (σ : L2.St) (ρ : Ro) (Q : List V → Hp → Prop), Wd K B H α μ → EnvR K B α σ ρ → Sat K α B H (m ρ μ) (PVs K Q) → ta σ H Q
def RdT (K : PySem.W.Frag) (tt : TT) (m : MT) : Prop := ∀ (α : List Addr) (B H : Hp) (μ : Mem) (σ : L2.St) (ρ : Ro) (Q : Bool → Hp → Prop), Wd K B H α μ → EnvR K B α σ ρ → Sat K α B H (m ρ μ) (PB Q) → tt σ H Q
/-- two operands by values | one | a list of arguments -/
abbrev O2 := Sl → Sl → Mem → Res Sl
def RdO (K : PySem.W.Frag) (r : R2) (f : O2) : Prop := ∀ (α : List Addr) (B H : Hp) (μ : Mem) (x y : V) (s t : Sl) (Q : VK), Wd K B H α μ → SlR K B α x s → SlR K B α y t → Sat K α B H (f s t μ) (PV K Q) → r x y H Q
def RdU (K : PySem.W.Frag) (r : V → Hp → VK → Prop) (f : Sl → Mem → Res Sl) : Prop := ∀ (α : List Addr) (B H : Hp) (μ : Mem) (x : V) (s : Sl) (Q : VK), Wd K B H α μ → SlR K B α x s → Sat K α B H (f s μ) (PV K Q) → r x H Q
def RdC (K : PySem.W.Frag) (r : List V → Hp → VK → Prop) (f : List Sl → Mem → Res Sl) : Prop := ∀ (α : List Addr) (B H : Hp) (μ : Mem) (xs : List V) (ss : List Sl) (Q : VK), Wd K B H α μ → SlA K B α xs ss → Sat K α B H (f ss μ) (PV K Q) → r xs H Q

/-! ### expressions -/
def mVar (i : Nat) : ME := fun ρ μ => match ρ[i]? with
  | some (some s) => .ok s μ
  | _ => .no
def mC (d : PyData) : ME := fun _ μ => .ok (.v d) μ
def mOp (f : O2) (a b : ME) : ME := fun ρ μ => (a ρ μ).bind fun x μ1 => (b ρ μ1).bind fun y μ2 => f x y μ2
def mUn (f : Sl → Mem → Res Sl) (a : ME) : ME := fun ρ μ => (a ρ μ).bind f
def mNil : MA := fun _ μ => .ok [] μ
def mCons (a : ME) (b : MA) : MA := fun ρ μ => (a ρ μ).bind fun x μ1 => (b ρ μ1).bind fun xs μ2 => .ok (x :: xs) μ2
def mCB (f : List Sl → Mem → Res Sl) (a : MA) : ME := fun ρ μ => (a ρ μ).bind f
def mIf (t : MT) (a b : ME) : ME := fun ρ μ => (t ρ μ).bind fun c μ1 => if c = true then a ρ μ1 else b ρ μ1
section
variable {K : PySem.W.Frag} {ta tb te : TE} {a b m : ME} {t u : TT} {p q : MT}
theorem rd_var {i : Nat} : RdE K (tVar i) (mVar i) := by
  intro α B H μ σ ρ Q w e h
  unfold mVar at h
  cases r : ρ[i]? with
  | none => rw [r] at h; exact h.elim
  | some o =>
    cases o with
    | none => rw [r] at h; exact h.elim
    | some s =>
      rw [r] at h
      obtain ⟨v, e1, e2⟩ := e.2 i s r
      exact ⟨v, e1, h.ok w v e2⟩
/-- a constant, at every heap -/
theorem rd_c {v : V} {d : PyData} (hd : ∀ H : Hp, Dt K H v d) : RdE K (tC v) (mC d) := fun _ B _ _ _ _ _ w _ h => Sat.ok h w v (.v (hd B))
theorem rd_op {r : R2} {f : O2} (ho : RdO K r f) (ha : RdE K ta a) (hb : RdE K tb b) : RdE K (tOp r ta tb) (mOp f a b) := by
  intro α B H μ σ ρ Q w e h
  refine ha _ _ _ _ _ _ _ w e (Sat.imp (Sat.bind h) fun s μ1 α1 B1 H1 m1 w1 h1 x rx => ?_)
  refine hb _ _ _ _ _ _ _ w1 (e.mono m1) (Sat.imp (Sat.bind h1) fun t μ2 α2 B2 H2 m2 w2 h2 y ry => ?_)
  exact ho _ _ _ _ _ _ _ _ _ w2 (rx.mono m2) ry h2
theorem rd_un {r : V → Hp → VK → Prop} {f : Sl → Mem → Res Sl} (ho : RdU K r f) (ha : RdE K ta a) : RdE K (tUn r ta) (mUn f a) := by
  intro α B H μ σ ρ Q w e h
  exact ha _ _ _ _ _ _ _ w e (Sat.imp (Sat.bind h) fun s μ1 α1 B1 H1 m1 w1 h1 x rx => ho _ _ _ _ _ _ _ w1 rx h1)
theorem rd_nil : RdA K tNil mNil := fun _ _ _ _ _ _ _ w _ h => Sat.ok h w [] .nil
theorem rd_cons {tr : TA} {c : MA} (ha : RdE K ta a) (hr : RdA K tr c) : RdA K (tCons ta tr) (mCons a c) := by
  intro α B H μ σ ρ Q w e h
  refine ha _ _ _ _ _ _ _ w e (Sat.imp (Sat.bind h) fun s μ1 α1 B1 H1 m1 w1 h1 x rx => ?_)
  refine hr _ _ _ _ _ _ _ w1 (e.mono m1) (Sat.imp (Sat.bind h1) fun ss μ2 α2 B2 H2 m2 w2 h2 xs rxs => ?_)
  exact Sat.ok h2 w2 (x :: xs) (.cons (rx.mono m2) rxs)
theorem rd_cb {r : List V → Hp → VK → Prop} {f : List Sl → Mem → Res Sl} {tr : TA} {c : MA} (hc : RdC K r f) (hr : RdA K tr c) : RdE K (tCB r tr) (mCB f c) := by
  intro α B H μ σ ρ Q w e h
  exact hr _ _ _ _ _ _ _ w e (Sat.imp (Sat.bind h) fun ss μ1 α1 B1 H1 m1 w1 h1 xs rxs => hc _ _ _ _ _ _ _ w1 rxs h1)
theorem rd_if (ht : RdT K t p) (ha : RdE K ta a) (hb : RdE K tb b) : RdE K (tIf t ta tb) (mIf p a b) := by
  intro α B H μ σ ρ Q w e h
  refine ht _ _ _ _ _ _ _ w e (Sat.imp (Sat.bind h) fun c μ1 α1 B1 H1 m1 w1 h1 => ?_)
  cases c with
  | true => exact ha _ _ _ _ _ _ _ w1 (e.mono m1) h1
  | false => exact hb _ _ _ _ _ _ _ w1 (e.mono m1) h1
/-! ### tests -/
/-- the truth of a value that is True or False -/
def oB (s : Sl) (μ : Mem) : Res Bool := match s with
  | .v (.bool b) => .ok b μ
  | _ => .no
def mTB (a : ME) : MT := fun ρ μ => (a ρ μ).bind oB
def mAnd (p q : MT) : MT := fun ρ μ => (p ρ μ).bind fun c μ1 => if c = true then q ρ μ1 else .ok false μ1
def mOr (p q : MT) : MT := fun ρ μ => (p ρ μ).bind fun c μ1 => if c = true then .ok true μ1 else q ρ μ1
def mNot (p : MT) : MT := fun ρ μ => (p ρ μ).bind fun c μ1 => .ok (!c) μ1
/-- a and b, a or b, not a as values (True, False in all but the last) -/
def mAndV (a b : ME) : ME := fun ρ μ => (a ρ μ).bind fun s μ1 => (oB s μ1).bind fun c μ2 => if c = true then b ρ μ2 else .ok (.v (.bool false)) μ2
def mOrV (a b : ME) : ME := fun ρ μ => (a ρ μ).bind fun s μ1 => (oB s μ1).bind fun c μ2 => if c = true then .ok (.v (.bool true)) μ2 else b ρ μ2
def mNotV (a : ME) : ME := fun ρ μ => (a ρ μ).bind fun s μ1 => (oB s μ1).bind fun c μ2 => .ok (.v (.bool !c)) μ2
theorem oB_sat {α : List Addr} {B H : Hp} {μ : Mem} {s : Sl} {x : V} {P : Bool → Mem → List Addr → Hp → Hp → Prop} (w : Wd K B H α μ) (r : SlR K B α x s) (h : Sat K α B H (oB s μ) P) : ∃ c, x = .bl c ∧ P c μ α B H := by
  cases r with
  | o _ => exact h.elim
  | s _ _ => exact h.elim
  | v d =>
    cases d with
    | bl b => exact ⟨b, rfl, Sat.ok h w⟩
    | _ => exact h.elim
theorem rt_B (ha : RdE K ta a) : RdT K (tB ta) (mTB a) := by
  intro α B H μ σ ρ Q w e h
  exact ha _ _ _ _ _ _ _ w e (Sat.imp (Sat.bind h) fun s μ1 α1 B1 H1 m1 w1 h1 x rx => oB_sat w1 rx h1)
theorem rt_test (ha : RdE K ta a) : RdT K (tTest ta) (mTB a) := by
  intro α B H μ σ ρ Q w e h
  exact ha _ _ _ _ _ _ _ w e (Sat.imp (Sat.bind h) fun s μ1 α1 B1 H1 m1 w1 h1 x rx => oB_sat w1 rx h1)
theorem rt_and (hp : RdT K t p) (hq : RdT K u q) : RdT K (tAnd t u) (mAnd p q) := by
  intro α B H μ σ ρ Q w e h
  refine hp _ _ _ _ _ _ _ w e (Sat.imp (Sat.bind h) fun c μ1 α1 B1 H1 m1 w1 h1 => ?_)
  cases c with
  | true => exact hq _ _ _ _ _ _ _ w1 (e.mono m1) h1
  | false => exact Sat.ok h1 w1
theorem rt_or (hp : RdT K t p) (hq : RdT K u q) : RdT K (tOr t u) (mOr p q) := by
  intro α B H μ σ ρ Q w e h
  refine hp _ _ _ _ _ _ _ w e (Sat.imp (Sat.bind h) fun c μ1 α1 B1 H1 m1 w1 h1 => ?_)
  cases c with
  | false => exact hq _ _ _ _ _ _ _ w1 (e.mono m1) h1
  | true => exact Sat.ok h1 w1
theorem rt_not (hp : RdT K t p) : RdT K (tNot t) (mNot p) := by
  intro α B H μ σ ρ Q w e h
  exact hp _ _ _ _ _ _ _ w e (Sat.imp (Sat.bind h) fun c μ1 α1 B1 H1 m1 w1 h1 => Sat.ok h1 w1)
theorem rd_andV (ha : RdE K ta a) (hb : RdE K tb b) : RdE K (tAndV ta tb) (mAndV a b) := by
  intro α B H μ σ ρ Q w e h
  refine ha _ _ _ _ _ _ _ w e (Sat.imp (Sat.bind h) fun s μ1 α1 B1 H1 m1 w1 h1 x rx => ?_)
  obtain ⟨c, rfl, h2⟩ := oB_sat w1 rx (Sat.bind h1)
  refine ⟨c, rfl, ?_⟩
  cases c with
  | true => exact hb _ _ _ _ _ _ _ w1 (e.mono m1) h2
  | false => exact Sat.ok h2 w1 _ (.v (.bl false))
theorem rd_orV (ha : RdE K ta a) (hb : RdE K tb b) : RdE K (tOrV ta tb) (mOrV a b) := by
  intro α B H μ σ ρ Q w e h
  refine ha _ _ _ _ _ _ _ w e (Sat.imp (Sat.bind h) fun s μ1 α1 B1 H1 m1 w1 h1 x rx => ?_)
  obtain ⟨c, rfl, h2⟩ := oB_sat w1 rx (Sat.bind h1)
  refine ⟨c, rfl, ?_⟩
  cases c with
  | false => exact hb _ _ _ _ _ _ _ w1 (e.mono m1) h2
  | true => exact Sat.ok h2 w1 _ (.v (.bl true))
theorem rd_notV (ha : RdE K ta a) : RdE K (tNotV ta) (mNotV a) := by
  intro α B H μ σ ρ Q w e h
  refine ha _ _ _ _ _ _ _ w e (Sat.imp (Sat.bind h) fun s μ1 α1 B1 H1 m1 w1 h1 x rx => ?_)
  obtain ⟨c, rfl, h2⟩ := oB_sat w1 rx (Sat.bind h1)
  exact ⟨c, rfl, Sat.ok h2 w1 _ (.v (.bl _))⟩
end
end Ly
set_option Elab.async false
set_option maxRecDepth 100000
/-! Ly, part B: operators and built-ins over data -/
namespace Ly
open PySem PySem.Spec PyProof.Rows L2
open Evl (Ex ex_rd ex_l ex_t fresh_back)

/-! ### what a slot's value is, to be read -/
def lsOf (s : Sl) (μ : Mem) : Option (List PyData) := match s with
  | .v (.list ds) => some ds
  | .o h => (match μ[h]? with
    | some (some ds) => some ds
    | _ => none)
  | _ => none
def rdOf (s : Sl) (μ : Mem) : Option (List PyData) := match s with
  | .s ds => some ds
  | _ => lsOf s μ
def tuOf (s : Sl) : Option (List PyData) := match s with
  | .v (.tuple ds) => some ds
  | _ => none
def daOf (s : Sl) (μ : Mem) : Option PyData := match s with
  | .v d => some d
  | _ => (rdOf s μ).map PyData.list
section
variable {K : PySem.W.Frag} {B H B1 H1 B2 H2 : Hp} {α α1 α2 : List Addr} {μ μ1 : Mem}
theorem lsOf_ok {s : Sl} {x : V} {ds : List PyData} (w : Wd K B H α μ) (r : SlR K B α x s) (h : lsOf s μ = some ds) : ∃ a xs, x = .ref a ∧ H a = some (.lst xs) ∧ DtAll K B xs ds := by
  cases r with
  | s _ _ => cases h
  | o e =>
    rename_i p j
    have h2 : (match μ[j]? with
      | some (some ds) => some ds
      | _ => none) = some ds := h
    split at h2
    · rename_i q2
      cases h2
      obtain ⟨b, xs, hx, hd⟩ := w.own _ _ _ e q2
      exact ⟨p, xs, rfl, hx, hd⟩
    · cases h2
  | v d =>
    rename_i dd
    cases d with
    | lst h1 h2 => cases h; exact ⟨_, _, rfl, w.bh _ _ h1, h2⟩
    | _ => cases h
theorem rdOf_ok {s : Sl} {x : V} {ds : List PyData} (w : Wd K B H α μ) (r : SlR K B α x s) (h : rdOf s μ = some ds) : ∃ a xs, x = .ref a ∧ SqL K H a xs ∧ DtAll K B xs ds := by
  cases r with
  | s h1 h2 => cases h; exact ⟨_, _, rfl, ex_l w.bh h1, h2⟩
  | o e =>
    obtain ⟨a, xs, e1, h1, h2⟩ := lsOf_ok w (.o e) h
    exact ⟨a, xs, e1, .inl (.inl h1), h2⟩
  | v d =>
    obtain ⟨a, xs, e1, h1, h2⟩ := lsOf_ok w (.v d) h
    exact ⟨a, xs, e1, .inl (.inl h1), h2⟩
theorem tuOf_ok {s : Sl} {x : V} {ds : List PyData} (w : Wd K B H α μ) (r : SlR K B α x s) (h : tuOf s = some ds) : ∃ a xs, x = .ref a ∧ SqT K B a xs ∧ SqT K H a xs ∧ DtAll K B xs ds := by
  cases r with
  | s _ _ => cases h
  | o e => cases h
  | v d =>
    cases d with
    | tup h1 h2 => cases h; exact ⟨_, _, rfl, h1, ex_t w.bh h1, h2⟩
    | _ => cases h
theorem daOf_ok {s : Sl} {x : V} {d : PyData} (w : Wd K B H α μ) (r : SlR K B α x s) (h : daOf s μ = some d) : Dp K H x d := by
  have key : ∀ {ds : List PyData}, rdOf s μ = some ds → Dp K H x (.list ds) := fun {ds} e => by
    obtain ⟨a, xs, rfl, h1, h2⟩ := rdOf_ok w r e
    exact .lst h1 (DtAll.dp _ _ (dpa_mono w.bh _ _ h2))
  cases r with
  | v dd => cases h; exact Dt.dp _ _ (dp_mono w.bh _ _ dd)
  | o e =>
    obtain ⟨ds, e1, e2⟩ := Option.map_eq_some_iff.mp (show (rdOf (.o _) μ).map PyData.list = some d from h)
    cases e2
    exact key e1
  | s h1 h2 =>
    obtain ⟨ds, e1, e2⟩ := Option.map_eq_some_iff.mp (show (rdOf (.s _) μ).map PyData.list = some d from h)
    cases e2
    exact key e1
/-- a new list, a new tuple as data -/
theorem sat_newL {xs : List V} {ds : List PyData} {Q : VK} (w : Wd K B H α μ) (hd : DtAll K B xs ds) (h : Sat K α B H (.ok (.v (.list ds)) μ) (PV K Q)) (p : Addr) (hp : H p = none) : Q (.ref p) (upd H p (.lst xs)) := by
  obtain ⟨m, w'⟩ := w.lay (o := .lst xs) hp
  exact h α _ _ m w' (.ref p) (.v (.lst upd_same (dpa_mono m.bb _ _ hd)))
theorem sat_newT {xs : List V} {ds : List PyData} {Q : VK} (w : Wd K B H α μ) (hd : DtAll K B xs ds) (h : Sat K α B H (.ok (.v (.tuple ds)) μ) (PV K Q)) (p : Addr) (hp : H p = none) : Q (.ref p) (upd H p (.tup xs)) := by
  obtain ⟨m, w'⟩ := w.lay (o := .tup xs) hp
  exact h α _ _ m w' (.ref p) (.v (.tup (.inl (.inl upd_same)) (dpa_mono m.bb _ _ hd)))
theorem sat_val {x : V} {d : PyData} {Q : VK} (w : Wd K B H α μ) (hd : Dt K B x d) (h : Sat K α B H (.ok (.v d) μ) (PV K Q)) : Q x H := Sat.ok h w x (.v hd)
end

/-! ### arithmetic -/
/-- the lines that the machine's sizes draw -/
abbrev capN : Nat := 100000
/- a choice, so that the kernel does not count by successors -/
theorem smEx (i : Int) : ∃ b : Bool, b = decide (i.natAbs.log2 < 400000) := ⟨_, rfl⟩
noncomputable def Sm (i : Int) : Bool := Classical.choose (smEx i)
theorem Sm_eq (i : Int) : Sm i = decide (i.natAbs.log2 < 400000) := Classical.choose_spec (smEx i)
theorem cap_le {n : Nat} (h : n ≤ capN) : n ≤ sizeLine := Nat.le_trans h (by decide)
def guardR (c : Bool) (r : Res Sl) : Res Sl := if c = true then r else .no
theorem sat_guard {K : PySem.W.Frag} {α : List Addr} {B H : Hp} {c : Bool} {r : Res Sl} {P : Sl → Mem → List Addr → Hp → Hp → Prop} (h : Sat K α B H (guardR c r) P) : c = true ∧ Sat K α B H r P := by
  unfold guardR at h
  split at h
  · exact ⟨by assumption, h⟩
  · exact h.elim
def oInt (g : Int → Int → Res Sl) (s t : Sl) : Res Sl := match s, t with
  | .v (.int i), .v (.int j) => g i j
  | _, _ => .no
theorem int2_ok {K : PySem.W.Frag} {α : List Addr} {B H : Hp} {s t : Sl} {x y : V} {g : Int → Int → Res Sl} {P : Sl → Mem → List Addr → Hp → Hp → Prop} (rx : SlR K B α x s) (ry : SlR K B α y t) (h : Sat K α B H (oInt g s t) P) :
    ∃ i j, x = .int i ∧ y = .int j ∧ Sat K α B H (g i j) P := by
  cases rx with
  | o _ => exact h.elim
  | s _ _ => exact h.elim
  | v dx =>
    cases ry with
    | o _ => cases dx <;> exact h.elim
    | s _ _ => cases dx <;> exact h.elim
    | v dy => cases dx <;> cases dy <;> first | exact h.elim | exact ⟨_, _, rfl, rfl, h⟩
def oSub : O2 := fun s t μ => oInt (fun i j => .ok (.v (.int (i - j))) μ) s t
noncomputable def oMulI : O2 := fun s t μ => oInt (fun i j => guardR (Sm i && Sm j) (.ok (.v (.int (i * j))) μ)) s t
def oFdiv : O2 := fun s t μ => oInt (fun i j => guardR (decide (0 < j) && decide (j.natAbs.log2 < 9000)) (.ok (.v (.int (i / j))) μ)) s t
def oFdivN : O2 := fun s t μ => oInt (fun i j => guardR (decide (j ≠ 0) && decide (j.natAbs < 1073741824)) (.ok (.v (.int (i.fdiv j))) μ)) s t
def oMod : O2 := fun s t μ => oInt (fun i j => guardR (decide (0 < j)) (.ok (.v (.int (i % j))) μ)) s t
def oPow : O2 := fun s t μ => oInt (fun i j => guardR (decide (0 ≤ j) && decide (j ≤ 1000000) && decide (i.natAbs < 2 ^ 64)) (.ok (.v (.int (i ^ j.toNat))) μ)) s t
def oCmp (p : Int → Int → Bool) : O2 := fun s t μ => oInt (fun i j => .ok (.v (.bool (p i j))) μ) s t
section
variable {K : PySem.W.Frag}
theorem rdo_I0 {g : Int → Int → Int} : RdO K (rI0 fun i j => .int (g i j)) (fun s t μ => oInt (fun i j => .ok (.v (.int (g i j))) μ) s t) := by
  intro α B H μ x y s t Q w rx ry h
  obtain ⟨i, j, rfl, rfl, h⟩ := int2_ok rx ry h
  exact ⟨i, j, rfl, rfl, sat_val w (.int _) h⟩
theorem rdo_sub : RdO K (rI0 fun i j => .int (i - j)) oSub := rdo_I0
theorem rdo_cmp {p : Int → Int → Bool} : RdO K (rI0 fun i j => .bl (p i j)) (oCmp p) := by
  intro α B H μ x y s t Q w rx ry h
  obtain ⟨i, j, rfl, rfl, h⟩ := int2_ok rx ry h
  exact ⟨i, j, rfl, rfl, sat_val w (.bl _) h⟩
theorem sm_mul {i j : Int} (h : (Sm i && Sm j) = true) : CMulW i j := by
  obtain ⟨a, b⟩ := Bool.and_eq_true_iff.mp h
  rw [Sm_eq] at a b
  have a := of_decide_eq_true a
  have b := of_decide_eq_true b
  unfold CMulW
  omega
theorem rdo_mulI : RdO K (rI CMulW fun i j => .int (i * j)) oMulI := by
  intro α B H μ x y s t Q w rx ry h
  obtain ⟨i, j, rfl, rfl, h⟩ := int2_ok rx ry h
  obtain ⟨c, h⟩ := sat_guard h
  exact ⟨i, j, rfl, rfl, sm_mul c, sat_val w (.int _) h⟩
theorem rdo_fdiv : RdO K (rI CDivW fun i j => .int (i / j)) oFdiv := by
  intro α B H μ x y s t Q w rx ry h
  obtain ⟨i, j, rfl, rfl, h⟩ := int2_ok rx ry h
  obtain ⟨c, h⟩ := sat_guard h
  obtain ⟨a, b⟩ := Bool.and_eq_true_iff.mp c
  exact ⟨i, j, rfl, rfl, ⟨of_decide_eq_true a, of_decide_eq_true b⟩, sat_val w (.int _) h⟩
theorem rdo_mod : RdO K (rI (fun _ j => 0 < j) fun i j => .int (i % j)) oMod := by
  intro α B H μ x y s t Q w rx ry h
  obtain ⟨i, j, rfl, rfl, h⟩ := int2_ok rx ry h
  obtain ⟨c, h⟩ := sat_guard h
  exact ⟨i, j, rfl, rfl, of_decide_eq_true c, sat_val w (.int _) h⟩
theorem rdo_pow : RdO K (rI CPow fun i j => .int (i ^ j.toNat)) oPow := by
  intro α B H μ x y s t Q w rx ry h
  obtain ⟨i, j, rfl, rfl, h⟩ := int2_ok rx ry h
  obtain ⟨c, h⟩ := sat_guard h
  obtain ⟨ab, c3⟩ := Bool.and_eq_true_iff.mp c
  obtain ⟨a, b⟩ := Bool.and_eq_true_iff.mp ab
  exact ⟨i, j, rfl, rfl, ⟨of_decide_eq_true a, of_decide_eq_true b, of_decide_eq_true c3⟩, sat_val w (.int _) h⟩
end

/-! ### + and * of lists and tuples -/
def oCatT : O2 := fun s t μ => match tuOf s, tuOf t with
  | some xs, some ys => guardR (decide (xs.length + ys.length ≤ capN)) (.ok (.v (.tuple (xs ++ ys))) μ)
  | _, _ => .no
def oCatL : O2 := fun s t μ => match lsOf s μ, lsOf t μ with
  | some xs, some ys => guardR (decide (xs.length + ys.length ≤ capN)) (.ok (.v (.list (xs ++ ys))) μ)
  | _, _ => .no
/-- + of anything -/
def oAdd : O2 := fun s t μ => match s with
  | .v (.int i) => (match t with
    | .v (.int j) => .ok (.v (.int (i + j))) μ
    | _ => .no)
  | .v (.tuple _) => oCatT s t μ
  | _ => oCatL s t μ
def rAddA (K : PySem.W.Frag) : R2 := fun x y H Q => rI0 (fun i j => .int (i + j)) x y H Q ∨ (rCatA K x y H Q ∨ rCat x y H Q)
theorem op_addA {X : Cx} : OpR X (binaryOp .Add) (rAddA X.K) := OpR.or op_add (OpR.or op_catA op_cat)
def oRepT : O2 := fun s t μ => match tuOf s, t with
  | some xs, .v (.int k) => guardR (!xs.isEmpty && decide (2 ≤ k) && decide (k ≤ 1000) && decide (xs.length ≤ 1000)) (.ok (.v (.tuple (List.replicate k.toNat xs).flatten)) μ)
  | _, _ => .no
def oRepL : O2 := fun s t μ => match lsOf s μ, t with
  | some xs, .v (.int k) => guardR (decide (-1000 ≤ k) && decide (k ≤ 1000) && decide (xs.length ≤ 100)) (.ok (.v (.list (List.replicate k.toNat xs).flatten)) μ)
  | _, _ => .no
/-- * of anything -/
noncomputable def oMul : O2 := fun s t μ => match s with
  | .v (.int _) => oMulI s t μ
  | .v (.tuple _) => oRepT s t μ
  | _ => oRepL s t μ
def rMulA (K : PySem.W.Frag) : R2 := fun x y H Q => rI CMulW (fun i j => .int (i * j)) x y H Q ∨ (rRepT K x y H Q ∨ rRep x y H Q)
theorem op_mulA {X : Cx} : OpR X (binaryOp .Mult) (rMulA X.K) := OpR.or op_mulW (OpR.or op_repT op_rep)
section
variable {K : PySem.W.Frag}
theorem dta_nil {H : Hp} {xs : List V} {ds : List PyData} (h : DtAll K H xs ds) : xs = [] ↔ ds = [] := by
  cases h <;> simp
theorem rdo_catT : RdO K (rCatA K) oCatT := by
  intro α B H μ x y s t Q w rx ry h
  unfold oCatT at h
  split at h
  · rename_i xs ys e1 e2
    obtain ⟨c, h⟩ := sat_guard h
    have hz := of_decide_eq_true c
    obtain ⟨a, us, rfl, b1, h1, d1⟩ := tuOf_ok w rx e1
    obtain ⟨b, vs, rfl, b2, h2, d2⟩ := tuOf_ok w ry e2
    refine ⟨a, b, us, vs, rfl, rfl, h1, h2, by rw [dpa_len d1, dpa_len d2]; exact cap_le hz, fun z => ?_, fun z1 z2 => ?_, fun z1 z2 p hp => ?_⟩
    · have e := (dta_nil d1).mp z
      subst e
      exact sat_val w (.tup b2 d2) h
    · have e := (dta_nil d2).mp z2
      subst e
      rw [List.append_nil] at h
      exact sat_val w (.tup b1 d1) h
    · exact sat_newT w (dpa_app d1 d2) h p hp
  · exact h.elim
theorem rdo_catL : RdO K rCat oCatL := by
  intro α B H μ x y s t Q w rx ry h
  unfold oCatL at h
  split at h
  · rename_i xs ys e1 e2
    obtain ⟨c, h⟩ := sat_guard h
    have hz := of_decide_eq_true c
    obtain ⟨a, us, rfl, h1, d1⟩ := lsOf_ok w rx e1
    obtain ⟨b, vs, rfl, h2, d2⟩ := lsOf_ok w ry e2
    exact ⟨a, b, us, vs, rfl, rfl, h1, h2, by rw [dpa_len d1, dpa_len d2]; exact cap_le hz, fun p hp => sat_newL w (dpa_app d1 d2) h p hp⟩
  · exact h.elim
theorem rdo_add : RdO K (rAddA K) oAdd := by
  intro α B H μ x y s t Q w rx ry h
  unfold oAdd at h
  split at h
  · split at h
    · cases rx with
      | v dx =>
        cases ry with
        | v dy => cases dx; cases dy; exact .inl ⟨_, _, rfl, rfl, sat_val w (.int _) h⟩
    · exact h.elim
  · exact .inr (.inl (rdo_catT _ _ _ _ _ _ _ _ _ w rx ry h))
  · exact .inr (.inr (rdo_catL _ _ _ _ _ _ _ _ _ w rx ry h))
theorem rdo_repT : RdO K (rRepT K) oRepT := by
  intro α B H μ x y s t Q w rx ry h
  unfold oRepT at h
  split at h
  · rename_i xs k e1
    obtain ⟨c, h⟩ := sat_guard h
    simp only [Bool.and_eq_true, decide_eq_true_eq] at c
    obtain ⟨⟨⟨c1, c2⟩, c3⟩, c4⟩ := c
    obtain ⟨a, us, rfl, b1, h1, d1⟩ := tuOf_ok w rx e1
    cases ry with
    | v dy =>
      cases dy
      refine ⟨a, k, us, rfl, rfl, h1, fun z => ?_, c2, c3, by rw [dpa_len d1]; exact c4, fun p hp => sat_newT w (dpa_rep d1 _) h p hp⟩
      have e := (dta_nil d1).mp z
      subst e
      cases c1
  · exact h.elim
theorem rdo_repL : RdO K rRep oRepL := by
  intro α B H μ x y s t Q w rx ry h
  unfold oRepL at h
  split at h
  · rename_i xs k e1
    obtain ⟨c, h⟩ := sat_guard h
    simp only [Bool.and_eq_true, decide_eq_true_eq] at c
    obtain ⟨⟨c2, c3⟩, c4⟩ := c
    obtain ⟨a, us, rfl, h1, d1⟩ := lsOf_ok w rx e1
    cases ry with
    | v dy =>
      cases dy
      refine ⟨a, k, us, rfl, rfl, h1, by omega, by omega, ?_, fun p hp => sat_newL w (dpa_rep d1 _) h p hp⟩
      rw [dpa_len d1]
      refine cap_le (Nat.le_trans (Nat.mul_le_mul c4 (show k.toNat ≤ 1000 by omega)) (by decide))
  · exact h.elim
theorem rdo_mul : RdO K (rMulA K) oMul := by
  intro α B H μ x y s t Q w rx ry h
  unfold oMul at h
  split at h
  · exact .inl (rdo_mulI _ _ _ _ _ _ _ _ _ w rx ry h)
  · exact .inr (.inl (rdo_repT _ _ _ _ _ _ _ _ _ w rx ry h))
  · exact .inr (.inr (rdo_repL _ _ _ _ _ _ _ _ _ w rx ry h))
end

/-! ### == and !=, whatever they are -/
def oEq (neg : Bool) : O2 := fun s t μ => match daOf s μ, daOf t μ with
  | some d, some e => guardR (SeqAt.shaped d && SeqAt.shaped e) (.ok (.v (.bool (if neg then !PyData.eqv d e else PyData.eqv d e))) μ)
  | _, _ => .no
section
variable {K : PySem.W.Frag}
theorem rdo_eq : RdO K (rEqD K) (oEq false) := by
  intro α B H μ x y s t Q w rx ry h
  unfold oEq at h
  split at h
  · rename_i d e e1 e2
    obtain ⟨c, h⟩ := sat_guard h
    obtain ⟨a, b⟩ := Bool.and_eq_true_iff.mp c
    exact ⟨d, e, daOf_ok w rx e1, daOf_ok w ry e2, a, b, sat_val w (.bl _) h⟩
  · exact h.elim
theorem rdo_ne : RdO K (rNeD K) (oEq true) := by
  intro α B H μ x y s t Q w rx ry h
  unfold oEq at h
  split at h
  · rename_i d e e1 e2
    obtain ⟨c, h⟩ := sat_guard h
    obtain ⟨a, b⟩ := Bool.and_eq_true_iff.mp c
    exact ⟨d, e, daOf_ok w rx e1, daOf_ok w ry e2, a, b, sat_val w (.bl _) h⟩
  · exact h.elim
end

/-! ### subscripts -/
def oIx : O2 := fun s t μ => match t with
  | .v (.int i) => (match tuOf s with
    | some ds => (match atI ds i with
      | some d => .ok (.v d) μ
      | none => .no)
    | none => (match rdOf s μ with
      | some ds => (match atI ds i with
        | some d => .ok (.v d) μ
        | none => .no)
      | none => .no))
  | _ => .no
section
variable {K : PySem.W.Frag}
theorem dta_at {H : Hp} {xs : List V} {ds : List PyData} {i : Int} {d : PyData} (h : DtAll K H xs ds) (e : atI ds i = some d) : ∃ v, atI xs i = some v ∧ Dt K H v d := by
  unfold atI at e ⊢
  rw [dpa_len h]
  cases q : ixN ds.length i with
  | none => rw [q] at e; cases e
  | some j =>
    rw [q] at e
    exact dpa_get h e
theorem rdo_ix : RdO K (fun x y H Q => rIxL K x y H Q ∨ rIxT K x y H Q) oIx := by
  intro α B H μ x y s t Q w rx ry h
  unfold oIx at h
  split at h
  · rename_i i
    cases ry with
    | v dy =>
      cases dy
      split at h
      · rename_i ds e1
        split at h
        · rename_i d e2
          obtain ⟨a, us, rfl, b1, h1, d1⟩ := tuOf_ok w rx e1
          obtain ⟨v, e3, hv⟩ := dta_at d1 e2
          exact .inr ⟨a, us, i, v, rfl, rfl, h1, e3, sat_val w hv h⟩
        · exact h.elim
      · split at h
        · rename_i ds e1
          split at h
          · rename_i d e2
            obtain ⟨a, us, rfl, h1, d1⟩ := rdOf_ok w rx e1
            obtain ⟨v, e3, hv⟩ := dta_at d1 e2
            exact .inl ⟨a, us, i, v, rfl, rfl, h1, e3, sat_val w hv h⟩
          · exact h.elim
        · exact h.elim
  · exact h.elim
end
theorem ix_both {X : Cx} : IxR X (fun x y H Q => rIxL X.K x y H Q ∨ rIxT X.K x y H Q) := IxR.or ix_list ix_tup

/-! ### slices -/
def cutD (ds : List PyData) (lo hi : Option Int) : List PyData := (ds.drop (HT.sIx ds.length 0 lo)).take (HT.sIx ds.length ds.length hi - HT.sIx ds.length 0 lo)
abbrev MO := Ro → Mem → Res (Option Int)
def RdP (K : PySem.W.Frag) (to : TO) (m : MO) : Prop := ∀ (α : List Addr) (B H : Hp) (μ : Mem) (σ : L2.St) (ρ : Ro) (Q : Option Int → Hp → Prop), Wd K B H α μ → EnvR K B α σ ρ → Sat K α B H (m ρ μ) (fun o _ _ _ H' => Q o H') → to σ H Q
def mNoP : MO := fun _ μ => .ok none μ
def mPart (a : ME) : MO := fun ρ μ => (a ρ μ).bind fun s μ1 => match s with
  | .v (.int i) => .ok (some i) μ1
  | _ => .no
def oSl (s : Sl) (lo hi : Option Int) (μ : Mem) : Res Sl := match tuOf s with
  | some ds => .ok (.v (.tuple (cutD ds lo hi))) μ
  | none => (match rdOf s μ with
    | some ds => .ok (.v (.list (cutD ds lo hi))) μ
    | none => .no)
def mSl (a : ME) (l u : MO) : ME := fun ρ μ => (a ρ μ).bind fun s μ1 => (l ρ μ1).bind fun lo μ2 => (u ρ μ2).bind fun hi μ3 => oSl s lo hi μ3
section
variable {K : PySem.W.Frag} {te : TE} {a : ME}
theorem rp_none : RdP K tNoPart mNoP := fun _ _ _ _ _ _ _ w _ h => Sat.ok h w
theorem rp_some (ha : RdE K te a) : RdP K (tPart te) (mPart a) := by
  intro α B H μ σ ρ Q w e h
  refine ha _ _ _ _ _ _ _ w e (Sat.imp (Sat.bind h) fun s μ1 α1 B1 H1 m1 w1 h1 x rx => ?_)
  split at h1
  · cases rx with
    | v d => cases d; exact ⟨_, rfl, Sat.ok h1 w1⟩
  · exact h1.elim
theorem dta_cut {H : Hp} {xs : List V} {ds : List PyData} (h : DtAll K H xs ds) (lo hi : Option Int) : DtAll K H (cutV xs lo hi) (cutD ds lo hi) := by
  unfold cutV cutD
  rw [dpa_len h]
  exact dpa_take _ (dpa_drop _ h)
theorem cutD_whole {ds : List PyData} {lo hi : Option Int} (h : HT.sIx ds.length 0 lo = 0 ∧ HT.sIx ds.length ds.length hi = ds.length) : cutD ds lo hi = ds := by
  unfold cutD
  rw [h.1, h.2]
  simp
def rSlB2 (K : PySem.W.Frag) : V → Option Int → Option Int → Hp → VK → Prop := fun x lo hi H Q => rSlL K x lo hi H Q ∨ rSlA K x lo hi H Q
theorem sl_both {X : Cx} : L2.SlR X (rSlB2 X.K) := L2.SlR.or sl_list sl_tupA
theorem rd_sl {tl tu : TO} {l u : MO} (ha : RdE K te a) (hl : RdP K tl l) (hu : RdP K tu u) : RdE K (tSl (rSlB2 K) te tl tu) (mSl a l u) := by
  intro α B H μ σ ρ Q w e h
  refine ha _ _ _ _ _ _ _ w e (Sat.imp (Sat.bind h) fun s μ1 α1 B1 H1 m1 w1 h1 x rx => ?_)
  refine hl _ _ _ _ _ _ _ w1 (e.mono m1) (Sat.imp (Sat.bind h1) fun lo μ2 α2 B2 H2 m2 w2 h2 => ?_)
  refine hu _ _ _ _ _ _ _ w2 (e.mono (m1.trans m2)) (Sat.imp (Sat.bind h2) fun hi μ3 α3 B3 H3 m3 w3 h3 => ?_)
  have rx := (rx.mono m2).mono m3
  unfold oSl at h3
  split at h3
  · rename_i ds e1
    obtain ⟨b, us, rfl, b1, hh, d1⟩ := tuOf_ok w3 rx e1
    refine .inr ⟨b, us, rfl, hh, fun z => ?_, fun z p hp => sat_newT w3 (dta_cut d1 lo hi) h3 p hp⟩
    rw [dpa_len d1] at z
    rw [cutD_whole z] at h3
    exact sat_val w3 (.tup b1 d1) h3
  · split at h3
    · rename_i ds e1
      obtain ⟨b, us, rfl, hh, d1⟩ := rdOf_ok w3 rx e1
      exact .inl ⟨b, us, rfl, hh, fun p hp => sat_newL w3 (dta_cut d1 lo hi) h3 p hp⟩
    · exact h3.elim
end

/-! ### displays -/
def dsOf : List Sl → Option (List PyData)
  | [] => some []
  | .v d :: r => (dsOf r).map (d :: ·)
  | _ :: _ => none
def mTup (a : MA) : ME := fun ρ μ => (a ρ μ).bind fun ss μ1 => match dsOf ss with
  | some ds => guardR (decide (ds.length ≤ capN)) (.ok (.v (.tuple ds)) μ1)
  | none => .no
def mLst (a : MA) : ME := fun ρ μ => (a ρ μ).bind fun ss μ1 => match dsOf ss with
  | some ds => guardR (decide (ds.length ≤ capN)) (.ok (.v (.list ds)) μ1)
  | none => .no
/-- a list of one's own -/
def mNew (a : MA) : ME := fun ρ μ => (a ρ μ).bind fun ss μ1 => match dsOf ss with
  | some ds => guardR (decide (ds.length ≤ capN)) (.ok (.o μ1.length) (μ1 ++ [some ds]))
  | none => .no
section
variable {K : PySem.W.Frag} {ta : TA} {a : MA}
theorem dsOf_ok {B : Hp} {α : List Addr} : ∀ {xs : List V} {ss : List Sl} {ds : List PyData}, SlA K B α xs ss → dsOf ss = some ds → DtAll K B xs ds
  | _, _, _, .nil, h => by cases h; exact .nil
  | _, _, _, .cons r t, h => by
    cases r with
    | o _ => cases h
    | s _ _ => cases h
    | v d =>
      obtain ⟨es, e1, e2⟩ := Option.map_eq_some_iff.mp h
      cases e2
      exact .cons d (dsOf_ok t e1)
theorem rd_tup (ha : RdA K ta a) : RdE K (tTup ta) (mTup a) := by
  intro α B H μ σ ρ Q w e h
  refine ha _ _ _ _ _ _ _ w e (Sat.imp (Sat.bind h) fun ss μ1 α1 B1 H1 m1 w1 h1 xs rxs => ?_)
  split at h1
  · rename_i ds e1
    obtain ⟨c, h1⟩ := sat_guard h1
    have d := dsOf_ok rxs e1
    exact ⟨by rw [dpa_len d]; exact cap_le (of_decide_eq_true c), fun p hp => sat_newT w1 d h1 p hp⟩
  · exact h1.elim
theorem rd_lst (ha : RdA K ta a) : RdE K (tLst ta) (mLst a) := by
  intro α B H μ σ ρ Q w e h
  refine ha _ _ _ _ _ _ _ w e (Sat.imp (Sat.bind h) fun ss μ1 α1 B1 H1 m1 w1 h1 xs rxs => ?_)
  split at h1
  · rename_i ds e1
    obtain ⟨c, h1⟩ := sat_guard h1
    have d := dsOf_ok rxs e1
    exact ⟨by rw [dpa_len d]; exact cap_le (of_decide_eq_true c), fun p hp => sat_newL w1 d h1 p hp⟩
  · exact h1.elim
theorem sat_newO {B H : Hp} {α : List Addr} {μ : Mem} {xs : List V} {ds : List PyData} {Q : VK} (w : Wd K B H α μ) (hd : DtAll K B xs ds) (h : Sat K α B H (.ok (.o μ.length) (μ ++ [some ds])) (PV K Q)) (p : Addr) (hp : H p = none) : Q (.ref p) (upd H p (.lst xs)) := by
  obtain ⟨m, w'⟩ := w.take hp hd
  exact h _ _ _ m w' (.ref p) (.o (by rw [← w.len, List.getElem?_append_right (Nat.le_refl _), Nat.sub_self]; rfl))
theorem rd_new (ha : RdA K ta a) : RdE K (tLst ta) (mNew a) := by
  intro α B H μ σ ρ Q w e h
  refine ha _ _ _ _ _ _ _ w e (Sat.imp (Sat.bind h) fun ss μ1 α1 B1 H1 m1 w1 h1 xs rxs => ?_)
  split at h1
  · rename_i ds e1
    obtain ⟨c, h1⟩ := sat_guard h1
    have d := dsOf_ok rxs e1
    exact ⟨by rw [dpa_len d]; exact cap_le (of_decide_eq_true c), fun p hp => sat_newO w1 d h1 p hp⟩
  · exact h1.elim
end
/-- a list of one's own, handed over -/
def mFrz (i : Nat) : ME := fun ρ μ => match ρ[i]? with
  | some (some (.o h)) => (match μ[h]? with
    | some (some ds) => .ok (.v (.list ds)) (μ.set h none)
    | _ => .no)
  | _ => .no
theorem rd_frz {K : PySem.W.Frag} {i : Nat} : RdE K (tVar i) (mFrz i) := by
  intro α B H μ σ ρ Q w e h
  unfold mFrz at h
  split at h
  · rename_i hh q
    obtain ⟨v, e1, e2⟩ := e.2 i _ q
    cases e2 with
    | o e2 =>
      split at h
      · rename_i ds q2
        obtain ⟨B', m, w', d⟩ := w.freeze e2 q2
        exact ⟨_, e1, h α B' H m w' _ (.v d)⟩
      · exact h.elim
  · exact h.elim
end Ly
set_option Elab.async false
set_option maxRecDepth 100000
/-! Ly, part C: targets, what is walked, statements, loops, comprehensions -/
namespace Ly
open PySem PySem.Spec PyProof.Rows L2
open Evl (Ex ex_rd ex_l ex_t fresh_back)

/-! ### targets that are names -/
inductive Tg where
  | n (i : Nat) | t (is : List Nat)
def setN {A : Type} (σ : List (Option A)) : List Nat → List A → List (Option A)
  | i :: is, v :: vs => setN (σ.set i (some v)) is vs
  | _, _ => σ
def gNames : List Nat → TGs
  | [] => gNil
  | i :: is => gCons (gName i) (gNames is)
def tgR (K : PySem.W.Frag) : Tg → TG
  | .n i => gName i
  | .t is => gTup K is.length (gNames is)
def tgIx : Tg → List Nat
  | .n i => [i]
  | .t is => is
/-- data stored in a target -/
def tgSet (t : Tg) (s : Sl) (ρ : Ro) : Option Ro := match t with
  | .n i => some (ρ.set i (some s))
  | .t is => (match tuOf s with
    | some ds => if ds.length = is.length then some (setN ρ is (ds.map Sl.v)) else none
    | none => none)
section
variable {K : PySem.W.Frag} {B H B1 H1 B2 H2 : Hp} {α α1 α2 : List Addr} {μ μ1 : Mem}
theorem gNames_ok {Q : L2.St → Hp → Prop} : ∀ {is : List Nat} {vs : List V} {σ : L2.St}, vs.length = is.length → Q (setN σ is vs) H → gNames is vs σ H Q
  | [], [], _, _, h => ⟨rfl, h⟩
  | [], _ :: _, _, e, _ => by cases e
  | _ :: _, [], _, e, _ => by cases e
  | i :: is, v :: vs, σ, e, h => ⟨v, vs, rfl, gNames_ok (is := is) (Nat.succ.inj e) h⟩
theorem envR_setN : ∀ {is : List Nat} {vs : List V} {ds : List PyData} {σ : L2.St} {ρ : Ro}, EnvR K B α σ ρ → DtAll K B vs ds → EnvR K B α (setN σ is vs) (setN ρ is (ds.map Sl.v))
  | [], _, _, _, _, h, _ => by unfold setN; exact h
  | _ :: _, _, _, _, _, h, .nil => h
  | i :: is, _, _, _, _, h, .cons r t => envR_setN (is := is) (h.set i (.v r)) t
/-- a store in a target: the slots behind it, by name -/
theorem tgR_ok {t : Tg} {s : Sl} {x : V} {σ : L2.St} {ρ ρ' : Ro} {Q : L2.St → Hp → Prop} (w : Wd K B H α μ) (e : EnvR K B α σ ρ) (r : SlR K B α x s) (h : tgSet t s ρ = some ρ') (q : ∀ vs : List V, EnvR K B α (setN σ (tgIx t) vs) ρ' → Q (setN σ (tgIx t) vs) H) : tgR K t x σ H Q := by
  cases t with
  | n i =>
    cases h
    exact q [x] (e.set i r)
  | t is =>
    unfold tgSet at h
    dsimp only at h
    split at h
    · rename_i ds e1
      split at h
      · rename_i e2
        cases h
        obtain ⟨a, xs, rfl, b1, h1, d1⟩ := tuOf_ok w r e1
        exact ⟨a, xs, rfl, h1, by rw [dpa_len d1]; exact e2, gNames_ok (by rw [dpa_len d1]; exact e2) (q xs (envR_setN e d1))⟩
      · cases h
    · cases h
/-! ### forgetting slots -/
def wipeR {A : Type} (ρ : List (Option A)) : List Nat → List (Option A)
  | [] => ρ
  | v :: vs => (wipeR ρ vs).set v none
theorem wipe_eq : ∀ (σ : L2.St) (vs : List Nat), wipe σ vs = wipeR σ vs
  | _, [] => rfl
  | σ, v :: vs => by
    unfold wipe wipeR
    rw [wipe_eq σ vs]
theorem wipeR_len {A : Type} (ρ : List (Option A)) : ∀ vs : List Nat, (wipeR ρ vs).length = ρ.length
  | [] => rfl
  | v :: vs => by unfold wipeR; rw [List.length_set, wipeR_len ρ vs]
theorem wipeR_get {A : Type} (ρ : List (Option A)) (i : Nat) : ∀ vs : List Nat, (wipeR ρ vs)[i]? = if i ∈ vs then (ρ[i]?.map fun _ => none) else ρ[i]?
  | [] => by simp [wipeR]
  | v :: vs => by
    unfold wipeR
    rw [List.getElem?_set]
    by_cases h : v = i
    · subst h
      rw [if_pos rfl, if_pos List.mem_cons_self, wipeR_len]
      by_cases hl : v < ρ.length
      · rw [if_pos hl, List.getElem?_eq_getElem hl]; rfl
      · rw [if_neg hl, List.getElem?_eq_none (by omega)]; rfl
    · rw [if_neg h, wipeR_get ρ i vs]
      by_cases h2 : i ∈ vs
      · rw [if_pos h2, if_pos (List.mem_cons_of_mem _ h2)]
      · rw [if_neg h2, if_neg (by simp only [List.mem_cons, not_or]; exact ⟨fun z => h z.symm, h2⟩)]
theorem wipeR_set {A : Type} {ρ : List (Option A)} {i : Nat} {o : Option A} {vs : List Nat} (h : i ∈ vs) : wipeR (ρ.set i o) vs = wipeR ρ vs := by
  apply List.ext_getElem?
  intro j
  rw [wipeR_get, wipeR_get]
  by_cases hj : j ∈ vs
  · rw [if_pos hj, if_pos hj, List.getElem?_set]
    by_cases e : i = j
    · subst e
      rw [if_pos rfl]
      by_cases hl : i < ρ.length
      · rw [if_pos hl, List.getElem?_eq_getElem hl]; rfl
      · rw [if_neg hl, List.getElem?_eq_none (by omega)]
    · rw [if_neg e]
  · rw [if_neg hj, if_neg hj, List.getElem?_set_ne (fun (z : i = j) => hj (by rw [← z]; exact h))]
theorem wipeR_twice {A : Type} (ρ : List (Option A)) (vs : List Nat) : wipeR (wipeR ρ vs) vs = wipeR ρ vs := by
  apply List.ext_getElem?
  intro j
  rw [wipeR_get, wipeR_get]
  by_cases hj : j ∈ vs
  · rw [if_pos hj, if_pos hj]
    cases ρ[j]? <;> rfl
  · rw [if_neg hj, if_neg hj]
theorem wipeR_setN {A : Type} {vs : List Nat} : ∀ {is : List Nat} {ρ : List (Option A)} {xs : List A}, (∀ i ∈ is, i ∈ vs) → wipeR (setN ρ is xs) vs = wipeR ρ vs
  | [], _, _, _ => by unfold setN; rfl
  | _ :: _, _, [], _ => rfl
  | i :: is, ρ, x :: xs, h => by
    show wipeR (setN (ρ.set i (some x)) is xs) vs = _
    rw [wipeR_setN (is := is) fun j hj => h j (List.mem_cons_of_mem _ hj), wipeR_set (h i List.mem_cons_self)]
theorem EnvR.wipe {σ : L2.St} {ρ : Ro} (h : EnvR K B α σ ρ) (vs : List Nat) : EnvR K B α (wipeR σ vs) (wipeR ρ vs) := by
  refine ⟨by rw [wipeR_len, wipeR_len, h.1], fun i s e => ?_⟩
  rw [wipeR_get] at e
  by_cases hi : i ∈ vs
  · rw [if_pos hi] at e
    cases q : ρ[i]? with
    | none => rw [q] at e; cases e
    | some o => rw [q] at e; cases e
  · rw [if_neg hi] at e
    obtain ⟨v, h1, h2⟩ := h.2 i s e
    exact ⟨v, by rw [wipeR_get, if_neg hi]; exact h1, h2⟩
end

/-! ### what is walked -/
/-- lists of one's own that have to stay as they are meanwhile -/
abbrev Watch := List (Nat × List PyData)
def WatchOk (wt : Watch) (μ : Mem) : Prop := ∀ p ∈ wt, μ[p.1]? = some (some p.2)
@[simp] theorem watchOk_nil {μ : Mem} : WatchOk [] μ := fun _ h => nomatch h
abbrev MI := Ro → Mem → Res (List PyData × Watch)
def JOk (K : PySem.W.Frag) (α1 : List Addr) (B1 H1 : Hp) (J : It) (items : List PyData) (wt : Watch) : Prop :=
  ∀ (i : Nat) (α : List Addr) (B H : Hp) (μ : Mem), Mv α1 B1 H1 α B H → Wd K B H α μ → WatchOk wt μ →
    (items.length ≤ i → J.stop i H) ∧ ∀ d, items[i]? = some d → J.go i H ∧ ∀ x H', J.yld i H x H' → ∃ B', Mv α B H α B' H' ∧ Wd K B' H' α μ ∧ Dt K B' x d
def RdI (K : PySem.W.Frag) (wi : TI) (m : MI) : Prop := ∀ (α : List Addr) (B H : Hp) (μ : Mem) (σ : L2.St) (ρ : Ro) (R : It → Hp → Prop), Wd K B H α μ → EnvR K B α σ ρ →
  Sat K α B H (m ρ μ) (fun iw _ α1 B1 H1 => ∀ J, JOk K α1 B1 H1 J iw.1 iw.2 → R J H1) → wi σ H R
/-- the items of a list, of a list of one's own, and what has to stay -/
def seqW (s : Sl) (μ : Mem) : Option (List PyData × Watch) := match s with
  | .v (.list ds) => some (ds, [])
  | .s ds => some (ds, [])
  | .o h => (match μ[h]? with
    | some (some ds) => some (ds, [(h, ds)])
    | _ => none)
  | _ => none
def mIL (a : ME) : MI := fun ρ μ => (a ρ μ).bind fun s μ1 => match seqW s μ1 with
  | some iw => .ok iw μ1
  | none => .no
def mIT (a : ME) : MI := fun ρ μ => (a ρ μ).bind fun s μ1 => match tuOf s with
  | some ds => .ok (ds, []) μ1
  | none => .no
def intsUp (lo : Int) (n : Nat) : List PyData := (List.range n).map fun (i : Nat) => .int (lo + i)
theorem inLineEx (i : Int) : ∃ b : Bool, b = (decide (-(2 ^ 62) ≤ i) && decide (i < 2 ^ 62)) := ⟨_, rfl⟩
noncomputable def inLine (i : Int) : Bool := Classical.choose (inLineEx i)
theorem inLine_eq (i : Int) : inLine i = (decide (-(2 ^ 62) ≤ i) && decide (i < 2 ^ 62)) := Classical.choose_spec (inLineEx i)
noncomputable def mIR1 (a : MA) : MI := fun ρ μ => (a ρ μ).bind fun ss μ1 => match ss with
  | [.v (.int j)] => if inLine j = true then .ok (intsUp 0 j.toNat, []) μ1 else .no
  | _ => .no
noncomputable def mIR2 (a : MA) : MI := fun ρ μ => (a ρ μ).bind fun ss μ1 => match ss with
  | [.v (.int i), .v (.int j)] => if (inLine i && inLine j) = true then .ok (intsUp i (j - i).toNat, []) μ1 else .no
  | _ => .no
def enumD (ds : List PyData) : List PyData := ds.mapIdx fun i d => .tuple [.int (i : Int), d]
def mIE (a : MA) : MI := fun ρ μ => (a ρ μ).bind fun ss μ1 => match ss with
  | [s] => (match seqW s μ1 with
    | some iw => .ok (enumD iw.1, iw.2) μ1
    | none => .no)
  | _ => .no
def zipD (xs ys : List PyData) : List PyData := List.zipWith (fun x y => .tuple [x, y]) xs ys
def mIZ (a : MA) : MI := fun ρ μ => (a ρ μ).bind fun ss μ1 => match ss with
  | [s, t] => (match tuOf s, tuOf t with
    | some xs, some ys => .ok (zipD xs ys, []) μ1
    | _, _ => (match seqW s μ1, seqW t μ1 with
      | some iw, some jw => .ok (zipD iw.1 jw.1, iw.2 ++ jw.2) μ1
      | _, _ => .no))
  | _ => .no
section
variable {K : PySem.W.Frag} {ta : TA} {te : TE} {a : ME} {b : MA}
/-- a list to be walked, as it stands later -/
theorem seqW_ok {B H : Hp} {α : List Addr} {μ : Mem} {s : Sl} {x : V} {iw : List PyData × Watch} (w : Wd K B H α μ) (r : SlR K B α x s) (h : seqW s μ = some iw) :
    ∃ a xs, x = .ref a ∧ SqL K H a xs ∧ ∀ (α2 : List Addr) (B2 H2 : Hp) (μ2 : Mem), Mv α B H α2 B2 H2 → Wd K B2 H2 α2 μ2 → WatchOk iw.2 μ2 → ∃ xs2, SqL K H2 a xs2 ∧ DtAll K B2 xs2 iw.1 := by
  cases r with
  | v d =>
    cases d with
    | lst h1 h2 =>
      cases h
      exact ⟨_, _, rfl, .inl (.inl (w.bh _ _ h1)), fun α2 B2 H2 μ2 m w2 _ => ⟨_, .inl (.inl (w2.bh _ _ (m.bb _ _ h1))), dpa_mono m.bb _ _ h2⟩⟩
    | _ => cases h
  | s h1 h2 =>
    cases h
    exact ⟨_, _, rfl, ex_l w.bh h1, fun α2 B2 H2 μ2 m w2 _ => ⟨_, ex_l (m.bb.trans w2.bh) h1, dpa_mono m.bb _ _ h2⟩⟩
  | o e =>
    rename_i p j
    have h' : (match μ[j]? with
      | some (some ds) => some (ds, [(j, ds)])
      | _ => none) = some iw := h
    split at h'
    · rename_i ds q
      cases h'
      obtain ⟨_, xs, hx, _⟩ := w.own _ _ _ e q
      refine ⟨p, xs, rfl, .inl (.inl hx), fun α2 B2 H2 μ2 m w2 ok => ?_⟩
      obtain ⟨_, ys, hy, hd⟩ := w2.own j p ds (m.get e) (ok (j, ds) List.mem_cons_self)
      exact ⟨ys, .inl (.inl hy), hd⟩
    · cases h'
theorem dta_at? {H : Hp} {xs : List V} {ds : List PyData} {i : Nat} {d : PyData} (h : DtAll K H xs ds) (e : ds[i]? = some d) : ∃ v, xs[i]? = some v ∧ Dt K H v d := dpa_get h e
theorem ri_list (ha : RdE K te a) : RdI K (iList K te) (mIL a) := by
  intro α B H μ σ ρ R w e h
  refine ha _ _ _ _ _ _ _ w e (Sat.imp (Sat.bind h) fun s μ1 α1 B1 H1 m1 w1 h1 x rx => ?_)
  split at h1
  · rename_i iw e1
    obtain ⟨p, xs, rfl, hq, later⟩ := seqW_ok w1 rx e1
    refine ⟨p, rfl, ⟨xs, hq⟩, Sat.ok h1 w1 _ fun i α2 B2 H2 μ2 m2 w2 ok => ?_⟩
    obtain ⟨ys, hy, hd⟩ := later α2 B2 H2 μ2 m2 w2 ok
    refine ⟨fun hi => ⟨ys, hy, by rw [dpa_len hd]; exact hi⟩, fun d hd2 => ?_⟩
    obtain ⟨v, hv, hvd⟩ := dpa_get hd hd2
    refine ⟨⟨ys, v, hy, hv⟩, fun x H' q => ?_⟩
    obtain ⟨rfl, q⟩ := q
    have e3 := (q ys hy).symm.trans hv
    cases e3
    exact ⟨B2, Mv.refl, w2, hvd⟩
  · exact h1.elim
theorem ri_tup (ha : RdE K te a) : RdI K (iTup K te) (mIT a) := by
  intro α B H μ σ ρ R w e h
  refine ha _ _ _ _ _ _ _ w e (Sat.imp (Sat.bind h) fun s μ1 α1 B1 H1 m1 w1 h1 x rx => ?_)
  split at h1
  · rename_i ds e1
    obtain ⟨p, xs, rfl, b1, hq, hd⟩ := tuOf_ok w1 rx e1
    refine ⟨p, rfl, ⟨xs, hq⟩, Sat.ok h1 w1 _ fun i α2 B2 H2 μ2 m2 w2 ok => ?_⟩
    have hy : SqT K H2 p xs := ex_t (m2.bb.trans w2.bh) b1
    have hd' := dpa_mono m2.bb _ _ hd
    refine ⟨fun hi => ⟨xs, hy, by rw [dpa_len hd]; exact hi⟩, fun d hd2 => ?_⟩
    obtain ⟨v, hv, hvd⟩ := dpa_get hd' hd2
    refine ⟨⟨xs, v, hy, hv⟩, fun x H' q => ?_⟩
    obtain ⟨rfl, q⟩ := q
    have e3 := (q xs hy).symm.trans hv
    cases e3
    exact ⟨B2, Mv.refl, w2, hvd⟩
  · exact h1.elim
theorem intsUp_get {lo : Int} {n i : Nat} {d : PyData} (h : (intsUp lo n)[i]? = some d) : i < n ∧ d = .int (lo + i) := by
  unfold intsUp at h
  rw [List.getElem?_map] at h
  obtain ⟨j, h1, h2⟩ := Option.map_eq_some_iff.mp h
  obtain ⟨h3, h4⟩ := List.getElem?_eq_some_iff.mp h1
  rw [List.length_range] at h3
  rw [List.getElem_range] at h4
  subst h4
  exact ⟨h3, h2.symm⟩
theorem jok_range {α1 : List Addr} {B1 H1 : Hp} {lo : Int} {n : Nat} : JOk K α1 B1 H1 (Itr lo n) (intsUp lo n) [] := fun i α2 B2 H2 μ2 m2 w2 _ => by
  refine ⟨fun hi => ?_, fun d hd => ?_⟩
  · unfold intsUp at hi
    rw [List.length_map, List.length_range] at hi
    exact hi
  · obtain ⟨h1, rfl⟩ := intsUp_get hd
    refine ⟨h1, fun x H' q => ?_⟩
    obtain ⟨rfl, rfl⟩ := q
    exact ⟨B2, Mv.refl, w2, .int _⟩
theorem ri_range1 (hb : RdA K ta b) : RdI K (iRng1 ta) (mIR1 b) := by
  intro α B H μ σ ρ R w e h
  refine hb _ _ _ _ _ _ _ w e (Sat.imp (Sat.bind h) fun ss μ1 α1 B1 H1 m1 w1 h1 xs rx => ?_)
  split at h1
  · rename_i j
    split at h1
    · rename_i c
      rw [inLine_eq] at c
      obtain ⟨c1, c2⟩ := Bool.and_eq_true_iff.mp c
      cases rx with
      | cons r t =>
        cases t
        cases r with
        | v d =>
          cases d
          exact ⟨j, rfl, of_decide_eq_true c1, of_decide_eq_true c2, Sat.ok h1 w1 _ jok_range⟩
    · exact h1.elim
  · exact h1.elim
theorem ri_range2 (hb : RdA K ta b) : RdI K (iRng2 ta) (mIR2 b) := by
  intro α B H μ σ ρ R w e h
  refine hb _ _ _ _ _ _ _ w e (Sat.imp (Sat.bind h) fun ss μ1 α1 B1 H1 m1 w1 h1 xs rx => ?_)
  split at h1
  · rename_i i j
    split at h1
    · rename_i c
      simp only [inLine_eq, Bool.and_eq_true, decide_eq_true_eq] at c
      obtain ⟨⟨c1, c2⟩, c3, c4⟩ := c
      cases rx with
      | cons r t =>
        cases t with
        | cons r2 t =>
          cases t
          cases r with
          | v d =>
            cases d
            cases r2 with
            | v d2 =>
              cases d2
              exact ⟨i, j, rfl, ⟨c1, c2, c3, c4⟩, Sat.ok h1 w1 _ jok_range⟩
    · exact h1.elim
  · exact h1.elim
/-- a new pair comes from what is walked -/
theorem pair_new {α : List Addr} {B H : Hp} {μ : Mem} {T : Addr} {x y : V} {d e : PyData} (w : Wd K B H α μ) (hT : H T = none) (hx : Dt K B x d) (hy : Dt K B y e) :
    ∃ B', Mv α B H α B' (upd H T (.tup [x, y])) ∧ Wd K B' (upd H T (.tup [x, y])) α μ ∧ Dt K B' (.ref T) (.tuple [d, e]) := by
  obtain ⟨m, w'⟩ := w.lay (o := .tup [x, y]) hT
  exact ⟨_, m, w', .tup (.inl (.inl upd_same)) (.cons (dp_mono m.bb _ _ hx) (.cons (dp_mono m.bb _ _ hy) .nil))⟩
theorem ri_enum (hb : RdA K ta b) : RdI K (iEnum K ta) (mIE b) := by
  intro α B H μ σ ρ R w e h
  refine hb _ _ _ _ _ _ _ w e (Sat.imp (Sat.bind h) fun ss μ1 α1 B1 H1 m1 w1 h1 xs rx => ?_)
  split at h1
  · rename_i s
    split at h1
    · rename_i iw e1
      cases rx with
      | cons r t =>
        cases t
        obtain ⟨p, xs, rfl, hq, later⟩ := seqW_ok w1 r e1
        refine ⟨p, xs, rfl, hq, Sat.ok h1 w1 _ fun i α2 B2 H2 μ2 m2 w2 ok => ?_⟩
        obtain ⟨ys, hy, hd⟩ := later α2 B2 H2 μ2 m2 w2 ok
        refine ⟨fun hi => ⟨ys, hy, ?_⟩, fun d hd2 => ?_⟩
        · have hi' : (enumD iw.1).length ≤ i := hi
          unfold enumD at hi'
          rw [List.length_mapIdx] at hi'
          rw [dpa_len hd]
          exact hi'
        · have hd2' : (enumD iw.1)[i]? = some d := hd2
          unfold enumD at hd2'
          rw [List.getElem?_mapIdx] at hd2'
          obtain ⟨d0, e2, e3⟩ := Option.map_eq_some_iff.mp hd2'
          subst e3
          obtain ⟨v, hv, hvd⟩ := dpa_get hd e2
          refine ⟨⟨ys, v, hy, hv⟩, fun x H' q => ?_⟩
          obtain ⟨T, x1, rfl, hT, rfl, q⟩ := q
          have e4 := (q ys hy).symm.trans hv
          cases e4
          exact pair_new w2 hT (.int _) hvd
    · exact h1.elim
  · exact h1.elim
theorem zipD_get {xs ys : List PyData} {i : Nat} {d : PyData} (h : (zipD xs ys)[i]? = some d) : ∃ x y, xs[i]? = some x ∧ ys[i]? = some y ∧ d = .tuple [x, y] := by
  unfold zipD at h
  rw [List.getElem?_zipWith] at h
  cases q1 : xs[i]? with
  | none => rw [q1] at h; cases h
  | some x =>
    cases q2 : ys[i]? with
    | none => rw [q1, q2] at h; cases h
    | some y => rw [q1, q2] at h; cases h; exact ⟨x, y, rfl, rfl, rfl⟩
theorem zipD_len {xs ys : List PyData} {i : Nat} (h : (zipD xs ys).length ≤ i) : xs.length ≤ i ∨ ys.length ≤ i := by
  unfold zipD at h
  rw [List.length_zipWith] at h
  omega
theorem watch_app {a b : Watch} {μ : Mem} (h : WatchOk (a ++ b) μ) : WatchOk a μ ∧ WatchOk b μ := ⟨fun p hp => h p (List.mem_append_left _ hp), fun p hp => h p (List.mem_append_right _ hp)⟩
theorem ri_zip (hb : RdA K ta b) : RdI K (RZ.iZipA K ta) (mIZ b) := by
  intro α B H μ σ ρ R w e h
  refine hb _ _ _ _ _ _ _ w e (Sat.imp (Sat.bind h) fun ss μ1 α1 B1 H1 m1 w1 h1 xs rx => ?_)
  split at h1
  · rename_i s t
    cases rx with
    | cons r rt =>
      cases rt with
      | cons r2 rt =>
        cases rt
        split at h1
        · rename_i us vs e1 e2
          obtain ⟨p, ps, rfl, bp, hp, dp⟩ := tuOf_ok w1 r e1
          obtain ⟨q, qs, rfl, bq, hq, dq⟩ := tuOf_ok w1 r2 e2
          refine ⟨p, q, ps, qs, rfl, .inr ⟨hp, hq, Sat.ok h1 w1 _ fun i α2 B2 H2 μ2 m2 w2 ok => ?_⟩⟩
          have yp : SqT K H2 p ps := ex_t (m2.bb.trans w2.bh) bp
          have yq : SqT K H2 q qs := ex_t (m2.bb.trans w2.bh) bq
          have dp' := dpa_mono m2.bb _ _ dp
          have dq' := dpa_mono m2.bb _ _ dq
          refine ⟨fun hi => ⟨ps, qs, yp, yq, ?_⟩, fun d hd2 => ?_⟩
          · rw [dpa_len dp, dpa_len dq]; exact zipD_len hi
          · obtain ⟨d1, d2, g1, g2, rfl⟩ := zipD_get hd2
            obtain ⟨v1, hv1, hd1⟩ := dpa_get dp' g1
            obtain ⟨v2, hv2, hd2⟩ := dpa_get dq' g2
            refine ⟨⟨ps, qs, v1, v2, yp, yq, hv1, hv2⟩, fun x H' k => ?_⟩
            obtain ⟨T, x1, x2, rfl, hT, rfl, k1, k2⟩ := k
            have e4 := (k1 ps yp).symm.trans hv1
            have e5 := (k2 qs yq).symm.trans hv2
            cases e4
            cases e5
            exact pair_new w2 hT hd1 hd2
        · split at h1
          · rename_i iw jw e1 e2
            obtain ⟨p, ps, rfl, hp, lp⟩ := seqW_ok w1 r e1
            obtain ⟨q, qs, rfl, hq, lq⟩ := seqW_ok w1 r2 e2
            refine ⟨p, q, ps, qs, rfl, .inl ⟨hp, hq, Sat.ok h1 w1 _ fun i α2 B2 H2 μ2 m2 w2 ok => ?_⟩⟩
            obtain ⟨ok1, ok2⟩ := watch_app ok
            obtain ⟨ps', yp, dp'⟩ := lp α2 B2 H2 μ2 m2 w2 ok1
            obtain ⟨qs', yq, dq'⟩ := lq α2 B2 H2 μ2 m2 w2 ok2
            refine ⟨fun hi => ⟨ps', qs', yp, yq, ?_⟩, fun d hd2 => ?_⟩
            · rw [dpa_len dp', dpa_len dq']; exact zipD_len hi
            · obtain ⟨d1, d2, g1, g2, rfl⟩ := zipD_get hd2
              obtain ⟨v1, hv1, hd1⟩ := dpa_get dp' g1
              obtain ⟨v2, hv2, hd2⟩ := dpa_get dq' g2
              refine ⟨⟨ps', qs', v1, v2, yp, yq, hv1, hv2⟩, fun x H' k => ?_⟩
              obtain ⟨T, x1, x2, rfl, hT, rfl, k1, k2⟩ := k
              have e4 := (k1 ps' yp).symm.trans hv1
              have e5 := (k2 qs' yq).symm.trans hv2
              cases e4
              cases e5
              exact pair_new w2 hT hd1 hd2
          · exact h1.elim
  · exact h1.elim
end

/-! ### statements -/
inductive Out where
  | nx (ρ : Ro) (μ : Mem) | rt (s : Sl) (μ : Mem) | bk (ρ : Ro) (μ : Mem) | ct (ρ : Ro) (μ : Mem) | er (c : Str) (d : PyData) (μ : Mem) | no
abbrev MS := Ro → Mem → Out
def Res.out {A : Type} (r : Res A) (f : A → Mem → Out) : Out := match r with
  | .ok a μ => f a μ
  | .er c d μ => .er c d μ
  | .no => .no
@[simp] theorem Res.out_ok {A : Type} {a : A} {μ : Mem} {f : A → Mem → Out} : (Res.ok a μ).out f = f a μ := rfl
@[simp] theorem Res.out_no {A : Type} {f : A → Mem → Out} : (Res.no : Res A).out f = .no := rfl
def SatS (K : PySem.W.Frag) (α : List Addr) (B H : Hp) (o : Out) (D : Ends) : Prop := match o with
  | .nx ρ μ => ∀ α' B' H' σ', Mv α B H α' B' H' → Wd K B' H' α' μ → EnvR K B' α' σ' ρ → D.nx σ' H'
  | .bk ρ μ => ∀ α' B' H' σ', Mv α B H α' B' H' → Wd K B' H' α' μ → EnvR K B' α' σ' ρ → D.bk σ' H'
  | .ct ρ μ => ∀ α' B' H' σ', Mv α B H α' B' H' → Wd K B' H' α' μ → EnvR K B' α' σ' ρ → D.ct σ' H'
  | .rt s μ => ∀ α' B' H' x, Mv α B H α' B' H' → Wd K B' H' α' μ → SlR K B' α' x s → D.rt x H'
  | .er _ _ _ => False
  | .no => False
def RdS (K : PySem.W.Frag) (ts : TS) (m : MS) : Prop := ∀ (α : List Addr) (B H : Hp) (μ : Mem) (σ : L2.St) (ρ : Ro) (D : Ends), Wd K B H α μ → EnvR K B α σ ρ → SatS K α B H (m ρ μ) D → ts D σ H
def sNext : MS := fun ρ μ => .nx ρ μ
def sSeq (a b : MS) : MS := fun ρ μ => match a ρ μ with
  | .nx ρ1 μ1 => b ρ1 μ1
  | o => o
def sBreak : MS := fun ρ μ => .bk ρ μ
def sCont : MS := fun ρ μ => .ct ρ μ
def sDrop (a : ME) : MS := fun ρ μ => (a ρ μ).out fun _ μ1 => .nx ρ μ1
def sRet (a : ME) : MS := fun ρ μ => (a ρ μ).out fun s μ1 => .rt s μ1
def sRetN : MS := fun _ μ => .rt (.v .none) μ
def sIf (t : MT) (a b : MS) : MS := fun ρ μ => (t ρ μ).out fun c μ1 => if c = true then a ρ μ1 else b ρ μ1
def sNever : MS := fun _ _ => .no
def sAsg (a : ME) (t : Tg) : MS := fun ρ μ => (a ρ μ).out fun s μ1 => match tgSet t s ρ with
  | some ρ1 => .nx ρ1 μ1
  | none => .no
section
variable {K : PySem.W.Frag} {B H B1 H1 B2 H2 : Hp} {α α1 α2 : List Addr} {μ μ1 : Mem} {te : TE} {a : ME}
theorem SatS.mono {o : Out} {D : Ends} (h : SatS K α B H o D) (m : Mv α B H α2 B2 H2) : SatS K α2 B2 H2 o D := by
  cases o with
  | nx ρ μ => exact fun α' B' H' σ' m' => h α' B' H' σ' (m.trans m')
  | bk ρ μ => exact fun α' B' H' σ' m' => h α' B' H' σ' (m.trans m')
  | ct ρ μ => exact fun α' B' H' σ' m' => h α' B' H' σ' (m.trans m')
  | rt s μ => exact fun α' B' H' x m' => h α' B' H' x (m.trans m')
  | er _ _ _ => exact h.elim
  | no => exact h.elim
theorem Sat.out {A : Type} {r : Res A} {f : A → Mem → Out} {D : Ends} (h : SatS K α B H (r.out f) D) : Sat K α B H r (fun a μ α' B' H' => SatS K α' B' H' (f a μ) D) := by
  cases r with
  | ok a μ => exact fun α' B' H' m' _ => SatS.mono h m'
  | er _ _ _ => exact h.elim
  | no => exact h.elim
theorem SatS.nx {ρ : Ro} {σ : L2.St} {D : Ends} (h : SatS K α B H (.nx ρ μ) D) (w : Wd K B H α μ) (e : EnvR K B α σ ρ) : D.nx σ H := h α B H σ Mv.refl w e
theorem rs_next : RdS K tNext sNext := fun _ _ _ _ _ _ _ w e h => SatS.nx h w e
theorem rs_break : RdS K tBreak sBreak := fun _ _ _ _ σ _ _ w e h => h _ _ _ σ Mv.refl w e
theorem rs_cont : RdS K tCont sCont := fun _ _ _ _ σ _ _ w e h => h _ _ _ σ Mv.refl w e
theorem rs_seq {t u : TS} {p q : MS} (hp : RdS K t p) (hq : RdS K u q) : RdS K (tSeq t u) (sSeq p q) := by
  intro α B H μ σ ρ D w e h
  refine hp _ _ _ _ _ _ _ w e ?_
  unfold sSeq at h
  cases r : p ρ μ with
  | nx ρ1 μ1 =>
    rw [r] at h
    exact fun α' B' H' σ' m' w' e' => hq _ _ _ _ _ _ _ w' e' (SatS.mono h m')
  | rt s μ1 => rw [r] at h; exact h
  | bk ρ1 μ1 => rw [r] at h; exact h
  | ct ρ1 μ1 => rw [r] at h; exact h
  | er _ _ _ => rw [r] at h; exact h.elim
  | no => rw [r] at h; exact h.elim
theorem rs_drop (ha : RdE K te a) : RdS K (tDrop te) (sDrop a) := by
  intro α B H μ σ ρ D w e h
  exact ha _ _ _ _ _ _ _ w e (Sat.imp (Sat.out h) fun s μ1 α1 B1 H1 m1 w1 h1 x _ => SatS.nx h1 w1 (e.mono m1))
theorem rs_ret (ha : RdE K te a) : RdS K (tRet te) (sRet a) := by
  intro α B H μ σ ρ D w e h
  exact ha _ _ _ _ _ _ _ w e (Sat.imp (Sat.out h) fun s μ1 α1 B1 H1 m1 w1 h1 x rx => h1 _ _ _ x Mv.refl w1 rx)
theorem rs_retN : RdS K tRetN sRetN := fun _ _ _ _ _ _ _ w _ h => h _ _ _ .non Mv.refl w (.v .non)
theorem rs_if {t : TT} {p : MT} {u v : TS} {q r : MS} (ht : RdT K t p) (hq : RdS K u q) (hr : RdS K v r) : RdS K (tIfS t u v) (sIf p q r) := by
  intro α B H μ σ ρ D w e h
  refine ht _ _ _ _ _ _ _ w e (Sat.imp (Sat.out h) fun c μ1 α1 B1 H1 m1 w1 h1 => ?_)
  cases c with
  | true => exact hq _ _ _ _ _ _ _ w1 (e.mono m1) h1
  | false => exact hr _ _ _ _ _ _ _ w1 (e.mono m1) h1
theorem rs_never : RdS K tNever sNever := fun _ _ _ _ _ _ _ _ _ h => h.elim
theorem rs_asg {t : Tg} (ha : RdE K te a) : RdS K (tAsg te (tgR K t)) (sAsg a t) := by
  intro α B H μ σ ρ D w e h
  refine ha _ _ _ _ _ _ _ w e (Sat.imp (Sat.out h) fun s μ1 α1 B1 H1 m1 w1 h1 x rx => ?_)
  split at h1
  · rename_i ρ1 e1
    exact tgR_ok w1 (e.mono m1) rx e1 fun vs e2 => SatS.nx h1 w1 e2
  · exact h1.elim
end

/-! ### loops -/
open Classical in
noncomputable def forGo (t : Tg) (body : MS) (wt : Watch) : List PyData → MS
  | [] => fun ρ μ => if WatchOk wt μ then .nx ρ μ else .no
  | d :: ds => fun ρ μ => if WatchOk wt μ then (match tgSet t (.v d) ρ with
    | some ρ1 => (match body ρ1 μ with
      | .nx ρ2 μ2 => forGo t body wt ds ρ2 μ2
      | .ct ρ2 μ2 => forGo t body wt ds ρ2 μ2
      | .bk ρ2 μ2 => .nx ρ2 μ2
      | o => o)
    | none => .no) else .no
noncomputable def sFor (it : MI) (t : Tg) (body : MS) : MS := fun ρ μ => (it ρ μ).out fun iw μ1 => forGo t body iw.2 iw.1 ρ μ1
def whileGo (c : MT) (body : MS) : Nat → MS
  | 0 => fun _ _ => .no
  | n + 1 => fun ρ μ => (c ρ μ).out fun b μ1 => if b = true then (match body ρ μ1 with
    | .nx ρ2 μ2 => whileGo c body n ρ2 μ2
    | .ct ρ2 μ2 => whileGo c body n ρ2 μ2
    | .bk ρ2 μ2 => .nx ρ2 μ2
    | o => o) else .nx ρ μ1
@[irreducible] def hugeN : Nat := 2 ^ 1000000
def sWhile (c : MT) (body : MS) : MS := fun ρ μ => whileGo c body hugeN ρ μ
section
variable {K : PySem.W.Frag}
theorem rs_for {wi : TI} {it : MI} {t : Tg} {tb : TS} {body : MS} (hi : RdI K wi it) (hb : RdS K tb body) : RdS K (tFor wi (tgR K t) tb) (sFor it t body) := by
  intro α B H μ σ ρ D w e h
  refine hi _ _ _ _ _ _ _ w e (Sat.imp (Sat.out h) fun iw μ1 α1 B1 H1 m1 w1 h1 J hJ => ?_)
  refine ⟨fun i m σ' H' => m = iw.1.length - i ∧ i ≤ iw.1.length ∧ ∃ α2 B2 μ2 ρ2, Mv α1 B1 H1 α2 B2 H' ∧ Wd K B2 H' α2 μ2 ∧ EnvR K B2 α2 σ' ρ2 ∧ SatS K α2 B2 H' (forGo t body iw.2 (iw.1.drop i) ρ2 μ2) D,
    ⟨_, rfl, Nat.zero_le _, α1, B1, μ1, ρ, Mv.refl, w1, e.mono m1, h1⟩, ?_⟩
  rintro i m σ' H' ⟨rfl, hi, α2, B2, μ2, ρ2, m2, w2, e2, s2⟩
  by_cases hl : i < iw.1.length
  · rw [List.drop_eq_getElem_cons hl] at s2
    unfold forGo at s2
    by_cases ok : WatchOk iw.2 μ2
    · rw [if_pos ok] at s2
      obtain ⟨_, go⟩ := hJ i α2 B2 H' μ2 m2 w2 ok
      obtain ⟨g1, g2⟩ := go iw.1[i] (List.getElem?_eq_getElem hl)
      refine .inr ⟨g1, fun σ3 H3 => ∃ α3 B3 μ3 ρ3, Mv α1 B1 H1 α3 B3 H3 ∧ Wd K B3 H3 α3 μ3 ∧ EnvR K B3 α3 σ3 ρ3 ∧ SatS K α3 B3 H3 (forGo t body iw.2 (iw.1.drop (i + 1)) ρ3 μ3) D,
        fun σ3 H3 n3 => ⟨iw.1.length - (i + 1), by omega, rfl, hl, n3⟩, fun x H3 y => ?_⟩
      obtain ⟨B3, m3, w3, dx⟩ := g2 x H3 y
      split at s2
      · rename_i ρ3 e3
        refine tgR_ok w3 (e2.mono m3) (.v dx) e3 fun vs e4 => hb _ _ _ _ _ _ _ w3 e4 ?_
        have m23 := m2.trans m3
        split at s2
        · rename_i ρ4 μ4 r
          rw [r]
          exact fun α5 B5 H5 σ5 m5 w5 e5 => ⟨α5, B5, μ4, ρ4, m23.trans m5, w5, e5, SatS.mono s2 (m3.trans m5)⟩
        · rename_i ρ4 μ4 r
          rw [r]
          exact fun α5 B5 H5 σ5 m5 w5 e5 => ⟨α5, B5, μ4, ρ4, m23.trans m5, w5, e5, SatS.mono s2 (m3.trans m5)⟩
        · rename_i ρ4 μ4 r
          rw [r]
          exact fun α5 B5 H5 σ5 m5 w5 e5 => s2 α5 B5 H5 σ5 (m3.trans m5) w5 e5
        · rename_i n1 n2 n3
          cases r : body ρ3 μ2 with
          | nx ρ4 μ4 => exact absurd r (n1 ρ4 μ4)
          | ct ρ4 μ4 => exact absurd r (n2 ρ4 μ4)
          | bk ρ4 μ4 => exact absurd r (n3 ρ4 μ4)
          | rt s4 μ4 =>
            rw [r] at s2
            exact fun α5 B5 H5 x5 m5 w5 r5 => s2 α5 B5 H5 x5 (m3.trans m5) w5 r5
          | er _ _ _ => rw [r] at s2; exact s2.elim
          | no => rw [r] at s2; exact s2.elim
      · exact s2.elim
    · rw [if_neg ok] at s2
      exact s2.elim
  · rw [List.drop_eq_nil_of_le (by omega)] at s2
    unfold forGo at s2
    by_cases ok : WatchOk iw.2 μ2
    · rw [if_pos ok] at s2
      exact .inl ⟨(hJ i α2 B2 H' μ2 m2 w2 ok).1 (by omega), SatS.nx s2 w2 e2⟩
    · rw [if_neg ok] at s2
      exact s2.elim
theorem rs_while {c : TT} {p : MT} {tb : TS} {body : MS} (hc : RdT K c p) (hb : RdS K tb body) : RdS K (tWhile c tb) (sWhile p body) := by
  intro α B H μ σ ρ D w e h
  refine ⟨fun m σ' H' => ∃ α2 B2 μ2 ρ2, Mv α B H α2 B2 H' ∧ Wd K B2 H' α2 μ2 ∧ EnvR K B2 α2 σ' ρ2 ∧ SatS K α2 B2 H' (whileGo p body m ρ2 μ2) D, ⟨hugeN, α, B, μ, ρ, Mv.refl, w, e, h⟩, ?_⟩
  rintro m σ' H' ⟨α2, B2, μ2, ρ2, m2, w2, e2, s2⟩
  cases m with
  | zero => exact s2.elim
  | succ m =>
    unfold whileGo at s2
    refine hc _ _ _ _ _ _ _ w2 e2 (Sat.imp (Sat.out s2) fun b μ3 α3 B3 H3 m3 w3 s3 => ?_)
    cases b with
    | false => exact SatS.nx s3 w3 (e2.mono m3)
    | true =>
      rw [if_pos rfl] at s3
      refine ⟨fun σ5 H5 => ∃ α5 B5 μ5 ρ5, Mv α B H α5 B5 H5 ∧ Wd K B5 H5 α5 μ5 ∧ EnvR K B5 α5 σ5 ρ5 ∧ SatS K α5 B5 H5 (whileGo p body m ρ5 μ5) D, fun σ5 H5 n5 => ⟨m, Nat.lt_succ_self _, n5⟩, ?_⟩
      refine hb _ _ _ _ _ _ _ w3 (e2.mono m3) ?_
      have m23 := m2.trans m3
      split at s3
      · rename_i ρ4 μ4 r
        rw [r]
        exact fun α5 B5 H5 σ5 m5 w5 e5 => ⟨α5, B5, μ4, ρ4, m23.trans m5, w5, e5, SatS.mono s3 m5⟩
      · rename_i ρ4 μ4 r
        rw [r]
        exact fun α5 B5 H5 σ5 m5 w5 e5 => ⟨α5, B5, μ4, ρ4, m23.trans m5, w5, e5, SatS.mono s3 m5⟩
      · rename_i ρ4 μ4 r
        rw [r]
        exact s3
      · rename_i n1 n2 n3
        cases r : body ρ2 μ3 with
        | nx ρ4 μ4 => exact absurd r (n1 ρ4 μ4)
        | ct ρ4 μ4 => exact absurd r (n2 ρ4 μ4)
        | bk ρ4 μ4 => exact absurd r (n3 ρ4 μ4)
        | rt s4 μ4 => rw [r] at s3; exact s3
        | er _ _ _ => rw [r] at s3; exact s3.elim
        | no => rw [r] at s3; exact s3.elim
end
end Ly
set_option Elab.async false
set_option maxRecDepth 100000
/-! Ly, part D: comprehensions; built-in calls; stores into lists, methods -/
namespace Ly
open PySem PySem.Spec PyProof.Rows L2
open Evl (Ex ex_rd ex_l ex_t fresh_back)

/-! ### comprehensions -/
def mYes : MT := fun _ μ => .ok true μ
open Classical in
noncomputable def lcGo (t : Tg) (tt : MT) (elt : ME) (wt : Watch) (ρ0 : Ro) : List PyData → List PyData → Mem → Res (List PyData)
  | [], acc => fun μ => if WatchOk wt μ then .ok acc μ else .no
  | d :: ds, acc => fun μ => if WatchOk wt μ then (match tgSet t (.v d) ρ0 with
    | some ρ1 => (tt ρ1 μ).bind fun c μ1 => if c = true then (elt ρ1 μ1).bind fun s μ2 => (match s with
      | .v e => if acc.length < capN then lcGo t tt elt wt ρ0 ds (acc ++ [e]) μ2 else .no
      | _ => .no) else lcGo t tt elt wt ρ0 ds acc μ1
    | none => .no) else .no
noncomputable def lcRun (it : MI) (t : Tg) (tt : MT) (elt : ME) (own : List Nat) (fin : List PyData → Mem → Res Sl) : ME := fun ρ μ => (it ρ μ).bind fun iw μ1 => (lcGo t tt elt iw.2 (wipeR ρ own) iw.1 [] μ1).bind fin
/-- as data | as a list of one's own -/
noncomputable def mLc (it : MI) (t : Tg) (tt : MT) (elt : ME) (own : List Nat) : ME := lcRun it t tt elt own fun acc μ => .ok (.v (.list acc)) μ
noncomputable def mLcO (it : MI) (t : Tg) (tt : MT) (elt : ME) (own : List Nat) : ME := lcRun it t tt elt own fun acc μ => .ok (.o μ.length) (μ ++ [some acc])
section
variable {K : PySem.W.Frag} {B H B1 H1 B2 H2 : Hp} {α α1 α2 : List Addr} {μ μ1 : Mem}
/-- an object that is none of ours may change -/
theorem Wd.junk {p : Addr} {o : HO} (w : Wd K B H α μ) (ha : p ∉ α) (hb : B p = none) : Wd K B (upd H p o) α μ :=
  ⟨fun a u e => by rw [upd_ne (ne_of_none e hb)]; exact w.bh a u e, w.len, w.nd, fun h q ds e1 e2 => by
    obtain ⟨b, xs, hx, hd⟩ := w.own h q ds e1 e2
    have qp : q ≠ p := fun z => ha (by rw [← z]; exact List.mem_of_getElem? e1)
    exact ⟨b, xs, by rw [upd_ne qp]; exact hx, hd⟩, fun q hq => by rw [upd_ne (fun (z : q = p) => ha (by rw [← z]; exact hq))]; exact w.al q hq⟩
theorem Mv.junk {p : Addr} {o : HO} (m : Mv α1 B1 H1 α2 B2 H2) (hp : H1 p = none) : Mv α1 B1 H1 α2 B2 (upd H2 p o) :=
  ⟨m.ex, m.bb, m.fr, fun a u ha e => by rw [upd_ne (ne_of_none e hp)]; exact m.hh a u ha e, m.sp⟩
/-- what the end of a comprehension gives -/
def LcEnd (K : PySem.W.Frag) (fin : List PyData → Mem → Res Sl) : Prop := ∀ (α1 : List Addr) (B1 H1 : Hp) (α2 : List Addr) (B2 H2 : Hp) (μ2 : Mem) (D : Addr) (xs : List V) (acc : List PyData) (Q : VK),
  Mv α1 B1 H1 α2 B2 H2 → Wd K B2 H2 α2 μ2 → H1 D = none → D ∉ α2 → B2 D = none → H2 D = some (.lst xs) → DtAll K B2 xs acc → Sat K α1 B1 H1 (fin acc μ2) (PV K Q) → Q (.ref D) H2
theorem lcEnd_data : LcEnd K fun acc μ => .ok (.v (.list acc)) μ := by
  intro α1 B1 H1 α2 B2 H2 μ2 D xs acc Q m w h1 ha hb h2 hd h
  refine h α2 (upd B2 D (.lst xs)) H2 ⟨m.ex, m.bb.trans (Ex.new hb), m.fr, m.hh, fun a hna hn h0 => ?_⟩ ⟨fun a u e => ?_, w.len, w.nd, fun j q ds e1 e2 => ?_, w.al⟩ (.ref D) (.v (.lst upd_same (dpa_mono (Ex.new hb) _ _ hd)))
  · rw [upd_ne (fun (z : a = D) => hn (by rw [z]; exact h1))]
    exact m.sp a hna hn h0
  · by_cases z : a = D
    · subst z; rw [upd_same] at e; cases e; exact h2
    · rw [upd_ne z] at e; exact w.bh a u e
  · obtain ⟨b, ys, hy, hd'⟩ := w.own j q ds e1 e2
    have qp : q ≠ D := fun z => ha (by rw [← z]; exact List.mem_of_getElem? e1)
    exact ⟨by rw [upd_ne qp]; exact b, ys, hy, dpa_mono (Ex.new hb) _ _ hd'⟩
theorem lcEnd_own : LcEnd K fun acc μ => .ok (.o μ.length) (μ ++ [some acc]) := by
  intro α1 B1 H1 α2 B2 H2 μ2 D xs acc Q m w h1 ha hb h2 hd h
  refine h (α2 ++ [D]) B2 H2 ⟨?_, m.bb, fun p hp hn => ?_, m.hh, m.sp⟩ ⟨w.bh, by simp [w.len], List.nodup_append.mpr ⟨w.nd, by simp, fun a ha' b hb' e => ha (by rw [List.mem_singleton.mp hb'] at e; rw [← e]; exact ha')⟩, fun j q ds e1 e2 => ?_, fun p hp => ?_⟩ (.ref D)
    (.o (by rw [← w.len, List.getElem?_append_right (Nat.le_refl _), Nat.sub_self]; rfl))
  · obtain ⟨β, rfl⟩ := m.ex
    exact ⟨β ++ [D], by rw [List.append_assoc]⟩
  · rcases List.mem_append.mp hp with z | z
    · exact m.fr p z hn
    · rw [List.mem_singleton.mp z]; exact h1
  · by_cases hl : j < α2.length
    · rw [List.getElem?_append_left hl] at e1
      rw [List.getElem?_append_left (by rw [← w.len]; exact hl)] at e2
      exact w.own j q ds e1 e2
    · have hl2 : j = α2.length := by
        have := (List.getElem?_eq_some_iff.mp e1).1
        rw [List.length_append, List.length_singleton] at this
        omega
      subst hl2
      rw [List.getElem?_append_right (Nat.le_refl _), Nat.sub_self] at e1
      rw [w.len, List.getElem?_append_right (Nat.le_refl _), Nat.sub_self] at e2
      cases e1
      cases e2
      exact ⟨hb, xs, h2, hd⟩
  · rcases List.mem_append.mp hp with z | z
    · exact w.al p z
    · rw [List.mem_singleton.mp z, h2]; exact fun z => nomatch z
theorem rd_lcRun {wi : TI} {it : MI} {t : Tg} {tt : TT} {te : TE} {p : MT} {a : ME} {own : List Nat} {fin : List PyData → Mem → Res Sl} (hi : RdI K wi it) (ht : RdT K tt p) (ha : RdE K te a) (ho : ∀ i ∈ tgIx t, i ∈ own) (hf : LcEnd K fin) :
    RdE K (tLc wi (tgR K t) tt te own) (lcRun it t p a own fin) := by
  intro α B H μ σ ρ Q w e h
  refine hi _ _ _ _ _ _ _ w e (Sat.imp (Sat.bind h) fun iw μ1 α1 B1 H1 m1 w1 h1 J hJ => ?_)
  intro D hD
  have e1 := (e.mono m1).wipe own
  have hB1 : B1 D = none := fresh_back w1.bh hD
  have hα1 : D ∉ α1 := w1.fresh hD
  refine ⟨fun i m Hc => m = iw.1.length - i ∧ i ≤ iw.1.length ∧ ∃ α2 B2 μ2 xs acc, Mv α1 B1 H1 α2 B2 Hc ∧ Wd K B2 Hc α2 μ2 ∧ D ∉ α2 ∧ B2 D = none ∧ Hc D = some (.lst xs) ∧ DtAll K B2 xs acc ∧
    Sat K α1 B1 H1 ((lcGo t p a iw.2 (wipeR ρ own) (iw.1.drop i) acc μ2).bind fin) (PV K Q),
    ⟨_, rfl, Nat.zero_le _, α1, B1, μ1, [], [], Mv.refl.junk hD, w1.junk hα1 hB1, hα1, hB1, upd_same, .nil, h1⟩, ?_⟩
  rintro i m Hc ⟨rfl, hi, α2, B2, μ2, xs, acc, m2, w2, na, nb, hx, hd, s2⟩
  by_cases hl : i < iw.1.length
  · rw [List.drop_eq_getElem_cons hl] at s2
    unfold lcGo at s2
    by_cases ok : WatchOk iw.2 μ2
    · rw [if_pos ok] at s2
      obtain ⟨_, go⟩ := hJ i α2 B2 Hc μ2 m2 w2 ok
      obtain ⟨g1, g2⟩ := go iw.1[i] (List.getElem?_eq_getElem hl)
      refine .inr ⟨g1, fun H3 => ∃ α3 B3 μ3 xs3 acc3, Mv α1 B1 H1 α3 B3 H3 ∧ Wd K B3 H3 α3 μ3 ∧ D ∉ α3 ∧ B3 D = none ∧ H3 D = some (.lst xs3) ∧ DtAll K B3 xs3 acc3 ∧
        Sat K α1 B1 H1 ((lcGo t p a iw.2 (wipeR ρ own) (iw.1.drop (i + 1)) acc3 μ3).bind fin) (PV K Q), fun H3 n3 => ⟨iw.1.length - (i + 1), by omega, rfl, hl, n3⟩, fun x H3 y => ?_⟩
      obtain ⟨B3, m3, w3, dx⟩ := g2 x H3 y
      -- what is kept of the list under way
      have keep : ∀ {α4 : List Addr} {B4 H4 : Hp}, Mv α2 B2 Hc α4 B4 H4 → D ∉ α4 ∧ B4 D = none ∧ H4 D = some (.lst xs) ∧ DtAll K B4 xs acc := fun {α4 B4 H4} m4 =>
        ⟨fun z => (by have q := m4.fr D z na; rw [hx] at q; cases q), m4.sp D na (by rw [hx]; exact fun z => nomatch z) nb, m4.hh D _ na hx, dpa_mono m4.bb _ _ hd⟩
      split at s2
      · rename_i ρ3 e3
        rw [wipe_eq]
        refine tgR_ok w3 (e1.mono (m2.trans m3)) (.v dx) e3 fun vs e4 => ⟨by rw [wipe_eq, wipeR_setN ho, wipeR_twice], ?_⟩
        cases r : p ρ3 μ2 with
        | er _ _ _ => rw [r] at s2; exact s2.elim
        | no => rw [r] at s2; exact s2.elim
        | ok c μ4 =>
          rw [r] at s2
          refine ht _ _ _ _ _ _ _ w3 e4 ?_
          rw [r]
          intro α4 B4 H4 m4 w4
          have m24 := m3.trans m4
          have e5 := e4.mono m4
          dsimp only [PB]
          cases c with
          | false =>
            rw [if_neg Bool.false_ne_true]
            obtain ⟨k1, k2, k3, k4⟩ := keep m24
            exact ⟨α4, B4, μ4, xs, acc, m2.trans m24, w4, k1, k2, k3, k4, s2⟩
          | true =>
            rw [if_pos rfl]
            have s3 : Sat K α1 B1 H1 (((a ρ3 μ4).bind fun s μ2 => match s with
              | .v e => if acc.length < capN then lcGo t p a iw.2 (wipeR ρ own) (iw.1.drop (i + 1)) (acc ++ [e]) μ2 else .no
              | _ => .no).bind fin) (PV K Q) := s2
            cases r2 : a ρ3 μ4 with
            | er _ _ _ => rw [r2] at s3; exact s3.elim
            | no => rw [r2] at s3; exact s3.elim
            | ok s μ5 =>
              rw [r2] at s3
              refine ha _ _ _ _ _ _ _ w4 e5 ?_
              rw [r2]
              intro α5 B5 H5 m5 w5 y ry
              obtain ⟨k1, k2, k3, k4⟩ := keep (m24.trans m5)
              cases ry with
              | o _ => exact s3.elim
              | s _ _ => exact s3.elim
              | v dy =>
                rename_i ey
                have s4 : Sat K α1 B1 H1 ((if acc.length < capN then lcGo t p a iw.2 (wipeR ρ own) (iw.1.drop (i + 1)) (acc ++ [ey]) μ5 else .no).bind fin) (PV K Q) := s3
                by_cases hz : acc.length < capN
                · rw [if_pos hz] at s4
                  exact ⟨xs, k3, Nat.lt_of_lt_of_le (by rw [dpa_len hd]; exact hz) (by decide), α5, B5, μ5, xs ++ [y], acc ++ [ey], (m2.trans (m24.trans m5)).junk hD, w5.junk k1 k2, k1, k2, upd_same, dpa_app k4 (.cons dy .nil), s4⟩
                · rw [if_neg hz] at s4
                  exact s4.elim
      · exact s2.elim
    · rw [if_neg ok] at s2
      exact s2.elim
  · rw [List.drop_eq_nil_of_le (by omega)] at s2
    unfold lcGo at s2
    by_cases ok : WatchOk iw.2 μ2
    · rw [if_pos ok] at s2
      exact .inl ⟨(hJ i α2 B2 Hc μ2 m2 w2 ok).1 (by omega), hf α1 B1 H1 α2 B2 Hc μ2 D xs acc Q m2 w2 hD na nb hx hd s2⟩
    · rw [if_neg ok] at s2
      exact s2.elim
theorem rd_lc {wi : TI} {it : MI} {t : Tg} {tt : TT} {te : TE} {p : MT} {a : ME} {own : List Nat} (hi : RdI K wi it) (ht : RdT K tt p) (ha : RdE K te a) (ho : ∀ i ∈ tgIx t, i ∈ own) : RdE K (tLc wi (tgR K t) tt te own) (mLc it t p a own) := rd_lcRun hi ht ha ho lcEnd_data
theorem rd_lcO {wi : TI} {it : MI} {t : Tg} {tt : TT} {te : TE} {p : MT} {a : ME} {own : List Nat} (hi : RdI K wi it) (ht : RdT K tt p) (ha : RdE K te a) (ho : ∀ i ∈ tgIx t, i ∈ own) : RdE K (tLc wi (tgR K t) tt te own) (mLcO it t p a own) := rd_lcRun hi ht ha ho lcEnd_own
theorem rt_yes : RdT K tYes mYes := fun _ _ _ _ _ _ _ w _ h => Sat.ok h w
end

/-! ### built-in calls -/
def rLenQ (K : PySem.W.Frag) : List V → Hp → VK → Prop := fun xs H Q => ∃ p ys, xs = [.ref p] ∧ (SqL K H p ys ∨ SqT K H p ys) ∧ Q (.int ys.length) H
def fLen : List Sl → Mem → Res Sl := fun ss μ => match ss with
  | [s] => (match tuOf s with
    | some ds => .ok (.v (.int ds.length)) μ
    | none => (match rdOf s μ with
      | some ds => .ok (.v (.int ds.length)) μ
      | none => .no))
  | _ => .no
def fAbs : List Sl → Mem → Res Sl := fun ss μ => match ss with
  | [.v (.int i)] => .ok (.v (.int (if i < 0 then -i else i))) μ
  | _ => .no
def fInt : List Sl → Mem → Res Sl := fun ss μ => match ss with
  | [.v (.int i)] => .ok (.v (.int i)) μ
  | _ => .no
def fMax2 : List Sl → Mem → Res Sl := fun ss μ => match ss with
  | [.v (.int i), .v (.int j)] => .ok (.v (.int (if j > i then j else i))) μ
  | _ => .no
def fMin2 : List Sl → Mem → Res Sl := fun ss μ => match ss with
  | [.v (.int i), .v (.int j)] => .ok (.v (.int (if j < i then j else i))) μ
  | _ => .no
def fDivmod : List Sl → Mem → Res Sl := fun ss μ => match ss with
  | [.v (.int i), .v (.int j)] => guardR (decide (0 < j) && decide (j.natAbs.log2 < 9000)) (.ok (.v (.tuple [.int (i / j), .int (i % j)])) μ)
  | _ => .no
def fGcd : List Sl → Mem → Res Sl := fun ss μ => match ss with
  | [.v (.int i), .v (.int j)] => .ok (.v (.int ((Nat.gcd i.natAbs j.natAbs : Nat) : Int))) μ
  | _ => .no
def fComb : List Sl → Mem → Res Sl := fun ss μ => match ss with
  | [.v (.int i), .v (.int j)] => guardR (decide (0 ≤ i) && decide (0 ≤ j) && decide (i ≤ 9000)) (.ok (.v (.int (PySem.W.mcComb i j))) μ)
  | _ => .no
def intsOf : List PyData → Option (List Int)
  | [] => some []
  | .int i :: r => (intsOf r).map (i :: ·)
  | _ :: _ => none
def boolsOf : List PyData → Option (List Bool)
  | [] => some []
  | .bool i :: r => (boolsOf r).map (i :: ·)
  | _ :: _ => none
def fSum : List Sl → Mem → Res Sl := fun ss μ => match ss with
  | [s] => (match (rdOf s μ).bind intsOf with
    | some ns => .ok (.v (.int ns.sum)) μ
    | none => .no)
  | _ => .no
def maxI : List Int → Int
  | [] => 0
  | [a] => a
  | a :: r => if a < maxI r then maxI r else a
def fMax : List Sl → Mem → Res Sl := fun ss μ => match ss with
  | [s] => (match (rdOf s μ).bind intsOf with
    | some ns => guardR (decide (0 < ns.length)) (.ok (.v (.int (maxI ns))) μ)
    | none => .no)
  | _ => .no
def fAll : List Sl → Mem → Res Sl := fun ss μ => match ss with
  | [s] => (match (rdOf s μ).bind boolsOf with
    | some bs => .ok (.v (.bool (bs.all id))) μ
    | none => .no)
  | _ => .no
/-- list(x): as data | as a list of one's own; tuple(x) -/
def rListQ (K : PySem.W.Frag) : List V → Hp → VK → Prop := fun xs H Q => ∃ p ys, xs = [.ref p] ∧ (SqL K H p ys ∨ SqT K H p ys) ∧ ∀ l, H l = none → Q (.ref l) (upd H l (.lst ys))
def rTupQ (K : PySem.W.Frag) : List V → Hp → VK → Prop := fun xs H Q => ∃ p ys, xs = [.ref p] ∧ ((SqL K H p ys ∧ ∀ l, H l = none → Q (.ref l) (upd H l (.tup ys))) ∨ (SqT K H p ys ∧ Q (.ref p) H))
def seqOf (s : Sl) (μ : Mem) : Option (List PyData) := match tuOf s with
  | some ds => some ds
  | none => rdOf s μ
def fList : List Sl → Mem → Res Sl := fun ss μ => match ss with
  | [s] => (match seqOf s μ with
    | some ds => .ok (.v (.list ds)) μ
    | none => .no)
  | _ => .no
def fListO : List Sl → Mem → Res Sl := fun ss μ => match ss with
  | [s] => (match seqOf s μ with
    | some ds => .ok (.o μ.length) (μ ++ [some ds])
    | none => .no)
  | _ => .no
def fTuple : List Sl → Mem → Res Sl := fun ss μ => match ss with
  | [s] => (match seqOf s μ with
    | some ds => .ok (.v (.tuple ds)) μ
    | none => .no)
  | _ => .no
def fRepr : List Sl → Mem → Res Sl := fun ss μ => match ss with
  | [s] => (match daOf s μ with
    | some d => guardR (PyData.showable d && !d.hasDict && decide (d.depth ≤ 60) && decide (d.shown.length ≤ sizeLine)) (.ok (.v (.str d.shown)) μ)
    | none => .no)
  | _ => .no
section
variable {K : PySem.W.Frag} {B H : Hp} {α : List Addr} {μ : Mem}
theorem sla1 {xs : List V} {s : Sl} (r : SlA K B α xs [s]) : ∃ x, xs = [x] ∧ SlR K B α x s := by
  cases r with
  | cons r t => cases t; exact ⟨_, rfl, r⟩
theorem sla2 {xs : List V} {s t : Sl} (r : SlA K B α xs [s, t]) : ∃ x y, xs = [x, y] ∧ SlR K B α x s ∧ SlR K B α y t := by
  cases r with
  | cons r u =>
    obtain ⟨y, rfl, r2⟩ := sla1 u
    exact ⟨_, _, rfl, r, r2⟩
theorem slI {x : V} {i : Int} (r : SlR K B α x (.v (.int i))) : x = .int i := by
  cases r with
  | v d => cases d; rfl
theorem seqOf_ok {s : Sl} {x : V} {ds : List PyData} (w : Wd K B H α μ) (r : SlR K B α x s) (h : seqOf s μ = some ds) : ∃ a xs, x = .ref a ∧ (SqL K H a xs ∨ SqT K H a xs) ∧ DtAll K B xs ds := by
  unfold seqOf at h
  split at h
  · rename_i e
    cases h
    obtain ⟨a, xs, rfl, _, h1, d1⟩ := tuOf_ok w r e
    exact ⟨a, xs, rfl, .inr h1, d1⟩
  · obtain ⟨a, xs, rfl, h1, d1⟩ := rdOf_ok w r h
    exact ⟨a, xs, rfl, .inl h1, d1⟩
theorem rc_len : RdC K (rLenQ K) fLen := by
  intro α B H μ xs ss Q w r h
  unfold fLen at h
  split at h
  · obtain ⟨x, rfl, r1⟩ := sla1 r
    split at h
    · rename_i ds e
      obtain ⟨a, ys, rfl, _, h1, d1⟩ := tuOf_ok w r1 e
      exact ⟨a, ys, rfl, .inr h1, by rw [dpa_len d1]; exact sat_val w (.int _) h⟩
    · split at h
      · rename_i ds e
        obtain ⟨a, ys, rfl, h1, d1⟩ := rdOf_ok w r1 e
        exact ⟨a, ys, rfl, .inl h1, by rw [dpa_len d1]; exact sat_val w (.int _) h⟩
      · exact h.elim
  · exact h.elim
theorem rc_abs : RdC K (fun xs H Q => ∃ i, xs = [.int i] ∧ Q (.int (if i < 0 then -i else i)) H) fAbs := by
  intro α B H μ xs ss Q w r h
  unfold fAbs at h
  split at h
  · obtain ⟨x, rfl, r1⟩ := sla1 r
    cases slI r1
    exact ⟨_, rfl, sat_val w (.int _) h⟩
  · exact h.elim
theorem rc_int : RdC K (fun xs H Q => (∃ i, xs = [.int i] ∧ Q (.int i) H) ∨ ∃ k, xs = [.bl k] ∧ Q (.int (if k then 1 else 0)) H) fInt := by
  intro α B H μ xs ss Q w r h
  unfold fInt at h
  split at h
  · obtain ⟨x, rfl, r1⟩ := sla1 r
    cases slI r1
    exact .inl ⟨_, rfl, sat_val w (.int _) h⟩
  · exact h.elim
theorem rc_max2 : RdC K (fun xs H Q => ∃ i j, xs = [.int i, .int j] ∧ Q (.int (if j > i then j else i)) H) fMax2 := by
  intro α B H μ xs ss Q w r h
  unfold fMax2 at h
  split at h
  · obtain ⟨x, y, rfl, r1, r2⟩ := sla2 r
    cases slI r1
    cases slI r2
    exact ⟨_, _, rfl, sat_val w (.int _) h⟩
  · exact h.elim
theorem rc_min2 : RdC K (fun xs H Q => ∃ i j, xs = [.int i, .int j] ∧ Q (.int (if j < i then j else i)) H) fMin2 := by
  intro α B H μ xs ss Q w r h
  unfold fMin2 at h
  split at h
  · obtain ⟨x, y, rfl, r1, r2⟩ := sla2 r
    cases slI r1
    cases slI r2
    exact ⟨_, _, rfl, sat_val w (.int _) h⟩
  · exact h.elim
theorem rc_divmod : RdC K (fun xs H Q => ∃ i j, xs = [.int i, .int j] ∧ CDivP i j ∧ ∀ p, H p = none → Q (.ref p) (upd H p (.tup [.int (i / j), .int (i % j)]))) fDivmod := by
  intro α B H μ xs ss Q w r h
  unfold fDivmod at h
  split at h
  · obtain ⟨x, y, rfl, r1, r2⟩ := sla2 r
    cases slI r1
    cases slI r2
    obtain ⟨c, h⟩ := sat_guard h
    obtain ⟨c1, c2⟩ := Bool.and_eq_true_iff.mp c
    exact ⟨_, _, rfl, ⟨of_decide_eq_true c1, PyProof.noPylong_of_log2 (of_decide_eq_true c2)⟩, fun p hp => sat_newT w (.cons (.int _) (.cons (.int _) .nil)) h p hp⟩
  · exact h.elim
theorem rc_gcd : RdC K rGcd fGcd := by
  intro α B H μ xs ss Q w r h
  unfold fGcd at h
  split at h
  · obtain ⟨x, y, rfl, r1, r2⟩ := sla2 r
    cases slI r1
    cases slI r2
    exact ⟨_, _, rfl, sat_val w (.int _) h⟩
  · exact h.elim
def rComb : List V → Hp → VK → Prop := fun vs H Q => ∃ a b : Int, vs = [.int a, .int b] ∧ 0 ≤ a ∧ 0 ≤ b ∧ a ≤ 9000 ∧ Q (.int (PySem.W.mcComb a b)) H
theorem cr_comb {X : Cx} : CallR X (.builtin "math.comb") rComb := by
  intro pins s σ H vs us Q I r h
  obtain ⟨a, b, rfl, ha, hb, hz, q⟩ := h
  obtain ⟨t, u, rfl⟩ := Vals.int2 r
  exact PySem.W.mc_comb ha hb (by omega) (.inr (by omega)) fun _ => ⟨.int _, H, I.tok _, ⟨_, rfl⟩, q⟩
theorem rc_comb : RdC K rComb fComb := by
  intro α B H μ xs ss Q w r h
  unfold fComb at h
  split at h
  · obtain ⟨x, y, rfl, r1, r2⟩ := sla2 r
    cases slI r1
    cases slI r2
    obtain ⟨c, h⟩ := sat_guard h
    simp only [Bool.and_eq_true, decide_eq_true_eq] at c
    exact ⟨_, _, rfl, c.1.1, c.1.2, c.2, sat_val w (.int _) h⟩
  · exact h.elim
theorem intsOf_ok : ∀ {ds : List PyData} {ns : List Int} {xs : List V}, DtAll K H xs ds → intsOf ds = some ns → xs = ns.map V.int
  | [], _, _, h, e => by cases e; cases h; rfl
  | d :: ds, ns, _, h, e => by
    cases h with
    | cons h t =>
      cases h with
      | int i =>
        obtain ⟨ms, e1, e2⟩ := Option.map_eq_some_iff.mp e
        subst e2
        rw [List.map_cons, intsOf_ok t e1]
      | _ => cases e
theorem boolsOf_ok : ∀ {ds : List PyData} {ns : List Bool} {xs : List V}, DtAll K H xs ds → boolsOf ds = some ns → xs = ns.map V.bl
  | [], _, _, h, e => by cases e; cases h; rfl
  | d :: ds, ns, _, h, e => by
    cases h with
    | cons h t =>
      cases h with
      | bl i =>
        obtain ⟨ms, e1, e2⟩ := Option.map_eq_some_iff.mp e
        subst e2
        rw [List.map_cons, boolsOf_ok t e1]
      | _ => cases e
theorem ints_at {s : Sl} {x : V} {ns : List Int} (w : Wd K B H α μ) (r : SlR K B α x s) (h : (rdOf s μ).bind intsOf = some ns) : ∃ a, x = .ref a ∧ SqL K H a (ns.map V.int) := by
  obtain ⟨ds, e1, e2⟩ := Option.bind_eq_some_iff.mp h
  obtain ⟨a, xs, rfl, h1, d1⟩ := rdOf_ok w r e1
  rw [intsOf_ok d1 e2] at h1
  exact ⟨a, rfl, h1⟩
theorem rc_sum : RdC K (rSum K) fSum := by
  intro α B H μ xs ss Q w r h
  unfold fSum at h
  split at h
  · obtain ⟨x, rfl, r1⟩ := sla1 r
    split at h
    · rename_i ns e
      obtain ⟨a, rfl, h1⟩ := ints_at w r1 e
      exact ⟨a, ns, rfl, h1, sat_val w (.int _) h⟩
    · exact h.elim
  · exact h.elim
theorem maxI_mem : ∀ {ns : List Int}, 0 < ns.length → maxI ns ∈ ns ∧ ∀ y ∈ ns, y ≤ maxI ns
  | [], h => absurd h (by simp)
  | [a], _ => ⟨by simp [maxI], fun y hy => by rw [List.mem_singleton.mp hy]; exact Int.le_refl _⟩
  | a :: b :: r, _ => by
    obtain ⟨h1, h2⟩ := maxI_mem (ns := b :: r) (by simp)
    show (if a < maxI (b :: r) then maxI (b :: r) else a) ∈ _ ∧ ∀ y ∈ _, y ≤ (if a < maxI (b :: r) then maxI (b :: r) else a)
    by_cases c : a < maxI (b :: r)
    · rw [if_pos c]
      exact ⟨List.mem_cons_of_mem _ h1, fun y hy => by
        rcases List.mem_cons.mp hy with z | z
        · omega
        · exact h2 y z⟩
    · rw [if_neg c]
      exact ⟨List.mem_cons_self, fun y hy => by
        rcases List.mem_cons.mp hy with z | z
        · omega
        · have := h2 y z; omega⟩
theorem rc_max : RdC K (rMax K) fMax := by
  intro α B H μ xs ss Q w r h
  unfold fMax at h
  split at h
  · obtain ⟨x, rfl, r1⟩ := sla1 r
    split at h
    · rename_i ns e
      obtain ⟨c, h⟩ := sat_guard h
      have c := of_decide_eq_true c
      obtain ⟨a, rfl, h1⟩ := ints_at w r1 e
      refine ⟨a, ns, rfl, h1, c, fun m hm hy => ?_⟩
      obtain ⟨g1, g2⟩ := maxI_mem c
      have e3 : m = maxI ns := Int.le_antisymm (g2 m hm) (hy _ g1)
      rw [e3]
      exact sat_val w (.int _) h
    · exact h.elim
  · exact h.elim
theorem rc_all : RdC K (rAll K) fAll := by
  intro α B H μ xs ss Q w r h
  unfold fAll at h
  split at h
  · obtain ⟨x, rfl, r1⟩ := sla1 r
    split at h
    · rename_i bs e
      obtain ⟨ds, e1, e2⟩ := Option.bind_eq_some_iff.mp e
      obtain ⟨a, ys, rfl, h1, d1⟩ := rdOf_ok w r1 e1
      rw [boolsOf_ok d1 e2] at h1
      exact ⟨a, bs, rfl, h1, sat_val w (.bl _) h⟩
    · exact h.elim
  · exact h.elim
theorem rc_list : RdC K (rListQ K) fList := by
  intro α B H μ xs ss Q w r h
  unfold fList at h
  split at h
  · obtain ⟨x, rfl, r1⟩ := sla1 r
    split at h
    · rename_i ds e
      obtain ⟨a, ys, rfl, h1, d1⟩ := seqOf_ok w r1 e
      exact ⟨a, ys, rfl, h1, fun p hp => sat_newL w d1 h p hp⟩
    · exact h.elim
  · exact h.elim
theorem rc_listO : RdC K (rListQ K) fListO := by
  intro α B H μ xs ss Q w r h
  unfold fListO at h
  split at h
  · obtain ⟨x, rfl, r1⟩ := sla1 r
    split at h
    · rename_i ds e
      obtain ⟨a, ys, rfl, h1, d1⟩ := seqOf_ok w r1 e
      exact ⟨a, ys, rfl, h1, fun p hp => sat_newO w d1 h p hp⟩
    · exact h.elim
  · exact h.elim
theorem rc_tuple : RdC K (rTupQ K) fTuple := by
  intro α B H μ xs ss Q w r h
  unfold fTuple at h
  split at h
  · obtain ⟨x, rfl, r1⟩ := sla1 r
    split at h
    · rename_i ds e
      unfold seqOf at e
      split at e
      · rename_i e0
        cases e
        obtain ⟨a, ys, rfl, b1, h1, d1⟩ := tuOf_ok w r1 e0
        exact ⟨a, ys, rfl, .inr ⟨h1, sat_val w (.tup b1 d1) h⟩⟩
      · obtain ⟨a, ys, rfl, h1, d1⟩ := rdOf_ok w r1 e
        exact ⟨a, ys, rfl, .inl ⟨h1, fun p hp => sat_newT w d1 h p hp⟩⟩
    · exact h.elim
  · exact h.elim
end
end Ly
set_option Elab.async false
set_option maxRecDepth 100000
/-! Ly, part E: repr; defs by what they evaluate to, where nothing is being shown; their calls; stores; a law's end -/
namespace Ly
open PySem PySem.Spec PyProof.Rows L2
open Evl (Ex ex_rd ex_l ex_t fresh_back)

/-! ### repr of a list, of a tuple -/
def isSq : PyData → Bool
  | .list _ => true
  | .tuple _ => true
  | _ => false
def rRepr (K : PySem.W.Frag) : List V → Hp → VK → Prop := fun vs H Q => ∃ x d, vs = [x] ∧ Dp K H x d ∧ isSq d = true ∧ PyData.showable d = true ∧ d.hasDict = false ∧ d.depth ≤ 60 ∧ d.shown.length ≤ sizeLine ∧ Q (.str d.shown) H
def fReprQ : List Sl → Mem → Res Sl := fun ss μ => match ss with
  | [s] => (match daOf s μ with
    | some d => guardR (isSq d && PyData.showable d && !d.hasDict && decide (d.depth ≤ 60) && decide (d.shown.length ≤ sizeLine)) (.ok (.v (.str d.shown)) μ)
    | none => .no)
  | _ => .no
theorem isSq_ref {K : PySem.W.Frag} {H : Hp} {x : V} {d : PyData} (h : Dp K H x d) (c : isSq d = true) : ∃ a, x = .ref a := by
  cases h <;> first | exact ⟨_, rfl⟩ | cases c
theorem cr_repr {X : Cx} (hg : X.A.guards = some []) (hu : X.A.units + 64 < cLine) : CallR X (.builtin "repr") (rRepr X.K) := by
  intro pins s σ H vs us Q I r h
  obtain ⟨x, d, rfl, hd, c, hs, hn, hp, hz, q⟩ := h
  obtain ⟨a, rfl⟩ := isSq_ref hd c
  rw [Vals.ref1 r]
  obtain ⟨as, hr⟩ := Dp.reads I d _ _ hd rfl
  refine repr_of_reads' hr hs (fun z => by rw [hn] at z; cases z) hg (by omega) (fun _ _ e => e) (fun h' u tk k => ?_) hz
  exact ⟨.str d.shown, H, I.kept k, ⟨_, rfl⟩, q⟩
theorem rc_repr {K : PySem.W.Frag} : RdC K (rRepr K) fReprQ := by
  intro α B H μ xs ss Q w r h
  unfold fReprQ at h
  split at h
  · obtain ⟨x, rfl, r1⟩ := sla1 r
    split at h
    · rename_i d e
      obtain ⟨c, h⟩ := sat_guard h
      simp only [Bool.and_eq_true, decide_eq_true_eq, Bool.not_eq_true'] at c
      obtain ⟨⟨⟨⟨c1, c2⟩, c3⟩, c4⟩, c5⟩ := c
      exact ⟨x, d, rfl, daOf_ok w r1 e, c1, c2, c3, c4, c5, sat_val w (.str _) h⟩
    · exact h.elim
  · exact h.elim

/-! ### a def and what it evaluates to -/
abbrev Sem1 := List Sl → Mem → Res Sl
def spS (K : PySem.W.Frag) (S : Sem1) : List V → Hp → VK → Prop := fun vs H Q => ∃ (α : List Addr) (B : Hp) (μ : Mem) (ss : List Sl), Wd K B H α μ ∧ SlA K B α vs ss ∧ Sat K α B H (S ss μ) (PV K Q)
structure FnG (P : Program) (w : World) (K : PySem.W.Frag) (mg : Str → Option Value) (base : Heap) (k : Nat) (f : Addr) (fd : FuncData) (ps : List Str) (S : Sem1) : Prop where
  len : ∀ vs H Q, spS K S vs H Q → vs.length = ps.length
  run : ∀ (A : Around) (outer : List Env) (s : Shared) (H : Hp) (args : Args) (us : List Value) (vs : List V) (Q : VK), Room k A → A.guards = some [] → Env0 P w K mg base A outer s H → BindsTo s fd args (ps.zip us) → Vals vs us → spS K S vs H Q →
    codeAny (model P w) A (.call (.ref f) args) (CR CX0 outer P w H s Q E0) s
theorem FnG.mono {P : Program} {w : World} {K : PySem.W.Frag} {mg : Str → Option Value} {base : Heap} {j k : Nat} {f : Addr} {fd : FuncData} {ps : List Str} {S : Sem1} (F : FnG P w K mg base j f fd ps S) (h : j ≤ k) : FnG P w K mg base k f fd ps S :=
  ⟨F.len, fun A outer s H args us vs Q hr => F.run A outer s H args us vs Q (hr.mono h)⟩
/-- the body of a def, run on its arguments: a slot a parameter, then the other names; behind it the lists of its own are gone, but for one that it hands back -/
def defF (N np : Nat) (body : MS) : Sem1 := fun ss μ => if ss.length = np then (match body (ss.map some ++ List.replicate (N - ss.length) none) μ with
  | .rt (.v d) μ1 => .ok (.v d) (μ1.take μ.length)
  | .rt (.o h) μ1 => if h = μ.length then .ok (.o h) (μ1.take (μ.length + 1)) else .no
  | .nx _ μ1 => .ok (.v .none) (μ1.take μ.length)
  | _ => .no) else .no
theorem defF_len {N np : Nat} {body : MS} {K : PySem.W.Frag} {vs : List V} {H : Hp} {Q : VK} (h : spS K (defF N np body) vs H Q) : vs.length = np := by
  obtain ⟨α, B, μ, ss, w, r, q⟩ := h
  unfold defF at q
  by_cases c : ss.length = np
  · rw [r.len]; exact c
  · rw [if_neg c] at q; exact q.elim
theorem start_env {K : PySem.W.Frag} {B : Hp} {α : List Addr} {N : List Str} {vs : List V} {ss : List Sl} (r : SlA K B α vs ss) (hl : vs.length ≤ N.length) : EnvR K B α (L2.start N vs) (ss.map some ++ List.replicate (N.length - ss.length) none) := by
  have e := r.len
  refine ⟨by unfold L2.start; simp [e], fun i s h => ?_⟩
  by_cases hi : i < ss.length
  · rw [List.getElem?_append_left (by simpa using hi), List.getElem?_map] at h
    obtain ⟨t, h1, h2⟩ := Option.map_eq_some_iff.mp h
    cases h2
    obtain ⟨v, h3, h4⟩ := r.get h1
    refine ⟨v, ?_, h4⟩
    unfold L2.start
    rw [List.getElem?_append_left (by rw [List.length_map, e]; exact hi), List.getElem?_map, h3]
    rfl
  · rw [List.getElem?_append_right (by simpa using Nat.le_of_not_lt hi), List.getElem?_replicate] at h
    split at h <;> cases h
/-- what a body's reading wants, from what the def wants -/
theorem defF_ends {K : PySem.W.Frag} {B H : Hp} {α : List Addr} {μ : Mem} {ss : List Sl} {N np : Nat} {body : MS} {Q : VK} (w : Wd K B H α μ) (h : Sat K α B H (defF N np body ss μ) (PV K Q)) :
    SatS K α B H (body (ss.map some ++ List.replicate (N - ss.length) none) μ) { nx := fun _ H' => Q .non H', rt := Q } := by
  unfold defF at h
  by_cases c : ss.length = np
  · rw [if_pos c] at h
    have cut : ∀ {α' : List Addr} {B' H' : Hp} {μ1 : Mem}, Mv α B H α' B' H' → Wd K B' H' α' μ1 → Mv α B H α B' H' ∧ Wd K B' H' α (μ1.take μ.length) := fun {α' B' H' μ1} m w' => by
      obtain ⟨β, rfl⟩ := m.ex
      refine ⟨⟨⟨[], by simp⟩, m.bb, fun _ h n => absurd h n, m.hh, m.sp⟩, ?_⟩
      rw [← w.len]
      exact w'.cut
    cases r : body (ss.map some ++ List.replicate (N - ss.length) none) μ with
    | nx ρ1 μ1 =>
      rw [r] at h
      intro α' B' H' σ' m w' _
      obtain ⟨m2, w2⟩ := cut m w'
      exact h α B' H' m2 w2 .non (.v .non)
    | rt s μ1 =>
      rw [r] at h
      intro α' B' H' x m w' rx
      cases rx with
      | s _ _ => exact h.elim
      | v d =>
        obtain ⟨m2, w2⟩ := cut m w'
        exact h α B' H' m2 w2 x (.v d)
      | o e =>
        rename_i p j
        have h2 : Sat K α B H (if j = μ.length then .ok (.o j) (μ1.take (μ.length + 1)) else .no) (PV K Q) := h
        by_cases c2 : j = μ.length
        · rw [if_pos c2] at h2
          obtain ⟨β, rfl⟩ := m.ex
          cases β with
          | nil =>
            rw [List.append_nil] at e
            have := (List.getElem?_eq_some_iff.mp e).1
            rw [w.len, c2] at this
            exact absurd this (Nat.lt_irrefl _)
          | cons b β =>
            have ej : j = α.length := by rw [c2, w.len]
            have e3 : (α ++ b :: β) = (α ++ [b]) ++ β := by simp
            rw [e3] at w' m
            have w2 := w'.cut
            rw [List.length_append, List.length_singleton, w.len] at w2
            refine h2 (α ++ [b]) B' H' ⟨⟨[b], rfl⟩, m.bb, fun q hq hn => m.fr q (List.mem_append_left _ hq) hn, m.hh, m.sp⟩ w2 _ (.o ?_)
            rw [e3, ej, List.getElem?_append_left (by simp)] at e
            rw [ej]
            exact e
        · rw [if_neg c2] at h2
          exact h2.elim
    | bk ρ1 μ1 => rw [r] at h; exact h.elim
    | ct ρ1 μ1 => rw [r] at h; exact h.elim
    | er _ _ _ => rw [r] at h; exact h.elim
    | no => rw [r] at h; exact h.elim
  · rw [if_neg c] at h
    exact h.elim
section
variable {P : Program} {w : World} {K : PySem.W.Frag} {mg : Str → Option Value} {base : Heap} {x qual : Str} {params : Arguments} {body : List Stmt} {scope : Scope} {f : Addr} {fd : FuncData}
/-- THE RULE for a def: its body's term, its reading -/
theorem fnG_of {N ps : List Str} {k n : Nat} {m : MS} {dvs : List V} {kws : List (Str × V)} (F : FunD K x qual params body scope dvs kws f fd) (S : FnScope N ps scope) (hn : N.length = n)
    (hbody : ∀ (cdv : Value) (A : Around) (outer : List Env) (s : Shared) (H : Hp), Room k (A.deeper (envOfC qual scope s.heap.objs.size f cdv)) → (A.deeper (envOfC qual scope s.heap.objs.size f cdv)).guards = some [] →
      ∃ t, PSs (cxOf CX0 P w K mg base N qual scope f cdv A outer s H E0).nox body t ∧ RdS K t m) : FnG P w K mg base (k + 1) f fd ps (defF n ps.length m) := by
  obtain ⟨oc, od, dV, kV, doc, pm, an, cdv, ct, osl, rfl, lk, hcd, _, _⟩ := F.ex
  refine ⟨fun vs H Q h => defF_len h, ?_⟩
  intro A outer s H args us vs Q hr hgd e0 hb r hsp
  have hl : vs.length = ps.length := defF_len hsp
  obtain ⟨α, B, μ, ss, wd, rs, q⟩ := hsp
  have hpl : ps.length ≤ N.length := by
    have z := congrArg List.length S.pre
    rw [List.length_take] at z
    omega
  have kin : K.In s.heap := e0.mod.kin.keeps fun b o e => (e0.bs b o e).1
  have nol : s.heap.NoLimit := e0.mod.nolimit.keeps fun b o e => (e0.bs b o e).1
  refine codeAny_call_function hr.depth (kin _ _ lk) rfl S.co S.gen rfl (PySem.W.codeRec_of kin hcd) (hb _ _ _ _ ?_)
  refine wpAny_newFunctionEnv_cells S.kind (fun ⟨y, v⟩ hy => ?_) fun env he s1 xc => ?_
  · rcases S.par y (List.of_mem_zip hy).1 with z | z
    · exact Or.inl z
    · exact Or.inr ⟨z, PySem.W.cellsFrom_some _ _ _ (Or.inl z)⟩
  · subst he
    refine ⟨nol.keeps xc.toInCall.keep, codeAny_func ?_⟩
    obtain ⟨t, ht, hrd⟩ := hbody cdv A outer s H (hr.deeper _) hgd
    have I : Inv (cxOf CX0 P w K mg base N qual scope f cdv A outer s H E0) [] (L2.start N vs) H s1 := inv_start S hr.hd e0 hl r xc
    have q2 := defF_ends wd q
    rw [← hn] at q2
    have q3 := hrd α B H μ (L2.start N vs) _ _ wd (start_env rs (by omega)) q2
    refine wpAny_mono (ht.nox.run [] s1 (L2.start N vs) H _ I q3) (fun fl s' hs => ?_) (fun _ _ hs => hs)
    cases fl with
    | ret u =>
      obtain ⟨v, σ', H', J, rv, q⟩ := hs
      exact ⟨v, H', J.os, J.bare, J.base, J.hok, rv, q⟩
    | next =>
      obtain ⟨σ', H', J, q⟩ := hs
      exact ⟨V.non, H', J.os, J.bare, J.base, J.hok, rfl, q⟩
    | brk =>
      obtain ⟨_, _, _, q⟩ := hs
      exact q.elim
    | cont =>
      obtain ⟨_, _, _, q⟩ := hs
      exact q.elim
end

/-! ### calls of defs -/
def tCallG (K : PySem.W.Frag) (S : Sem1) (t : TA) : TE := fun σ H Q => t σ H fun vs H1 => spS K S vs H1 Q
def mCall (S : Sem1) (a : MA) : ME := fun ρ μ => (a ρ μ).bind fun ss μ1 => S ss μ1
/-- the values at these places -/
def pick {A : Type} (ix : List Nat) (l : List A) : List A := ix.filterMap fun i => l[i]?
def tCallKG (K : PySem.W.Frag) (S : Sem1) (n m : Nat) (ix : List Nat) (t tk : TA) : TE := fun σ H Q => t σ H fun vs H1 => tk σ H1 fun zs H2 => vs.length = n ∧ zs.length = m ∧ spS K S (pick ix (vs ++ zs)) H2 Q
def mCallK (S : Sem1) (n m : Nat) (ix : List Nat) (a b : MA) : ME := fun ρ μ => (a ρ μ).bind fun ss μ1 => (b ρ μ1).bind fun ts μ2 => if ss.length = n ∧ ts.length = m then S (pick ix (ss ++ ts)) μ2 else .no
theorem pick_cons {A : Type} (i : Nat) (ix : List Nat) (l : List A) : pick (i :: ix) l = (match l[i]? with | some a => a :: pick ix l | none => pick ix l) := by
  unfold pick
  rw [List.filterMap_cons]
  cases l[i]? <;> rfl
section
variable {K : PySem.W.Frag} {ta tk : TA} {a b : MA} {S : Sem1}
theorem rd_call (ha : RdA K ta a) : RdE K (tCallG K S ta) (mCall S a) := by
  intro α B H μ σ ρ Q w e h
  exact ha _ _ _ _ _ _ _ w e (Sat.imp (Sat.bind h) fun ss μ1 α1 B1 H1 m1 w1 h1 xs rxs => ⟨α1, B1, μ1, ss, w1, rxs, h1⟩)
theorem SlA.app {B : Hp} {α : List Addr} : ∀ {vs ws : List V} {ss ts : List Sl}, SlA K B α vs ss → SlA K B α ws ts → SlA K B α (vs ++ ws) (ss ++ ts)
  | _, _, _, _, .nil, h => h
  | _, _, _, _, .cons r t, h => .cons r (SlA.app t h)
theorem SlA.pick {B : Hp} {α : List Addr} {vs : List V} {ss : List Sl} (r : SlA K B α vs ss) : ∀ ix : List Nat, SlA K B α (Ly.pick ix vs) (Ly.pick ix ss)
  | [] => .nil
  | i :: ix => by
    rw [pick_cons, pick_cons]
    have ih := SlA.pick r ix
    cases e : ss[i]? with
    | none =>
      have e2 : vs[i]? = none := by
        have := List.getElem?_eq_none_iff.mp e
        exact List.getElem?_eq_none_iff.mpr (by rw [r.len]; exact this)
      rw [e2]
      exact ih
    | some s =>
      obtain ⟨v, e2, h⟩ := r.get e
      rw [e2]
      exact .cons h ih
theorem valsPick {vs : List V} {us : List Value} (r : Vals vs us) : ∀ ix : List Nat, Vals (pick ix vs) (pick ix us)
  | [] => .nil
  | i :: ix => by
    rw [pick_cons, pick_cons]
    have ih := valsPick r ix
    cases e : vs[i]? with
    | none =>
      rw [r.none_of e]
      exact ih
    | some s =>
      obtain ⟨v, e2, h⟩ := r.get e
      rw [e2]
      exact .cons h ih
theorem rd_callK {n m : Nat} {ix : List Nat} (ha : RdA K ta a) (hb : RdA K tk b) : RdE K (tCallKG K S n m ix ta tk) (mCallK S n m ix a b) := by
  intro α B H μ σ ρ Q w e h
  refine ha _ _ _ _ _ _ _ w e (Sat.imp (Sat.bind h) fun ss μ1 α1 B1 H1 m1 w1 h1 xs rxs => ?_)
  refine hb _ _ _ _ _ _ _ w1 (e.mono m1) (Sat.imp (Sat.bind h1) fun ts μ2 α2 B2 H2 m2 w2 h2 ys rys => ?_)
  by_cases c : ss.length = n ∧ ts.length = m
  · rw [if_pos c] at h2
    have rxs2 := rxs.mono m2
    exact ⟨by rw [rxs.len]; exact c.1, by rw [rys.len]; exact c.2, α2, B2, μ2, _, w2, (rxs2.app rys).pick ix, h2⟩
  · rw [if_neg c] at h2
    exact h2.elim
end
section
variable {X : Cx} {k : Nat} {f : Addr} {fd : FuncData} {ps ks : List Str} {S : Sem1} {x : Str} {p pos : Pos} {e : Expr} {es : List Expr} {t tk : TA} {kws : List Keyword}
theorem run_fnG {pins : List (Addr × Obj)} {σ : L2.St} {H : Hp} {s : Shared} {Q : VK} {us : List Value} {vs : List V} {kw : List (Str × Value)} {us0 : List Value} (G : FnG X.prog X.w X.K X.mg X.base k f fd ps S) (hr : Room k X.A) (hgd : X.A.guards = some [])
    (I : Inv X pins σ H s) (hb : BindsTo s fd ⟨us0, kw⟩ (ps.zip us)) (r : Vals vs us) (h : spS X.K S vs H Q) : wpAny (model X.prog X.w) X.A (call (.ref f) us0 kw) (EP X pins σ Q) X.xe s := by
  refine wpAny_call (codeAny_mono (G.run X.A X.stack s H ⟨us0, kw⟩ us vs Q hr hgd I.env0 hb r h) fun r s' hq => ?_)
  cases r with
  | error _ => exact hq.elim
  | ok fl =>
    cases fl with
    | ret u => exact I.after hq
    | next => exact hq.elim
    | brk => exact hq.elim
    | cont => exact hq.elim
theorem pe_callG (G : FnG X.prog X.w X.K X.mg X.base k f fd ps S) (hr : Room k X.A) (hgd : X.A.guards = some []) (hg : Gl X x) (hm : X.mg x = some (.ref f)) (hk : PySem.W.keepIn X.K (.ref f) = true) (hb : Binds X.K fd ps [])
    (ha : PA X (e :: es) t) (hdb : (x == ("__debug__" : Str)) = false := by decide) (he : starEach (e :: es) X.env = (false, eval e X.env) :: starEach es X.env := by rfl) (hpl : (backTo pos (starEach es X.env)).any (·.1) = false := by rfl) :
    PE X (.Call (.Name x p) (e :: es) [] pos) (tCallG X.K S t) := by
  refine ⟨fun pins s σ H Q I h => wpAny_Call_Name_kw (ld_glob I hg hm ?_ hdb)⟩
  refine PySem.W.callWith_K (h₀ := X.base) I.ok.mod.kin hk (thn (ha.run pos pins s σ H _ I h) fun us s1 ⟨vs, H1, I1, r, q⟩ => ⟨I1.kIn, ?_⟩) he hpl
  have hl : (us ++ []).length = ps.length := by rw [List.append_nil, ← r.length]; exact G.len _ _ _ q
  have b := hb s1 us I1.kIn hl
  rw [List.append_nil] at b
  exact run_fnG G hr hgd I1 b r q
/-- how keywords bind, by places -/
def KPick (K : PySem.W.Frag) (fd : FuncData) (ps ks : List Str) (n : Nat) (ix : List Nat) : Prop :=
  ∀ (s : Shared) (us ws : List Value), K.In s.heap → us.length = n → ws.length = ks.length → BindsTo s fd ⟨us, ks.zip ws⟩ (ps.zip (pick ix (us ++ ws)))
theorem pe_callKG {n : Nat} {ix : List Nat} (G : FnG X.prog X.w X.K X.mg X.base k f fd ps S) (hr : Room k X.A) (hgd : X.A.guards = some []) (hg : Gl X x) (hm : X.mg x = some (.ref f)) (hk : PySem.W.keepIn X.K (.ref f) = true) (hb : KPick X.K fd ps ks n ix)
    (ha : PA X (e :: es) t) (hkw : PK X kws tk) (hall : (backToKw pos (keywordEach kws X.env)).all (·.1.isSome) = true := by rfl) (hks : (backToKw pos (keywordEach kws X.env)).filterMap (·.1) = ks := by rfl)
    (hdb : (x == ("__debug__" : Str)) = false := by decide) (he : starEach (e :: es) X.env = (false, eval e X.env) :: starEach es X.env := by rfl)
    (hpl : ((backTo pos (starEach (e :: es) X.env)).any (·.1) || (backToKw pos (keywordEach kws X.env)).any (·.1.isNone)) = false := by rfl) :
    PE X (.Call (.Name x p) (e :: es) kws pos) (tCallKG X.K S n ks.length ix t tk) := by
  refine ⟨fun pins s σ H Q I h => wpAny_Call_Name_kw (ld_glob I hg hm ?_ hdb)⟩
  refine PySem.W.callWith_KW (h₀ := X.base) I.ok.mod.kin hk hall (thn (ha.run pos pins s σ H _ I h) fun us s1 ⟨vs, H1, I1, r, q⟩ => ?_) hpl he
  refine thn (hkw.run pos pins s1 σ H1 _ I1 q) fun ws s2 ⟨zs, H2, I2, rz, l1, l2, q2⟩ => ⟨I2.kIn, ?_⟩
  rw [hks]
  exact run_fnG G hr hgd I2 (hb s2 us ws I2.kIn (r.length.symm.trans l1) (rz.length.symm.trans l2)) (valsPick (r.append rz) ix) q2
/-- keywords alone -/
theorem pe_callKG0 {ix : List Nat} (G : FnG X.prog X.w X.K X.mg X.base k f fd ps S) (hr : Room k X.A) (hgd : X.A.guards = some []) (hg : Gl X x) (hm : X.mg x = some (.ref f)) (hk : PySem.W.keepIn X.K (.ref f) = true) (hb : KPick X.K fd ps ks 0 ix)
    (hkw : PK X kws tk) (hall : (backToKw pos (keywordEach kws X.env)).all (·.1.isSome) = true := by rfl) (hks : (backToKw pos (keywordEach kws X.env)).filterMap (·.1) = ks := by rfl)
    (hdb : (x == ("__debug__" : Str)) = false := by decide) (hpl : ((backTo pos (starEach [] X.env)).any (·.1) || (backToKw pos (keywordEach kws X.env)).any (·.1.isNone)) = false := by rfl) :
    PE X (.Call (.Name x p) [] kws pos) (tCallKG X.K S 0 ks.length ix tNil tk) := by
  refine ⟨fun pins s σ H Q I h => wpAny_Call_Name_kw (ld_glob I hg hm ?_ hdb)⟩
  have h2 : tk σ H fun zs H2 => ([] : List V).length = 0 ∧ zs.length = ks.length ∧ spS X.K S (pick ix ([] ++ zs)) H2 Q := h
  refine PySem.W.callWith_KW0 (h₀ := X.base) I.ok.mod.kin hk hall (thn (hkw.run pos pins s σ H _ I h2) fun ws s2 ⟨zs, H2, I2, rz, l1, l2, q2⟩ => ⟨I2.kIn, ?_⟩) hpl
  rw [hks]
  exact run_fnG G hr hgd I2 (hb s2 [] ws I2.kIn rfl (rz.length.symm.trans l2)) (valsPick rz ix) q2
end

/-! ### stores -/
def fSet (s t e : Sl) (μ : Mem) : Res Unit := match s, t, e with
  | .o h, .v (.int i), .v d => (match μ[h]? with
    | some (some ds) => (match ixN ds.length i with
      | some j => .ok () (μ.set h (some (ds.set j d)))
      | none => .no)
    | _ => .no)
  | _, _, _ => .no
def RdSet (K : PySem.W.Frag) (r : TSet) (f : Sl → Sl → Sl → Mem → Res Unit) : Prop := ∀ (α : List Addr) (B H : Hp) (μ : Mem) (x y z : V) (s t e : Sl) (Q : Hp → Prop), Wd K B H α μ → SlR K B α x s → SlR K B α y t → SlR K B α z e →
  Sat K α B H (f s t e μ) (fun _ _ _ _ H' => Q H') → r x y z H Q
theorem rset_L {K : PySem.W.Frag} : RdSet K rSetL fSet := by
  intro α B H μ x y z s t e Q w rx ry rz h
  unfold fSet at h
  split at h
  · rename_i j i d
    cases slI ry
    split at h
    · rename_i ds q
      split at h
      · rename_i n q2
        cases rx with
        | o ep =>
          rename_i p
          cases rz with
          | v dz =>
            obtain ⟨_, xs, hx, hd⟩ := w.own _ _ _ ep q
            obtain ⟨m, w'⟩ := w.put (xs := xs.set n z) ep q (dpa_set n hd dz)
            exact ⟨p, xs, i, n, rfl, rfl, hx, by rw [dpa_len hd]; exact q2, h α B _ m w'⟩
      · exact h.elim
    · exact h.elim
  · exact h.elim
/-- o[i] = e: e first -/
def sSet (e o i : ME) : MS := fun ρ μ => (e ρ μ).out fun z μ1 => (o ρ μ1).out fun x μ2 => (i ρ μ2).out fun y μ3 => (fSet x y z μ3).out fun _ μ4 => .nx ρ μ4
section
variable {K : PySem.W.Frag} {te to ti : TE} {a b c : ME}
theorem rs_set (he : RdE K te c) (ho : RdE K to a) (hi : RdE K ti b) : RdS K (tAsg te (gSub to ti rSetL)) (sSet c a b) := by
  intro α B H μ σ ρ D w e h
  refine he _ _ _ _ _ _ _ w e (Sat.imp (Sat.out h) fun z μ1 α1 B1 H1 m1 w1 h1 zv rz => ?_)
  refine ho _ _ _ _ _ _ _ w1 (e.mono m1) (Sat.imp (Sat.out h1) fun x μ2 α2 B2 H2 m2 w2 h2 xv rx => ?_)
  refine hi _ _ _ _ _ _ _ w2 (e.mono (m1.trans m2)) (Sat.imp (Sat.out h2) fun y μ3 α3 B3 H3 m3 w3 h3 yv ry => ?_)
  refine rset_L _ _ _ _ _ _ _ _ _ _ _ w3 (rx.mono m3) ry (rz.mono (m2.trans m3)) (Sat.imp (Sat.out h3) fun _ μ4 α4 B4 H4 m4 w4 h4 => ?_)
  exact SatS.nx h4 w4 (e.mono (m1.trans (m2.trans (m3.trans m4))))
end
/-- xs.append(e), and what else changes a list of one's own -/
def RdM (K : PySem.W.Frag) (r : V → List V → Hp → VK → Prop) (f : Sl → List Sl → Mem → Res Sl) : Prop := ∀ (α : List Addr) (B H : Hp) (μ : Mem) (x : V) (xs : List V) (s : Sl) (ss : List Sl) (Q : VK), Wd K B H α μ → SlR K B α x s → SlA K B α xs ss → Sat K α B H (f s ss μ) (PV K Q) → r x xs H Q
def fAppend (s : Sl) (ss : List Sl) (μ : Mem) : Res Sl := match s, ss with
  | .o h, [.v d] => (match μ[h]? with
    | some (some ds) => if ds.length < capN then .ok (.v .none) (μ.set h (some (ds ++ [d]))) else .no
    | _ => .no)
  | _, _ => .no
theorem rm_append {K : PySem.W.Frag} : RdM K rAppend fAppend := by
  intro α B H μ x xs s ss Q w rx rxs h
  unfold fAppend at h
  split at h
  · rename_i j d
    obtain ⟨y, rfl, ry⟩ := sla1 rxs
    split at h
    · rename_i ds q
      split at h
      · rename_i hz
        cases rx with
        | o ep =>
          rename_i p
          cases ry with
          | v dy =>
            obtain ⟨_, zs, hx, hd⟩ := w.own _ _ _ ep q
            obtain ⟨m, w'⟩ := w.put (xs := zs ++ [y]) ep q (dpa_app hd (.cons dy .nil))
            exact ⟨p, zs, y, rfl, rfl, hx, Nat.lt_of_lt_of_le (by rw [dpa_len hd]; exact hz) (by decide), h α B _ m w' .non (.v .non)⟩
      · exact h.elim
    · exact h.elim
  · exact h.elim
/-- m.f(args) of a list: the receiver, that it is a list, the arguments -/
def isLs (s : Sl) (μ : Mem) : Bool := (rdOf s μ).isSome
def mBM (f : Sl → List Sl → Mem → Res Sl) (a : ME) (b : MA) : ME := fun ρ μ => (a ρ μ).bind fun s μ1 => if isLs s μ1 = true then (b ρ μ1).bind fun ss μ2 => f s ss μ2 else .no
def fIndex (s : Sl) (ss : List Sl) (μ : Mem) : Res Sl := match ss with
  | [.v (.int i)] => (match (rdOf s μ).bind intsOf with
    | some ns => (match ns.idxOf? i with
      | some j => .ok (.v (.int (j : Nat))) μ
      | none => .no)
    | none => .no)
  | _ => .no
/-- a, b = x, y with names: from the right -/
def sPar (i j : Nat) (a : MA) : MS := fun ρ μ => (a ρ μ).out fun ss μ1 => match ss with
  | [s, t] => .nx ((ρ.set i (some s)).set j (some t)) μ1
  | _ => .no
theorem rs_par {K : PySem.W.Frag} {i j : Nat} {ta : TA} {a : MA} (ha : RdA K ta a) : RdS K (tPar i j ta) (sPar i j a) := by
  intro α B H μ σ ρ D w e h
  refine ha _ _ _ _ _ _ _ w e (Sat.imp (Sat.out h) fun ss μ1 α1 B1 H1 m1 w1 h1 xs rx => ?_)
  split at h1
  · obtain ⟨x, y, rfl, r1, r2⟩ := sla2 rx
    exact ⟨x, y, rfl, SatS.nx h1 w1 (((e.mono m1).set i r1).set j r2)⟩
  · exact h1.elim
end Ly
set_option Elab.async false
set_option maxRecDepth 100000
/-! Ly, part F: methods, op=, a law's end -/
namespace Ly
open PySem PySem.Spec PyProof.Rows L2
open Evl (Ex ex_rd ex_l ex_t fresh_back)

/-! ### methods of lists -/
section
variable {K : PySem.W.Frag} {te : TE} {ta : TA} {a : ME} {b : MA}
theorem isLs_ok {B H : Hp} {α : List Addr} {μ : Mem} {s : Sl} {x : V} (w : Wd K B H α μ) (r : SlR K B α x s) (h : isLs s μ = true) : tyV K "list" x H := by
  unfold isLs at h
  obtain ⟨ds, e⟩ := Option.isSome_iff_exists.mp h
  obtain ⟨p, xs, rfl, h1, _⟩ := rdOf_ok w r e
  exact .inl ⟨rfl, xs, h1⟩
theorem rd_bm {r : V → List V → Hp → VK → Prop} {f : Sl → List Sl → Mem → Res Sl} (hm : RdM K r f) (ha : RdE K te a) (hb : RdA K ta b) : RdE K (tBM K "list" r te ta) (mBM f a b) := by
  intro α B H μ σ ρ Q w e h
  refine ha _ _ _ _ _ _ _ w e (Sat.imp (Sat.bind h) fun s μ1 α1 B1 H1 m1 w1 h1 x rx => ?_)
  by_cases c : isLs s μ1 = true
  · rw [if_pos c] at h1
    refine ⟨isLs_ok w1 rx c, ?_⟩
    refine hb _ _ _ _ _ _ _ w1 (e.mono m1) (Sat.imp (Sat.bind h1) fun ss μ2 α2 B2 H2 m2 w2 h2 xs rxs => ?_)
    exact hm _ _ _ _ _ _ _ _ _ w2 (rx.mono m2) rxs h2
  · rw [if_neg c] at h1
    exact h1.elim
theorem idxOf?_first {ns : List Int} {i : Int} {j : Nat} (h : ns.idxOf? i = some j) : ns[j]? = some i ∧ ∀ m z, m < j → ns[m]? = some z → z ≠ i := by
  rw [List.idxOf?, List.findIdx?_eq_some_iff_getElem] at h
  obtain ⟨hl, h1, h2⟩ := h
  refine ⟨by rw [List.getElem?_eq_getElem hl, beq_iff_eq.mp h1], fun m z hm hz e => ?_⟩
  obtain ⟨hl2, e2⟩ := List.getElem?_eq_some_iff.mp hz
  have := h2 m hm
  rw [e2, e] at this
  simp at this
theorem flat_ints : ∀ ns : List Int, (ns.map V.int).all flatV = true
  | [] => rfl
  | _ :: ns => by rw [List.map_cons, List.all_cons, flat_ints ns]; rfl
theorem rm_index : RdM K (rIndex K) fIndex := by
  intro α B H μ x xs s ss Q w rx rxs h
  unfold fIndex at h
  split at h
  · rename_i i
    obtain ⟨y, rfl, ry⟩ := sla1 rxs
    cases slI ry
    split at h
    · rename_i ns e
      split at h
      · rename_i j e2
        obtain ⟨p, rfl, h1⟩ := ints_at w rx e
        obtain ⟨g1, g2⟩ := idxOf?_first e2
        refine ⟨p, ns.map V.int, .int i, j, .int i, rfl, rfl, h1, rfl, flat_ints ns, by rw [List.getElem?_map, g1]; rfl, by simp [eqV], fun m z hm hz => ?_, sat_val w (.int _) h⟩
        rw [List.getElem?_map] at hz
        obtain ⟨n, e3, e4⟩ := Option.map_eq_some_iff.mp hz
        subst e4
        have := g2 m n hm e3
        simpa [eqV] using this
      · exact h.elim
    · exact h.elim
  · exact h.elim
end

/-! ### name op= e -/
def RdIp (K : PySem.W.Frag) (r : TIp) (f : O2) : Prop := ∀ (α : List Addr) (B H : Hp) (μ : Mem) (x y : V) (s t : Sl) (Q : VK), Wd K B H α μ → SlR K B α x s → SlR K B α y t → Sat K α B H (f s t μ) (PV K Q) → r x y H Q
def oAddI : O2 := fun s t μ => oInt (fun i j => .ok (.v (.int (i + j))) μ) s t
theorem rip_add {K : PySem.W.Frag} : RdIp K (ipI fun i j => i + j) oAddI := by
  intro α B H μ x y s t Q w rx ry h
  obtain ⟨i, j, rfl, rfl, h⟩ := int2_ok rx ry h
  exact ⟨i, j, rfl, rfl, sat_val w (.int _) h⟩
theorem rip_sub {K : PySem.W.Frag} : RdIp K (ipI fun i j => i - j) oSub := by
  intro α B H μ x y s t Q w rx ry h
  obtain ⟨i, j, rfl, rfl, h⟩ := int2_ok rx ry h
  exact ⟨i, j, rfl, rfl, sat_val w (.int _) h⟩
def sAug (i : Nat) (f : O2) (a : ME) : MS := fun ρ μ => match ρ[i]? with
  | some (some s) => (a ρ μ).out fun t μ1 => (f s t μ1).out fun z μ2 => .nx (ρ.set i (some z)) μ2
  | _ => .no
theorem rs_aug {K : PySem.W.Frag} {i : Nat} {te : TE} {a : ME} {r : TIp} {f : O2} (ha : RdE K te a) (hf : RdIp K r f) : RdS K (tAug i te r) (sAug i f a) := by
  intro α B H μ σ ρ D w e h
  unfold sAug at h
  split at h
  · rename_i s q
    obtain ⟨x, hx, rx⟩ := e.2 i s q
    refine ⟨x, hx, ha _ _ _ _ _ _ _ w e (Sat.imp (Sat.out h) fun t μ1 α1 B1 H1 m1 w1 h1 y ry => ?_)⟩
    refine hf _ _ _ _ _ _ _ _ _ w1 (rx.mono m1) ry (Sat.imp (Sat.out h1) fun z μ2 α2 B2 H2 m2 w2 h2 zv rz => ?_)
    exact SatS.nx h2 w2 ((e.mono (m1.trans m2)).set i rz)
  · exact h.elim

/-! ### a law's end -/
section
variable {P : Program} {w : World} {K : PySem.W.Frag} {mg mb : Str → Option Value} {k : Nat} {fa a : Addr} {fd : FuncData} {x : Str} {S : Sem1} {st : Shared} {vs : List Value} {ns : List Int}
theorem spS_law {H : Hp} (hs : SqL K H a (ns.map V.int)) (h : S [.s (ns.map PyData.int)] [] = .ok (.v (.bool true)) []) : spS K S [.ref a] H (fun v _ => v = .bl true) := by
  refine ⟨[], H, [], [.s (ns.map PyData.int)], ⟨Ex.refl H, rfl, List.nodup_nil, fun h p ds e => by simp at e, fun p hp => by simp at hp⟩, .cons (.s hs (dpa_of_ints ns)) .nil, ?_⟩
  rw [h]
  intro α' B' H' m w' y ry
  cases ry with
  | v d => cases d; rfl
/-- from the heap behind the top: the law, called with the script, hands True back and leaves what stood -/
theorem lawG (kin : K.In st.heap) (nsG : st.heap.Ns mainGlobals mg) (nsB : st.heap.Ns builtinsNs mb) (bltB : ∀ y : Str, y ≠ "__name__" → mb y = bootBuiltins y) (nol : st.heap.NoLimit) (gens0 : st.gens = #[])
    (hobj : st.heap.get? a = some { cls := .type "list", data := .seq vs.toArray }) (hint : IntsAre vs ns) (hlen : ns.length ≤ sizeLine) (hr : Room k callerA)
    (F : ∀ base : Heap, K.In base → base.Ns mainGlobals mg → FnG P w K mg base k fa fd [x] S) (hbind : ∀ (s : Shared) (u : Value), BindsTo s fd ⟨[u], []⟩ [(x, u)])
    (hS : S [.s (ns.map PyData.int)] [] = .ok (.v (.bool true)) []) :
    codeAny (model P w) callerA (.call (.ref fa) ⟨[.ref a], []⟩) (fun r s' => r = .ok (.ret (.bool true)) ∧ OldK st.heap s'.heap ∧ s'.os = st.os ∧ AllBare s'.gens) st := by
  have rel := vals_ints hint
  have lenI := hint.length
  have go : ∀ H : Hp, Only H → SqL K H a (ns.map V.int) → HOk P w H st.heap → (∀ b, H b ≠ none → b = a) → (H a ≠ none → K.lookup a = none) →
      codeAny (model P w) callerA (.call (.ref fa) ⟨[.ref a], []⟩) (fun r s' => r = .ok (.ret (.bool true)) ∧ OldK st.heap s'.heap ∧ s'.os = st.os ∧ AllBare s'.gens) st := by
    intro H only seq ok atA noK
    have freeD : ∀ {b : Addr} {o : Obj} {es : Array DictEntry} {ep : Nat}, st.heap.get? b = some o → o.data = .dict es ep → H b = none := fun {b o es ep} g d => by
      cases hb : H b with
      | none => rfl
      | some u =>
        have eb := atA b (by rw [hb]; simp)
        subst eb
        rw [hobj] at g
        cases g
        cases (show Data.seq vs.toArray _ = Data.dict es ep from d)
    have toB : ∀ {b : Addr} {m : Str → Option Value}, st.heap.Ns b m → (hidT st.heap H).Ns b m := fun {b m} h => by
      obtain ⟨o, es, ep, g, d, z⟩ := h
      exact ⟨o, es, ep, hidT_get g (freeD g d), d, z⟩
    have kinB : K.In (hidT st.heap H) := fun b o g => by
      refine hidT_get (kin b o g) ?_
      cases hb : H b with
      | none => rfl
      | some u =>
        have eb := atA b (by rw [hb]; simp)
        subst eb
        rw [noK (by rw [hb]; simp)] at g
        cases g
    have nolB : (hidT st.heap H).NoLimit := by
      obtain ⟨mc, g1, g2⟩ := nol
      exact ⟨mc, toB g1, g2⟩
    have env : Env0 P w K mg (hidT st.heap H) callerA [] st H := by
      refine ⟨rfl, ⟨kinB, toB nsG, ⟨mb, toB nsB, bltB⟩, nolB⟩, fun b o g => of_hidT g, Nat.le_of_eq (hidT_size _ _), trivial, fun b hb => ?_, ok, .of_eq gens0⟩
      exact absurd (show b ∈ ([] : List Addr) from hb) (by simp)
    refine codeAny_mono ((F _ kinB (toB nsG)).run callerA [] st H ⟨[.ref a], []⟩ [.ref a] [.ref a] _ hr rfl env (hbind st (.ref a)) (.cons rfl .nil) (spS_law seq hS)) fun r s' hq => ?_
    cases r with
    | error e => exact hq.elim
    | ok fl =>
      cases fl with
      | next => exact hq.elim
      | brk => exact hq.elim
      | cont => exact hq.elim
      | ret u =>
        obtain ⟨v, H', os, bare, un, ok', rv, q⟩ := hq
        have ev : v = .bl true := q
        subst ev
        have eu : u = Value.bool true := rv
        subst eu
        refine ⟨rfl, OldK.of_keep fun b o g => ?_, os, bare⟩
        cases hb : H b with
        | none => exact un.keep b o g hb (fun z => by cases z) (by simp)
        | some u =>
          rcases only b with z | ⟨ob, xs, z⟩
          · rw [hb] at z; cases z
          · obtain ⟨g1, _⟩ := ok b _ z
            obtain ⟨g2, _⟩ := ok' b _ (un.frzs b ob _ z)
            rw [g] at g1
            cases g1
            exact g2
  cases hk : K.lookup a with
  | some o =>
    have g := kin a o hk
    rw [hobj] at g
    cases g
    refine go (fun _ => none) (fun _ => .inl rfl) (.inr ⟨_, vs.toArray, _, hk, rfl, rfl, rfl, by rw [List.size_toArray, lenI]; exact hlen, by simpa using rel⟩) (fun b u z => ?_) (fun b z => absurd rfl z) fun z => absurd rfl z
    cases (show (none : Option HO) = some u from z)
  | none =>
    refine go (fun b => if b = a then some (.frz { cls := .type "list", data := .seq vs.toArray } (.lst (ns.map V.int))) else none) (fun b => ?_) (.inl (.inr ⟨_, if_pos rfl⟩)) (fun b u z => ?_) (fun b z => ?_) fun _ => hk
    · by_cases eb : b = a
      · exact .inr ⟨_, _, if_pos eb⟩
      · exact .inl (if_neg eb)
    · by_cases eb : b = a
      · cases (if_pos eb).symm.trans z
        subst eb
        exact ⟨hobj, by rw [List.length_map]; exact hlen, vs, _, rel, hobj⟩
      · cases (if_neg eb).symm.trans z
    · by_cases eb : b = a
      · exact eb
      · exact absurd (if_neg eb) z
end
theorem walkG {l : PySem.W.OpenLaw} {n k : Nat} {q : Program} {loose : List Str} {XP : (Str → Option Value) → Heap → Prop} {YP : World → Heap → Prop} {d : DefRec} {x : Str}
    (hm : l.most = some n) (hz : n ≤ sizeLine) (hdf : d.params.defaults = []) (hr : Room k callerA)
    (F : ∀ (w : World) (mg : Str → Option Value) (fa : Addr) (h : Heap), YP w h → h.Ns mainGlobals mg → mg d.name = some (.ref fa) →
      ∃ (K : PySem.W.Frag) (fd : FuncData) (S : Sem1), K.In h ∧ (∀ (s : Shared) (u : Value), BindsTo s fd ⟨[u], []⟩ [(x, u)]) ∧
        (∀ ns : List Int, ns.length ≤ n → S [.s (ns.map PyData.int)] [] = .ok (.v (.bool true)) []) ∧ ∀ base : Heap, K.In base → base.Ns mainGlobals mg → FnG l.prog w K mg base k fa fd [x] S) :
    PySem.W.WalkO q loose XP YP l.row.toRowW d [] (fun f vs => PySem.call f vs) := by
  refine Att.attach_call hm hdf fun w s0 st mg mb fa o pm cd doc a vs ns G Y ho hd hcd hmg hobj hint hlen hgens => ?_
  obtain ⟨K, fd, S, kin, hbind, hS, hF⟩ := F w mg fa _ Y G.T.g hmg
  exact lawG kin G.T.g G.T.b G.T.builtins G.T.nolimit hgens hobj hint (Nat.le_trans hlen hz) hr hF hbind (hS ns hlen)
end Ly
set_option Elab.async false
set_option maxRecDepth 100000
/-! Ly, part G: chains, signs, types, targets of any kind, is None -/
namespace Ly
open PySem PySem.Spec PyProof.Rows L2
open Evl (Ex ex_rd ex_l ex_t fresh_back)
section
variable {K : PySem.W.Frag} {ta tb tc te : TE} {a b c : ME}
/-! ### a < b < c -/
def mChain (f g : O2) (a b c : ME) : ME := fun ρ μ => (a ρ μ).bind fun x μ1 => (b ρ μ1).bind fun y μ2 => (f x y μ2).bind fun z μ3 => (oB z μ3).bind fun k μ4 => if k = true then (c ρ μ4).bind fun u μ5 => g y u μ5 else .ok (.v (.bool false)) μ4
theorem rd_chain {r r' : R2} {f g : O2} (hf : RdO K r f) (hg : RdO K r' g) (ha : RdE K ta a) (hb : RdE K tb b) (hc : RdE K tc c) : RdE K (tChain r r' ta tb tc) (mChain f g a b c) := by
  intro α B H μ σ ρ Q w e h
  refine ha _ _ _ _ _ _ _ w e (Sat.imp (Sat.bind h) fun x μ1 α1 B1 H1 m1 w1 h1 xv rx => ?_)
  refine hb _ _ _ _ _ _ _ w1 (e.mono m1) (Sat.imp (Sat.bind h1) fun y μ2 α2 B2 H2 m2 w2 h2 yv ry => ?_)
  refine hf _ _ _ _ _ _ _ _ _ w2 (rx.mono m2) ry (Sat.imp (Sat.bind h2) fun z μ3 α3 B3 H3 m3 w3 h3 zv rz => ?_)
  obtain ⟨k, rfl, h4⟩ := oB_sat w3 rz (Sat.bind h3)
  refine ⟨k, rfl, ?_⟩
  cases k with
  | false => exact Sat.ok h4 w3 _ (.v (.bl false))
  | true =>
    rw [if_pos rfl] at h4 ⊢
    refine hc _ _ _ _ _ _ _ w3 (e.mono (m1.trans (m2.trans m3))) (Sat.imp (Sat.bind h4) fun u μ5 α5 B5 H5 m5 w5 h5 uv ru => ?_)
    exact hg _ _ _ _ _ _ _ _ _ w5 (ry.mono (m3.trans m5)) ru h5
/-! ### -a -/
def fNeg (s : Sl) (μ : Mem) : Res Sl := match s with
  | .v (.int i) => .ok (.v (.int (-i))) μ
  | _ => .no
theorem ru_neg : RdU K (rU fun i => .int (-i)) fNeg := by
  intro α B H μ x s Q w rx h
  unfold fNeg at h
  split at h
  · cases slI rx
    exact ⟨_, rfl, sat_val w (.int _) h⟩
  · exact h.elim
/-! ### is None, type(x) is T -/
def isNo (s : Sl) : Bool := match s with
  | .v .none => true
  | _ => false
def oIsN (neg : Bool) : O2 := fun s t μ => match t with
  | .v .none => .ok (.v (.bool (if neg then !isNo s else isNo s))) μ
  | _ => .no
theorem isNo_ok {B : Hp} {α : List Addr} {x : V} {s : Sl} (r : SlR K B α x s) : decide (x = .non) = isNo s := by
  cases r with
  | o _ => rfl
  | s _ _ => rfl
  | v d => cases d <;> rfl
theorem rdo_isN : RdO K (fun x y H Q => y = .non ∧ Q (.bl (decide (x = .non))) H) (oIsN false) := by
  intro α B H μ x y s t Q w rx ry h
  unfold oIsN at h
  split at h
  · cases ry with
    | v dy =>
      cases dy
      rw [isNo_ok rx]
      exact ⟨rfl, sat_val w (.bl _) h⟩
  · exact h.elim
theorem rdo_notN : RdO K (fun x y H Q => y = .non ∧ Q (.bl (!decide (x = .non))) H) (oIsN true) := by
  intro α B H μ x y s t Q w rx ry h
  unfold oIsN at h
  split at h
  · cases ry with
    | v dy =>
      cases dy
      rw [isNo_ok rx]
      exact ⟨rfl, sat_val w (.bl _) h⟩
  · exact h.elim
def tyD : PyData → Option String
  | .none => some "NoneType"
  | .bool _ => some "bool"
  | .int _ => some "int"
  | .str _ => some "str"
  | .list _ => some "list"
  | .tuple _ => some "tuple"
  | .dict _ => none
def mTyIs (T : String) (a : ME) : ME := fun ρ μ => (a ρ μ).bind fun s μ1 => match (daOf s μ1).bind tyD with
  | some U => .ok (.v (.bool (decide (U = T)))) μ1
  | none => .no
theorem tyD_ok {B H : Hp} {α : List Addr} {μ : Mem} {s : Sl} {x : V} {U : String} (w : Wd K B H α μ) (r : SlR K B α x s) (h : (daOf s μ).bind tyD = some U) : TyB K H x U := by
  obtain ⟨d, e1, e2⟩ := Option.bind_eq_some_iff.mp h
  have hd := daOf_ok w r e1
  cases hd with
  | non => cases e2; exact .non
  | bl b => cases e2; exact .bl b
  | int i => cases e2; exact .int i
  | str z => cases e2; exact .str z
  | lst h1 _ => cases e2; exact .lst h1
  | tup h1 _ => cases e2; exact .tup h1
theorem rd_tyIs {T : String} (ha : RdE K ta a) : RdE K (tOp (fun x y H Q => ∃ a b, x = .ty a ∧ y = .ty b ∧ Q (.bl (decide (a = b))) H) (tCB (rTyp K) (tCons ta tNil)) (tC (.ty T))) (mTyIs T a) := by
  intro α B H μ σ ρ Q w e h
  refine ha _ _ _ _ _ _ _ w e (Sat.imp (Sat.bind h) fun s μ1 α1 B1 H1 m1 w1 h1 x rx => ?_)
  split at h1
  · rename_i U e1
    exact ⟨x, U, rfl, tyD_ok w1 rx e1, U, T, rfl, rfl, sat_val w1 (.bl _) h1⟩
  · exact h1.elim
/-! ### targets: names, places in lists of one's own, tuples of such -/
abbrev MG := Sl → Ro → Mem → Res Ro
abbrev MGs := List PyData → Ro → Mem → Res Ro
abbrev PG' (K : PySem.W.Frag) (Q : L2.St → Hp → Prop) : Ro → Mem → List Addr → Hp → Hp → Prop := fun ρ' _ α' B' H' => ∀ σ', EnvR K B' α' σ' ρ' → Q σ' H'
def RdG (K : PySem.W.Frag) (g : TG) (m : MG) : Prop := ∀ (α : List Addr) (B H : Hp) (μ : Mem) (x : V) (s : Sl) (σ : L2.St) (ρ : Ro) (Q : L2.St → Hp → Prop), Wd K B H α μ → EnvR K B α σ ρ → SlR K B α x s → Sat K α B H (m s ρ μ) (PG' K Q) → g x σ H Q
def RdGs (K : PySem.W.Frag) (g : TGs) (m : MGs) : Prop := ∀ (α : List Addr) (B H : Hp) (μ : Mem) (xs : List V) (ds : List PyData) (σ : L2.St) (ρ : Ro) (Q : L2.St → Hp → Prop), Wd K B H α μ → EnvR K B α σ ρ → DtAll K B xs ds → Sat K α B H (m ds ρ μ) (PG' K Q) → g xs σ H Q
def gN (i : Nat) : MG := fun s ρ μ => .ok (ρ.set i (some s)) μ
def gS (o i : ME) : MG := fun z ρ μ => (o ρ μ).bind fun x μ1 => (i ρ μ1).bind fun y μ2 => (fSet x y z μ2).bind fun _ μ3 => .ok ρ μ3
def gE : MGs := fun ds ρ μ => match ds with
  | [] => .ok ρ μ
  | _ => .no
def gC (g : MG) (r : MGs) : MGs := fun ds ρ μ => match ds with
  | d :: es => (g (.v d) ρ μ).bind fun ρ1 μ1 => r es ρ1 μ1
  | [] => .no
def gT (n : Nat) (r : MGs) : MG := fun s ρ μ => match tuOf s with
  | some ds => if ds.length = n then r ds ρ μ else .no
  | none => .no
theorem rg_n {i : Nat} : RdG K (gName i) (gN i) := fun _ _ _ _ _ _ _ _ _ w e r h => Sat.ok h w _ (e.set i r)
theorem rg_s {to ti : TE} {o i : ME} (ho : RdE K to o) (hi : RdE K ti i) : RdG K (gSub to ti rSetL) (gS o i) := by
  intro α B H μ x s σ ρ Q w e r h
  refine ho _ _ _ _ _ _ _ w e (Sat.imp (Sat.bind h) fun y μ1 α1 B1 H1 m1 w1 h1 yv ry => ?_)
  refine hi _ _ _ _ _ _ _ w1 (e.mono m1) (Sat.imp (Sat.bind h1) fun z μ2 α2 B2 H2 m2 w2 h2 zv rz => ?_)
  refine rset_L _ _ _ _ _ _ _ _ _ _ _ w2 (ry.mono m2) rz (r.mono (m1.trans m2)) (Sat.imp (Sat.bind h2) fun _ μ3 α3 B3 H3 m3 w3 h3 => ?_)
  exact Sat.ok h3 w3 _ (e.mono (m1.trans (m2.trans m3)))
theorem rg_nil : RdGs K gNil gE := by
  intro α B H μ xs ds σ ρ Q w e r h
  cases r with
  | nil => exact ⟨rfl, Sat.ok h w _ e⟩
  | cons _ _ => exact h.elim
theorem rg_cons {g : TG} {gs : TGs} {m : MG} {ms : MGs} (hg : RdG K g m) (hr : RdGs K gs ms) : RdGs K (gCons g gs) (gC m ms) := by
  intro α B H μ xs ds σ ρ Q w e r h
  cases r with
  | nil => exact h.elim
  | cons r t =>
    refine ⟨_, _, rfl, hg _ _ _ _ _ _ _ _ _ w e (.v r) (Sat.imp (Sat.bind h) fun ρ1 μ1 α1 B1 H1 m1 w1 h1 σ1 e1 => ?_)⟩
    exact hr _ _ _ _ _ _ _ _ _ w1 e1 (dpa_mono m1.bb _ _ t) h1
theorem rg_tup {n : Nat} {gs : TGs} {ms : MGs} (hr : RdGs K gs ms) : RdG K (gTup K n gs) (gT n ms) := by
  intro α B H μ x s σ ρ Q w e r h
  unfold gT at h
  split at h
  · rename_i ds e1
    by_cases c : ds.length = n
    · rw [if_pos c] at h
      obtain ⟨a, xs, rfl, _, h1, d1⟩ := tuOf_ok w r e1
      exact ⟨a, xs, rfl, h1, by rw [dpa_len d1]; exact c, hr _ _ _ _ _ _ _ _ _ w e d1 h⟩
    · rw [if_neg c] at h
      exact h.elim
  · exact h.elim
def sAsgG (a : ME) (g : MG) : MS := fun ρ μ => (a ρ μ).out fun s μ1 => (g s ρ μ1).out fun ρ1 μ2 => .nx ρ1 μ2
theorem rs_asgG {g : TG} {m : MG} (ha : RdE K te a) (hg : RdG K g m) : RdS K (tAsg te g) (sAsgG a m) := by
  intro α B H μ σ ρ D w e h
  refine ha _ _ _ _ _ _ _ w e (Sat.imp (Sat.out h) fun s μ1 α1 B1 H1 m1 w1 h1 x rx => ?_)
  exact hg _ _ _ _ _ _ _ _ _ w1 (e.mono m1) rx (Sat.imp (Sat.out h1) fun ρ1 μ2 α2 B2 H2 m2 w2 h2 σ2 e2 => SatS.nx h2 w2 e2)
end
end Ly
set_option Elab.async false
namespace Ly
open PySem PySem.Spec PyProof.Rows L2
theorem op_addA' {X : Cx} {K : PySem.W.Frag} (h : X.K = K) : OpR X (binaryOp .Add) (rAddA K) := h ▸ op_addA
theorem op_mulA' {X : Cx} {K : PySem.W.Frag} (h : X.K = K) : OpR X (binaryOp .Mult) (rMulA K) := h ▸ op_mulA
theorem ix_bothK {X : Cx} {K : PySem.W.Frag} (h : X.K = K) : IxR X (fun x y H Q => rIxL K x y H Q ∨ rIxT K x y H Q) := h ▸ ix_both
theorem sl_bothK {X : Cx} {K : PySem.W.Frag} (h : X.K = K) : L2.SlR X (rSlB2 K) := h ▸ sl_both
theorem cr_sum' {X : Cx} {K : PySem.W.Frag} (h : X.K = K) (hc : X.calm = true) : CallR X (.builtin "sum") (rSum K) := h ▸ cr_sum hc
theorem cr_maxK {X : Cx} {K : PySem.W.Frag} (h : X.K = K) (hc : X.calm = true) : CallR X (.builtin "max") (rMax K) := h ▸ cr_max hc
theorem cr_all' {X : Cx} {K : PySem.W.Frag} (h : X.K = K) (hc : X.calm = true) : CallR X (.builtin "all") (rAll K) := h ▸ cr_all hc
theorem cr_repr' {X : Cx} {K : PySem.W.Frag} (h : X.K = K) (hg : X.A.guards = some []) (hu : X.A.units + 64 < cLine) : CallR X (.builtin "repr") (rRepr K) := h ▸ cr_repr hg hu
theorem call_len' {X : Cx} {K : PySem.W.Frag} (h : X.K = K) : CallR X (.builtin "len") (rLenQ K) := h ▸ call_len_seq
theorem op_eqD' {X : Cx} {K : PySem.W.Frag} (h : X.K = K) (hu : X.A.units + 64 < cLine) : OpR X (compareOp .Eq) (rEqD K) := h ▸ op_eqD hu
theorem op_neD' {X : Cx} {K : PySem.W.Frag} (h : X.K = K) (hu : X.A.units + 64 < cLine) : OpR X (compareOp .NotEq) (rNeD K) := h ▸ op_neD hu
section
variable {X : Cx} {K : PySem.W.Frag} {k : Nat} {f : Addr} {fd : FuncData} {ps ks : List Str} {S : Sem1} {x : Str} {p pos : Pos} {e : Expr} {es : List Expr} {t : TA} {kws : List Keyword} {tk : TA}
theorem pe_callGK (h : X.K = K) (G : FnG X.prog X.w K X.mg X.base k f fd ps S) (hr : Room k X.A) (hgd : X.A.guards = some []) (hg : Gl X x) (hm : X.mg x = some (.ref f)) (hk : PySem.W.keepIn K (.ref f) = true) (hb : Binds K fd ps [])
    (ha : PA X (e :: es) t) (hdb : (x == ("__debug__" : Str)) = false := by decide) (he : starEach (e :: es) X.env = (false, eval e X.env) :: starEach es X.env := by rfl) (hpl : (backTo pos (starEach es X.env)).any (·.1) = false := by rfl) :
    PE X (.Call (.Name x p) (e :: es) [] pos) (tCallG K S t) := by
  subst h; exact pe_callG G hr hgd hg hm hk hb ha hdb he hpl
theorem pe_callKGK {n : Nat} {ix : List Nat} (h : X.K = K) (G : FnG X.prog X.w K X.mg X.base k f fd ps S) (hr : Room k X.A) (hgd : X.A.guards = some []) (hg : Gl X x) (hm : X.mg x = some (.ref f)) (hk : PySem.W.keepIn K (.ref f) = true) (hb : KPick K fd ps ks n ix)
    (ha : PA X (e :: es) t) (hkw : PK X kws tk) (hall : (backToKw pos (keywordEach kws X.env)).all (·.1.isSome) = true := by rfl) (hks : (backToKw pos (keywordEach kws X.env)).filterMap (·.1) = ks := by rfl)
    (hdb : (x == ("__debug__" : Str)) = false := by decide) (he : starEach (e :: es) X.env = (false, eval e X.env) :: starEach es X.env := by rfl)
    (hpl : ((backTo pos (starEach (e :: es) X.env)).any (·.1) || (backToKw pos (keywordEach kws X.env)).any (·.1.isNone)) = false := by rfl) :
    PE X (.Call (.Name x p) (e :: es) kws pos) (tCallKG K S n ks.length ix t tk) := by
  subst h; exact pe_callKG G hr hgd hg hm hk hb ha hkw hall hks hdb he hpl
theorem pe_callKG0K {ix : List Nat} (h : X.K = K) (G : FnG X.prog X.w K X.mg X.base k f fd ps S) (hr : Room k X.A) (hgd : X.A.guards = some []) (hg : Gl X x) (hm : X.mg x = some (.ref f)) (hk : PySem.W.keepIn K (.ref f) = true) (hb : KPick K fd ps ks 0 ix)
    (hkw : PK X kws tk) (hall : (backToKw pos (keywordEach kws X.env)).all (·.1.isSome) = true := by rfl) (hks : (backToKw pos (keywordEach kws X.env)).filterMap (·.1) = ks := by rfl)
    (hdb : (x == ("__debug__" : Str)) = false := by decide) (hpl : ((backTo pos (starEach [] X.env)).any (·.1) || (backToKw pos (keywordEach kws X.env)).any (·.1.isNone)) = false := by rfl) :
    PE X (.Call (.Name x p) [] kws pos) (tCallKG K S 0 ks.length ix tNil tk) := by
  subst h; exact pe_callKG0 G hr hgd hg hm hk hb hkw hall hks hdb hpl
end
end Ly
set_option Elab.async false
set_option maxRecDepth 100000
set_option maxHeartbeats 1000000
set_option linter.all false
/-! Ly: the smallest of a list of tuples of ints -/
namespace Ly
open PySem PySem.Spec PyProof.Rows L2
section
variable {prog : Program} {w : World} {A : Around} {R : Result → Shared → Prop} {I : Addr} {fp wr : List Addr} {n : Nat} {P : Nat → Value → Prop} {St : Nat → Heap → Prop} {C : Heap → Prop}
def CmpAt (prog : Program) (w : World) (A : Around) (op : CmpOp) (P : Nat → Value → Prop) (C : Heap → Prop) (bt : Nat → Nat → Bool) : Prop :=
  ∀ i j vi vj (s : Shared) (Q : Value → Shared → Prop) (E : Value → Shared → Prop), C s.heap → P i vi → P j vj → Q (.bool (bt i j)) s → wpAny (model prog w) A (richCompare op vi vj) Q E s
def Keeps (C : Heap → Prop) (wr : List Addr) (S : Addr) : Prop := ∀ h h' : Heap, C h → (∀ b o, b ∉ wr → b ≠ S → h.get? b = some o → h'.get? b = some o) → C h'
theorem min_loopH (W : Walks prog w A.in1 I fp wr n P St) (bt : Nat → Nat → Bool) (hcmp : CmpAt prog w A.in1 .Lt P C bt) (S : Addr) (hC : Keeps C wr S) (hSf : S ∉ fp) :
    ∀ (k j : Nat) (s : Shared) (vb : Value) (c : Nat), n - (j + 1) = k → j + 1 ≤ n → St (j + 1) s.heap → C s.heap → P (argBest bt j) vb →
    s.heap.get? S = some { cls := .type "list", dict := none, data := .seq #[vb, vb] c, slots := #[] } →
    (∀ v h' tk, P (argBest bt (n - 1)) v → (∀ b o, b ∉ wr → b ≠ S → s.heap.get? b = some o → h'.get? b = some o) → R (.ok (.ret v)) { s with heap := h', toks := tk }) →
    codeAny (model prog w) A (.builtin "min.loop" ⟨[.ref I, .none, .ref S], []⟩) R s := by
  have hSw : S ∉ wr := fun h => hSf (W.sub _ h)
  have hname : (toString "min" ++ toString ".loop" : String) = "min.loop" := by decide
  intro k
  induction k with
  | zero =>
    intro j s vb c hk hj hst hc0 hPb hS hR
    have hin : j + 1 = n := by omega
    refine codeAny_builtin PySem.F.entry_min_loop ?_
    rw [Around.under_plainId PySem.F.plain_min_loop _]
    show wpAny _ A.in1 (seqItems? (.ref S) >>= _) _ _ s
    refine wpAny_bind (wpAny_seqItems hS rfl ?_)
    show wpAny _ A.in1 (tryCatch (pyNext (.ref I)) _ >>= _) _ _ s
    refine wpAny_bind (wpAny_tryCatch (W.done s _ _ (hin ▸ hst) fun h' tk hk' => ?_))
    have hS' := hk' S _ hSw hS
    show wpAny _ A.in1 (updateSeq S (fun _ => #[]) >>= _) _ _ _
    refine wpAny_bind ?_
    refine wpAny_updateSeq hS' rfl (wpAny_bind (wpAny_letGo (wpAny_pure ?_)))
    refine hR vb _ tk (by rw [← hin]; exact hPb) fun b o hbw hbS e => (Heap.get?_update_other _ _ (Ne.symm hbS)).trans (hk' b o hbw e)
  | succ k ih =>
    intro j s vb c hk hj hst hc0 hPb hS hR
    have hlt : j + 1 < n := by omega
    refine codeAny_builtin PySem.F.entry_min_loop ?_
    rw [Around.under_plainId PySem.F.plain_min_loop _]
    show wpAny _ A.in1 (seqItems? (.ref S) >>= _) _ _ s
    refine wpAny_bind (wpAny_seqItems hS rfl ?_)
    show wpAny _ A.in1 (tryCatch (pyNext (.ref I)) _ >>= _) _ _ s
    refine wpAny_bind (wpAny_tryCatch (W.item (j + 1) s _ _ hlt hst fun v h' tk hP hst' hk' => ?_))
    have hS' := hk' S _ hSw hS
    have hc1 : C h' := hC _ _ hc0 fun b o hb _ e => hk' b o hb e
    show wpAny _ A.in1 (tryCatch (holding [v, v] (richCompare .Lt v vb >>= _)) _ >>= _) _ _ _
    refine wpAny_bind (wpAny_tryCatch (wpAny_holding (wpAny_bind (hcmp (j + 1) (argBest bt j) v vb _ _ _ hc1 hP hPb ?_))))
    refine wpAny_bind (wpAny_holding (wpAny_truthy_bool ?_))
    refine wpAny_bind (wpAny_letGo (wpAny_pure ?_))
    cases hb : bt (j + 1) (argBest bt j) with
    | true =>
      simp only [if_true]
      refine wpAny_bind ?_
      refine wpAny_updateSeq hS' rfl (wpAny_bind (wpAny_letGo ?_))
      rw [hname]
      refine wpAny_pure ⟨plainId_quiet PySem.F.plain_min_loop _, ih (j + 1) _ v _ (by omega) hlt (W.frame _ _ _ hst' fun b hbf o e => ?_) (hC _ _ hc1 fun b o _ hbS e => (Heap.get?_update_other _ _ (Ne.symm hbS)).trans e) (by simp only [argBest, hb, if_true]; exact hP) (Heap.get?_update_self _ hS' rfl)
        fun v' h'' tk'' hP' hk'' => ?_⟩
      · exact (Heap.get?_update_other _ _ (fun h : S = b => hSf (by rw [h]; exact hbf))).trans e
      · exact hR v' h'' tk'' hP' fun b o hbw hbS e => hk'' b o hbw hbS ((Heap.get?_update_other _ _ (Ne.symm hbS)).trans (hk' b o hbw e))
    | false =>
      simp only [Bool.false_eq_true, if_false]
      refine wpAny_bind (wpAny_letGo ?_)
      rw [hname]
      refine wpAny_pure ⟨plainId_quiet PySem.F.plain_min_loop _, ih (j + 1) _ vb c (by omega) hlt hst' hc1 (by simp only [argBest, hb, Bool.false_eq_true, if_false]; exact hPb) hS' fun v' h'' tk'' hP' hk'' => ?_⟩
      exact hR v' h'' tk'' hP' fun b o hbw hbS e => hk'' b o hbw hbS (hk' b o hbw e)
theorem min_loopH1 (W : Walks prog w A.in1 I fp wr n P St) (bt : Nat → Nat → Bool) (hcmp : CmpAt prog w A.in1 .Lt P C bt) (S : Addr) (hC : Keeps C wr S) (hSf : S ∉ fp) (hn : 0 < n) {s : Shared} {c : Nat} (hst : St 0 s.heap) (hc0 : C s.heap)
    (hS : s.heap.get? S = some { cls := .type "list", dict := none, data := .seq #[] c, slots := #[] })
    (hR : ∀ v h' tk, P (argBest bt (n - 1)) v → (∀ b o, b ∉ wr → b ≠ S → s.heap.get? b = some o → h'.get? b = some o) → R (.ok (.ret v)) { s with heap := h', toks := tk }) :
    codeAny (model prog w) A (.builtin "min.loop" ⟨[.ref I, .none, .ref S], []⟩) R s := by
  have hSw : S ∉ wr := fun h => hSf (W.sub _ h)
  have hname : (toString "min" ++ toString ".loop" : String) = "min.loop" := by decide
  refine codeAny_builtin PySem.F.entry_min_loop ?_
  rw [Around.under_plainId PySem.F.plain_min_loop _]
  show wpAny _ A.in1 (seqItems? (.ref S) >>= _) _ _ s
  refine wpAny_bind (wpAny_seqItems hS rfl ?_)
  show wpAny _ A.in1 (tryCatch (pyNext (.ref I)) _ >>= _) _ _ s
  refine wpAny_bind (wpAny_tryCatch (W.item 0 s _ _ hn hst fun v h' tk hP hst' hk' => ?_))
  have hS' := hk' S _ hSw hS
  have hc1 : C h' := hC _ _ hc0 fun b o hb _ e => hk' b o hb e
  show wpAny _ A.in1 (updateSeq S (fun _ => #[v, v]) >>= _) _ _ _
  refine wpAny_bind ?_
  refine wpAny_updateSeq hS' rfl ?_
  rw [hname]
  refine wpAny_pure ⟨plainId_quiet PySem.F.plain_min_loop _, min_loopH W bt hcmp S hC hSf _ 0 _ v _ rfl hn (W.frame _ _ _ hst' fun b hbf o e => ?_) (hC _ _ hc1 fun b o _ hbS e => (Heap.get?_update_other _ _ (Ne.symm hbS)).trans e) hP (Heap.get?_update_self _ hS' rfl) fun v' h'' tk'' hP' hk'' => ?_⟩
  · exact (Heap.get?_update_other _ _ (fun h : S = b => hSf (by rw [h]; exact hbf))).trans e
  · exact hR v' h'' tk'' hP' fun b o hbw hbS e => hk'' b o hbw hbS ((Heap.get?_update_other _ _ (Ne.symm hbS)).trans (hk' b o hbw e))
end
section
variable {prog : Program} {w : World} {A : Around} {E : Value → Shared → Prop} {s : Shared}
theorem call_min_walkH {x : Value} {Q : Value → Shared → Prop}
    (h : wpAny (model prog w) A.in1 (pyIter x) (fun it s₂ => ∃ I fp wr n P St C bt, it = .ref I ∧ Walks prog w A.in1 I fp wr n P St ∧ St 0 s₂.heap ∧ (∀ b ∈ fp, b < s₂.heap.objs.size) ∧ 0 < n ∧ C s₂.heap ∧ Keeps C wr s₂.heap.objs.size ∧ CmpAt prog w A.in1 .Lt P C bt ∧
      ∀ v h' tk, P (argBest bt (n - 1)) v → (∀ b o, b ∉ wr → s₂.heap.get? b = some o → h'.get? b = some o) → Q v { s₂ with heap := h', toks := tk }) E s) :
    wpAny (model prog w) A (call (.builtin "min") [x]) Q E s := by
  have hname : (toString "min" ++ toString ".loop" : String) = "min.loop" := by decide
  refine call_function_tree PySem.F.kind_min PySem.F.plain_min PySem.F.entry_min (PySem.F.args_min1 _) ?_
  show wpAny _ A.in1 (Builtin.Builtins.bindParams "min" ["key", "default"] 0 ⟨[], []⟩ >>= _) _ _ s
  refine wpAny_bind (wpAny_of_eq (show Builtin.Builtins.bindParams "min" ["key", "default"] 0 ⟨[], []⟩ = pure [none, none] from rfl) ?_)
  refine wpAny_bind (wpAny_pure ?_)
  refine wpAny_bind (wpAny_mono h (fun it s₂ h₂ => ?_) fun _ _ e => e)
  obtain ⟨I, fp, wr, n, P, St, C, bt, rfl, W, hst, hfp, hn, hc0, hC, hcmp, hQ⟩ := h₂
  refine wpAny_bind (wpAny_newObj_type ?_)
  have hSf : s₂.heap.objs.size ∉ fp := fun hm => Nat.lt_irrefl _ (hfp _ hm)
  rw [hname]
  refine wpAny_pure ⟨plainId_quiet PySem.F.plain_min_loop _, min_loopH1 W bt hcmp s₂.heap.objs.size hC hSf hn (W.frame _ _ _ hst fun b _ o e => Heap.get?_push_of_some _ e) (hC _ _ hc0 fun b o _ _ e => Heap.get?_push_of_some _ e) (Heap.get?_push_size _ rfl) fun v h' tk hP hk => ?_⟩
  exact hQ v h' tk hP fun b o hbw e => hk b o hbw (Nat.ne_of_lt (Heap.lt_size e)) (Heap.get?_push_of_some _ e)
/-- min of a list of tuples of ints -/
theorem min_tups {l : Addr} {its : Array Value} {rows : List (List Int)} {Q : Value → Shared → Prop} (hh : A.handled = none) (hu : A.units + 1 < cLine) (hl : s.heap.IsList l its) (hn : 0 < its.size)
    (ht : ∀ (i : Nat) (v : Value), its[i]? = some v → ∃ (b : Addr) (items : Array Value) (ns : List Int), v = .ref b ∧ IsTup s.heap b items ∧ rows[i]? = some ns ∧ IntsAre items.toList ns)
    (h : ∀ h' tk v, (∀ d o, s.heap.get? d = some o → h'.get? d = some o) → its[argBest (fun i j => HT.lexLt (rows.getD i []) (rows.getD j [])) (its.size - 1)]? = some v → Q v { s with heap := h', toks := tk }) :
    wpAny (model prog w) A (call (.builtin "min") [.ref l]) Q E s := by
  refine call_min_walkH (x := .ref l) (iter_anyList hl fun s₂ e st hfp hlI => ?_)
  subst e
  refine ⟨_, _, _, _, _, _, fun (h0 : Heap) => ∀ (i : Nat) (v : Value), its[i]? = some v → ∃ (b : Addr) (items : Array Value) (ns : List Int), v = .ref b ∧ b < s.heap.objs.size ∧ IsTup h0 b items ∧ rows[i]? = some ns ∧ IntsAre items.toList ns,
    fun i j => HT.lexLt (rows.getD i []) (rows.getD j []), rfl, Walks.list (A := A.in1) hh _ l hlI its, st, hfp, hn, ?_, ?_, ?_, fun v h' tk hP hk => h h' tk v (PySem.old_kept hk) hP⟩
  · intro i v e
    obtain ⟨b, items, ns, h1, h2, h3, h4⟩ := ht i v e
    exact ⟨b, items, ns, h1, by obtain ⟨_, e1, _⟩ := h2; exact Heap.lt_size e1, h2.keeps fun b o e => Heap.get?_push_of_some _ e, h3, h4⟩
  · intro h1 h2 hc hk i v e
    obtain ⟨b, items, ns, g1, g2, g3, g4, g5⟩ := hc i v e
    refine ⟨b, items, ns, g1, g2, ?_, g4, g5⟩
    obtain ⟨o, e1, r⟩ := g3
    refine ⟨o, hk b o (fun z => ?_) (fun z => ?_) e1, r⟩
    · rcases List.mem_cons.mp z with z | z
      · exact absurd g2 (by rw [z]; exact Nat.lt_irrefl _)
      · cases z
    · have hz : (s.heap.push { cls := .type "list_iterator", data := .fields #[Value.ref l, Value.int 0 0] }).objs.size = s.heap.objs.size + 1 := Heap.size_push _ _
      have z2 : b = s.heap.objs.size + 1 := z.trans hz
      exact absurd g2 (by rw [z2]; exact Nat.not_lt.mpr (Nat.le_succ _))
  · intro i j vi vj s3 Q3 E3 hc hi hj hq
    obtain ⟨b, items, ns, rfl, -, t1, r1, i1⟩ := hc i vi hi
    obtain ⟨b2, items2, ms, rfl, -, t2, r2, i2⟩ := hc j vj hj
    refine HT.lt_tupInts t1 t2 i1 i2 hu ?_
    have e1 : rows.getD i [] = ns := by rw [List.getD_eq_getElem?_getD, r1]; rfl
    have e2 : rows.getD j [] = ms := by rw [List.getD_eq_getElem?_getD, r2]; rfl
    have hq : Q3 (.bool (HT.lexLt (rows.getD i []) (rows.getD j []))) s3 := hq
    rw [e1, e2] at hq
    exact hq
end

/-! ### min of a list of tuples of ints -/
def minIx (rows : List (List Int)) : Nat := argBest (fun i j => HT.lexLt (rows.getD i []) (rows.getD j [])) (rows.length - 1)
theorem argBest_le (bt : Nat → Nat → Bool) : ∀ k, argBest bt k ≤ k
  | 0 => Nat.le_refl _
  | k + 1 => by
    unfold argBest
    split
    · exact Nat.le_refl _
    · exact Nat.le_succ_of_le (argBest_le bt k)
theorem minIx_lt {rows : List (List Int)} (h : 0 < rows.length) : minIx rows < rows.length := by
  have := argBest_le (fun i j => HT.lexLt (rows.getD i []) (rows.getD j [])) (rows.length - 1)
  unfold minIx
  omega
def rMinT (K : PySem.W.Frag) : List V → Hp → VK → Prop := fun vs H Q => ∃ (a : Addr) (xs : List V) (rows : List (List Int)), vs = [.ref a] ∧ SqL K H a xs ∧ xs.length = rows.length ∧ 0 < xs.length ∧
  (∀ (i : Nat) (x : V), xs[i]? = some x → ∃ (b : Addr) (ns : List Int), x = .ref b ∧ rows[i]? = some ns ∧ SqT K H b (ns.map V.int)) ∧ ∀ (x : V), xs[minIx rows]? = some x → Q x H
def tupsOf : List PyData → Option (List (List Int))
  | [] => some []
  | .tuple ds :: r => (match intsOf ds, tupsOf r with
    | some ns, some rs => some (ns :: rs)
    | _, _ => none)
  | _ :: _ => none
def fMinT : List Sl → Mem → Res Sl := fun ss μ => match ss with
  | [s] => (match (rdOf s μ).bind tupsOf with
    | some rows => guardR (decide (0 < rows.length)) (.ok (.v (.tuple ((rows.getD (minIx rows) []).map .int))) μ)
    | none => .no)
  | _ => .no
theorem units1 {A : Around} (h : A.units + 64 < cLine) : A.units + 1 < cLine := by omega
section
variable {X : Cx}
theorem cr_minT {K : PySem.W.Frag} (hK : X.K = K) (hu : X.A.units + 1 < cLine) (hc : X.calm = true) : CallR X (.builtin "min") (rMinT K) := by
  subst hK
  intro pins s σ H vs us Q I r h
  obtain ⟨a, xs, rows, rfl, hs, hlen, hne, ht, q⟩ := h
  obtain ⟨its, rv, hl, _⟩ := I.list hs
  rw [Vals.ref1 r]
  have hsz : its.toArray.size = xs.length := by rw [List.size_toArray]; exact rv.length.symm
  have gx : ∀ (i : Nat) (v : Value), its.toArray[i]? = some v → ∃ x, xs[i]? = some x ∧ RelV x v := by
    intro i v e
    rw [List.getElem?_toArray] at e
    cases ex : xs[i]? with
    | none => rw [Vals.none_of rv ex] at e; cases e
    | some x =>
      obtain ⟨u, e1, e2⟩ := Vals.get rv ex
      rw [e] at e1
      cases e1
      exact ⟨x, rfl, e2⟩
  refine min_tups (rows := rows) (I.ok.hd hc) hu hl.isList (by rw [hsz]; exact hne) (fun i v e => ?_) fun h' tk v hk e => ?_
  · obtain ⟨x, e1, e2⟩ := gx i v e
    obtain ⟨b, ns, rfl, h2, h3⟩ := ht i x e1
    cases e2
    obtain ⟨its2, r1, p1, _⟩ := I.tuple h3
    exact ⟨b, _, ns, rfl, p1, h2, intsAre_of r1⟩
  · rw [hsz, hlen] at e
    obtain ⟨x, e1, e2⟩ := gx _ v e
    exact ⟨x, H, I.kept hk, e2, q x e1⟩
end
section
variable {K : PySem.W.Frag} {B H : Hp} {α : List Addr} {μ : Mem}
theorem intsOf_eq : ∀ {ds : List PyData} {ns : List Int}, intsOf ds = some ns → ds = ns.map .int
  | [], _, e => by cases e; rfl
  | .int i :: ds, ns, e => by
    obtain ⟨ms, e1, rfl⟩ := Option.map_eq_some_iff.mp e
    rw [intsOf_eq e1]
    rfl
  | .none :: _, _, e | .bool _ :: _, _, e | .str _ :: _, _, e | .list _ :: _, _, e | .tuple _ :: _, _, e => by cases e
theorem tupsOf_ok : ∀ {ds : List PyData} {rows : List (List Int)} {xs : List V}, DtAll K H xs ds → tupsOf ds = some rows → xs.length = rows.length ∧
    ∀ (i : Nat) (x : V), xs[i]? = some x → ∃ (b : Addr) (ns : List Int), x = .ref b ∧ rows[i]? = some ns ∧ SqT K H b (ns.map V.int) ∧ Dt K H x (.tuple (ns.map .int))
  | [], _, _, h, e => by cases e; cases h; exact ⟨rfl, fun i x z => by cases z⟩
  | d :: ds, rows, _, h, e => by
    cases h with
    | cons h t =>
      cases h with
      | tup h1 t1 =>
        unfold tupsOf at e
        split at e
        · rename_i ns rs e1 e2
          cases e
          obtain ⟨g1, g2⟩ := tupsOf_ok t e2
          refine ⟨by simp [g1], fun i x z => ?_⟩
          cases i with
          | zero =>
            cases z
            have := intsOf_ok t1 e1
            subst this
            exact ⟨_, ns, rfl, rfl, h1, by rw [← intsOf_eq e1]; exact .tup h1 t1⟩
          | succ i => exact g2 i x z
        · cases e
      | _ => cases e
theorem rc_minT : RdC K (rMinT K) fMinT := by
  intro α B H μ xs ss Q w r h
  unfold fMinT at h
  split at h
  · obtain ⟨x, rfl, r1⟩ := sla1 r
    split at h
    · rename_i rows e
      obtain ⟨c, h⟩ := sat_guard h
      have c := of_decide_eq_true c
      obtain ⟨ds, e1, e2⟩ := Option.bind_eq_some_iff.mp e
      obtain ⟨a, ys, rfl, h1, d1⟩ := rdOf_ok w r1 e1
      obtain ⟨g1, g2⟩ := tupsOf_ok d1 e2
      refine ⟨a, ys, rows, rfl, h1, g1, by rw [g1]; exact c, fun i x z => ?_, fun x z => ?_⟩
      · obtain ⟨b, ns, f1, f2, f3, _⟩ := g2 i x z
        exact ⟨b, ns, f1, f2, Evl.ex_t w.bh f3⟩
      · obtain ⟨b, ns, f1, f2, f3, f4⟩ := g2 _ x z
        rw [List.getD_eq_getElem?_getD, f2] at h
        exact sat_val w f4 h
    · exact h.elim
  · exact h.elim
end
end Ly
set_option Elab.async false
set_option linter.all false
set_option maxRecDepth 100000
/-! Ly, part N: least common multiples, factorials, chains of three -/
namespace Ly
open PySem PySem.Spec PyProof.Rows L2
theorem log_mul {a b x y : Nat} (ha : a.log2 < x) (hb : b.log2 < y) : (a * b).log2 ≤ x + y := by
  rcases Nat.eq_zero_or_pos a with za | za
  · subst za; rw [Nat.zero_mul, Nat.log2_zero]; exact Nat.zero_le _
  rcases Nat.eq_zero_or_pos b with zb | zb
  · subst zb; rw [Nat.mul_zero, Nat.log2_zero]; exact Nat.zero_le _
  have h1 : a < 2 ^ x := (Nat.log2_lt (by omega)).mp ha
  have h2 : b < 2 ^ y := (Nat.log2_lt (by omega)).mp hb
  have h3 : a * b < 2 ^ (x + y) := by
    rw [Nat.pow_add]
    exact Nat.lt_of_lt_of_le (Nat.mul_lt_mul_of_pos_right h1 zb) (Nat.mul_le_mul_left _ (Nat.le_of_lt h2))
  exact Nat.le_of_lt ((Nat.log2_lt (Nat.pos_iff_ne_zero.mp (Nat.mul_pos za zb))).mpr h3)
theorem log_mono {a b : Nat} (h : a ≤ b) : a.log2 ≤ b.log2 := by
  rcases Nat.eq_zero_or_pos a with z | z
  · subst z; rw [Nat.log2_zero]; exact Nat.zero_le _
  · have h1 : 2 ^ a.log2 ≤ a := Nat.log2_self_le (by omega)
    exact (Nat.le_log2 (by omega)).mpr (Nat.le_trans h1 h)
def rLcm : List V → Hp → VK → Prop := fun vs H Q => ∃ a b : Int, vs = [.int a, .int b] ∧ a.natAbs.log2 < 6000 ∧ b.natAbs.log2 < 6000 ∧ Q (.int ((Nat.lcm a.natAbs b.natAbs : Nat) : Int)) H
def fLcm : List Sl → Mem → Res Sl := fun ss μ => match ss with
  | [.v (.int i), .v (.int j)] => guardR (decide (i.natAbs.log2 < 6000) && decide (j.natAbs.log2 < 6000)) (.ok (.v (.int ((Nat.lcm i.natAbs j.natAbs : Nat) : Int))) μ)
  | _ => .no
theorem cr_lcm {X : Cx} : CallR X (.builtin "math.lcm") rLcm := by
  intro pins s σ H vs us Q I r h
  obtain ⟨a, b, rfl, ha, hb, q⟩ := h
  obtain ⟨t, u, rfl⟩ := Vals.int2 r
  have h1 : (max 1 a.natAbs).log2 < 6000 := by
    rcases Nat.le_total 1 a.natAbs with z | z
    · rw [Nat.max_eq_right z]; exact ha
    · rw [Nat.max_eq_left z]; decide
  have h2 : (max a.natAbs b.natAbs).log2 < 6000 := by
    rcases Nat.le_total a.natAbs b.natAbs with z | z
    · rw [Nat.max_eq_right z]; exact hb
    · rw [Nat.max_eq_left z]; exact ha
  have h3 : ((((Nat.lcm 1 a.natAbs).lcm b.natAbs : Nat) : Int)).natAbs.log2 < bitsLine := by
    rw [PySem.W.mc_lcm_one, Int.natAbs_natCast, bitsLine_eq]
    have := log_mono (PySem.W.mc_lcm_le a.natAbs b.natAbs)
    have := log_mul ha hb
    omega
  have g := PySem.W.mg_run_lcm a t b u (by omega) (by omega) h3
  rw [PySem.W.mc_lcm_one] at g
  exact call_function_meets PySem.W.MGF.kind_lcm PySem.W.MGF.plain_lcm PySem.W.MGF.entry_lcm (PySem.W.MGF.args_lcm _ _) g.meets ⟨.int _, H, I.tok _, ⟨_, rfl⟩, q⟩
theorem rc_lcm {K : PySem.W.Frag} : RdC K rLcm fLcm := by
  intro α B H μ xs ss Q w r h
  unfold fLcm at h
  split at h
  · obtain ⟨x, y, rfl, r1, r2⟩ := sla2 r
    cases slI r1
    cases slI r2
    obtain ⟨c, h⟩ := sat_guard h
    simp only [Bool.and_eq_true, decide_eq_true_eq] at c
    exact ⟨_, _, rfl, c.1, c.2, sat_val w (.int _) h⟩
  · exact h.elim
def rFact : List V → Hp → VK → Prop := fun vs H Q => ∃ a : Int, vs = [.int a] ∧ 0 ≤ a ∧ a ≤ 20000 ∧ Q (.int ((Builtin.Math.factorialNat a.toNat : Nat) : Int)) H
def fFact : List Sl → Mem → Res Sl := fun ss μ => match ss with
  | [.v (.int i)] => guardR (decide (0 ≤ i) && decide (i ≤ 20000)) (.ok (.v (.int ((Builtin.Math.factorialNat i.toNat : Nat) : Int))) μ)
  | _ => .no
theorem cr_fact {X : Cx} : CallR X (.builtin "math.factorial") rFact := by
  intro pins s σ H vs us Q I r h
  obtain ⟨a, rfl, ha, hb, q⟩ := h
  obtain ⟨u, rfl, r1⟩ := Vals.one r
  obtain ⟨t, rfl⟩ := r1
  exact PySem.W.mc_factorial ha hb fun _ => ⟨.int _, H, I.tok _, ⟨_, rfl⟩, q⟩
theorem rc_fact {K : PySem.W.Frag} : RdC K rFact fFact := by
  intro α B H μ xs ss Q w r h
  unfold fFact at h
  split at h
  · obtain ⟨x, rfl, r1⟩ := sla1 r
    cases slI r1
    obtain ⟨c, h⟩ := sat_guard h
    simp only [Bool.and_eq_true, decide_eq_true_eq] at c
    exact ⟨_, rfl, c.1, c.2, sat_val w (.int _) h⟩
  · exact h.elim
/-! a < b < c < d -/
def tChain3 (r r' r2 : R2) (ta tb tc td : TE) : TE := fun σ H Q => ta σ H fun x H1 => tb σ H1 fun y H2 => r x y H2 fun z H3 => ∃ k, z = .bl k ∧
  (if k = true then tc σ H3 fun v H4 => r' y v H4 fun z2 H5 => ∃ k2, z2 = .bl k2 ∧ (if k2 = true then td σ H5 fun w H6 => r2 v w H6 Q else Q (.bl false) H5) else Q (.bl false) H3)
section
variable {X : Cx} {a b c d : Expr} {pos : Pos} {ta tb tc td : TE}
theorem pe_chain3 {op op' op2 : CmpOp} {r r' r2 : R2} (ho : OpR X (compareOp op) r) (ho' : OpR X (compareOp op') r') (ho2 : OpR X (compareOp op2) r2) (ha : PE X a ta) (hb : PE X b tb) (hc : PE X c tc) (hd : PE X d td)
    (hm : lastMarks [op, op', op2] [b, c, d] = false := by with_unfolding_all rfl) : PE X (.Compare a [op, op', op2] [b, c, d] pos) (tChain3 r r' r2 ta tb tc td) := by
  refine ⟨fun pins s σ H Q I h => ?_⟩
  refine Compare_chain (thn (ha.run pins s σ H _ I h) fun v s1 ⟨x, H1, I1, r1, q1⟩ => chain_link (thn (hb.run pins s1 σ H1 _ I1 q1) fun u s2 ⟨y, H2, I2, r2', q2⟩ =>
    thn (ho pins s2 σ H2 x y v u _ I2 r1 r2' q2) fun d s3 ⟨z, H3, I3, r3, k, e, q3⟩ => ?_)) hm
  subst e
  cases r3
  refine wpAny_truthy_bool ?_
  cases k with
  | false => exact ite_ff ⟨.bl false, H3, I3, rfl, q3⟩
  | true =>
    refine ite_tt (chain_link (thn (hc.run pins s3 σ H3 _ I3 q3) fun w' s4 ⟨z', H4, I4, r4, q4⟩ => thn (ho' pins s4 σ H4 y z' u w' _ I4 r2' r4 q4) fun d2 s5 ⟨z2, H5, I5, r5, k2, e2, q5⟩ => ?_))
    subst e2
    cases r5
    refine wpAny_truthy_bool ?_
    cases k2 with
    | false => exact ite_ff ⟨.bl false, H5, I5, rfl, q5⟩
    | true => exact ite_tt (chain_last (thn (hd.run pins s5 σ H5 _ I5 q5) fun w2 s6 ⟨z6, H6, I6, r6, q6⟩ => ho2 pins s6 σ H6 z' z6 w' w2 Q I6 r4 r6 q6))
end
def mChain3 (f g h : O2) (a b c d : ME) : ME := fun ρ μ => (a ρ μ).bind fun x μ1 => (b ρ μ1).bind fun y μ2 => (f x y μ2).bind fun z μ3 => (oB z μ3).bind fun k μ4 => if k = true then (c ρ μ4).bind fun u μ5 => (g y u μ5).bind fun z2 μ6 => (oB z2 μ6).bind fun k2 μ7 =>
  if k2 = true then (d ρ μ7).bind fun w μ8 => h u w μ8 else .ok (.v (.bool false)) μ7 else .ok (.v (.bool false)) μ4
section
variable {K : PySem.W.Frag} {ta tb tc td : TE} {a b c d : ME}
theorem rd_chain3 {r r' r2 : R2} {f g f2 : O2} (hf : RdO K r f) (hg : RdO K r' g) (hf2 : RdO K r2 f2) (ha : RdE K ta a) (hb : RdE K tb b) (hc : RdE K tc c) (hd : RdE K td d) : RdE K (tChain3 r r' r2 ta tb tc td) (mChain3 f g f2 a b c d) := by
  intro α B H μ σ ρ Q w e h
  refine ha _ _ _ _ _ _ _ w e (Sat.imp (Sat.bind h) fun x μ1 α1 B1 H1 m1 w1 h1 xv rx => ?_)
  refine hb _ _ _ _ _ _ _ w1 (e.mono m1) (Sat.imp (Sat.bind h1) fun y μ2 α2 B2 H2 m2 w2 h2 yv ry => ?_)
  refine hf _ _ _ _ _ _ _ _ _ w2 (rx.mono m2) ry (Sat.imp (Sat.bind h2) fun z μ3 α3 B3 H3 m3 w3 h3 zv rz => ?_)
  obtain ⟨k, rfl, h4⟩ := oB_sat w3 rz (Sat.bind h3)
  refine ⟨k, rfl, ?_⟩
  cases k with
  | false => exact Sat.ok h4 w3 _ (.v (.bl false))
  | true =>
    rw [if_pos rfl] at h4 ⊢
    refine hc _ _ _ _ _ _ _ w3 (e.mono (m1.trans (m2.trans m3))) (Sat.imp (Sat.bind h4) fun u μ5 α5 B5 H5 m5 w5 h5 uv ru => ?_)
    refine hg _ _ _ _ _ _ _ _ _ w5 (ry.mono (m3.trans m5)) ru (Sat.imp (Sat.bind h5) fun z2 μ6 α6 B6 H6 m6 w6 h6 zv2 rz2 => ?_)
    obtain ⟨k2, rfl, h7⟩ := oB_sat w6 rz2 (Sat.bind h6)
    refine ⟨k2, rfl, ?_⟩
    cases k2 with
    | false => exact Sat.ok h7 w6 _ (.v (.bl false))
    | true =>
      rw [if_pos rfl] at h7 ⊢
      refine hd _ _ _ _ _ _ _ w6 (e.mono (m1.trans (m2.trans (m3.trans (m5.trans m6))))) (Sat.imp (Sat.bind h7) fun t μ8 α8 B8 H8 m8 w8 h8 tv rt => ?_)
      exact hf2 _ _ _ _ _ _ _ _ _ w8 (ru.mono (m6.trans m8)) rt h8
end
/-! xs[::-1], a list's -/
theorem dta_snoc {K : PySem.W.Frag} {H : Hp} {v : V} {d : PyData} (hd : Dt K H v d) : ∀ {xs : List V} {ds : List PyData}, DtAll K H xs ds → DtAll K H (xs ++ [v]) (ds ++ [d])
  | _, _, .nil => .cons hd .nil
  | _, _, .cons h t => .cons h (dta_snoc hd t)
theorem dta_rev {K : PySem.W.Frag} {H : Hp} : ∀ {xs : List V} {ds : List PyData}, DtAll K H xs ds → DtAll K H xs.reverse ds.reverse
  | _, _, .nil => .nil
  | _, _, .cons h t => by
    rw [List.reverse_cons, List.reverse_cons]
    exact dta_snoc h (dta_rev t)
def mRevL (a : ME) : ME := fun ρ μ => (a ρ μ).bind fun s μ1 => match rdOf s μ1 with
  | some ds => .ok (.v (.list ds.reverse)) μ1
  | none => .no
theorem pe_revLK {X : Cx} {K : PySem.W.Frag} (hK : X.K = K) {e : Expr} {te : TE} {k : Nat} {p1 p2 p3 pos : Pos} (he : PE X e te) : PE X (.Subscript e (.Slice none none (some (.UnaryOp .USub (.Constant (.int 1) k p1) p2)) p3) pos) (tRevL K te) := by
  subst hK; exact pe_revL he
theorem rd_revL {K : PySem.W.Frag} {te : TE} {a : ME} (ha : RdE K te a) : RdE K (tRevL K te) (mRevL a) := by
  intro α B H μ σ ρ Q w e h
  refine ha _ _ _ _ _ _ _ w e (Sat.imp (Sat.bind h) fun s μ1 α1 B1 H1 m1 w1 h1 x rx => ?_)
  split at h1
  · rename_i ds q
    obtain ⟨a, ys, rfl, h2, d1⟩ := rdOf_ok w1 rx q
    exact ⟨a, ys, rfl, h2, fun p hp => sat_newL w1 (dta_rev d1) h1 p hp⟩
  · exact h1.elim
/-! sorted(xs), xs a list of ints -/
def sortI (ns : List Int) : List Int := ns.mergeSort fun a b => decide (a ≤ b)
theorem sortI_perm (ns : List Int) : (sortI ns).Perm ns := List.mergeSort_perm _ _
theorem sortI_pw (ns : List Int) : (sortI ns).Pairwise (· ≤ ·) := by
  have h := List.pairwise_mergeSort (le := fun a b : Int => decide (a ≤ b)) (fun a b c h1 h2 => by simp at *; omega) (fun a b => by simp; omega) ns
  exact h.imp fun {a b} q => by simpa using q
theorem sort_uniq : ∀ {xs ys : List Int}, xs.Perm ys → xs.Pairwise (· ≤ ·) → ys.Pairwise (· ≤ ·) → xs = ys
  | [], ys, h, _, _ => by rw [List.nil_perm.mp h]
  | x :: xs, [], h, _, _ => by cases List.perm_nil.mp h
  | x :: xs, y :: ys, h, h1, h2 => by
    have a1 : ∀ z ∈ xs, x ≤ z := fun z hz => List.rel_of_pairwise_cons h1 hz
    have a2 : ∀ z ∈ ys, y ≤ z := fun z hz => List.rel_of_pairwise_cons h2 hz
    have m1 : x ∈ y :: ys := h.mem_iff.mp List.mem_cons_self
    have m2 : y ∈ x :: xs := h.mem_iff.mpr List.mem_cons_self
    have e : x = y := by
      rcases List.mem_cons.mp m1 with e | e
      · exact e
      · rcases List.mem_cons.mp m2 with e2 | e2
        · exact e2.symm
        · have := a1 y e2
          have := a2 x e
          omega
    subst e
    rw [sort_uniq (List.Perm.cons_inv h) (List.Pairwise.of_cons h1) (List.Pairwise.of_cons h2)]
def fSorted : List Sl → Mem → Res Sl := fun ss μ => match ss with
  | [s] => (match (rdOf s μ).bind intsOf with
    | some ns => guardR (decide (ns.length < 64)) (.ok (.v (.list ((sortI ns).map .int))) μ)
    | none => .no)
  | _ => .no
theorem dta_ints {K : PySem.W.Frag} {H : Hp} : ∀ ns : List Int, DtAll K H (ns.map V.int) (ns.map PyData.int)
  | [] => .nil
  | i :: ns => .cons (.int i) (dta_ints ns)
theorem cr_sortedK {X : Cx} {K : PySem.W.Frag} (hK : X.K = K) : CallR X (.builtin "sorted") (rSorted K) := by
  subst hK; exact cr_sorted
theorem rc_sorted {K : PySem.W.Frag} : RdC K (rSorted K) fSorted := by
  intro α B H μ xs ss Q w r h
  unfold fSorted at h
  split at h
  · obtain ⟨x, rfl, r1⟩ := sla1 r
    split at h
    · rename_i ns e
      obtain ⟨c, h⟩ := sat_guard h
      obtain ⟨a, rfl, h1⟩ := ints_at w r1 e
      refine ⟨a, ns, rfl, h1, of_decide_eq_true c, fun ns' p hp hs hf => ?_⟩
      have e2 : ns' = sortI ns := sort_uniq (hp.trans (sortI_perm ns).symm) hs (sortI_pw ns)
      subst e2
      exact sat_newL w (dta_ints _) h p hf
    · exact h.elim
  · exact h.elim
end Ly
namespace Steck
/-! finite sums of whole numbers -/
def sum : Nat → (Nat → Int) → Int
  | 0, _ => 0
  | n + 1, f => sum n f + f n
theorem sum_congr {n : Nat} {f g : Nat → Int} (h : ∀ i, i < n → f i = g i) : sum n f = sum n g := by
  induction n with
  | zero => rfl
  | succ n ih =>
    simp only [sum]
    rw [ih (fun i hi => h i (by omega)), h n (by omega)]
theorem sum_zero {n : Nat} {f : Nat → Int} (h : ∀ i, i < n → f i = 0) : sum n f = 0 := by
  induction n with
  | zero => rfl
  | succ n ih =>
    simp only [sum]
    rw [ih (fun i hi => h i (by omega)), h n (by omega)]
    rfl
theorem sum_add (n : Nat) (f g : Nat → Int) : sum n (fun i => f i + g i) = sum n f + sum n g := by
  induction n with
  | zero => rfl
  | succ n ih => simp only [sum, ih]; omega
theorem sum_mul (n : Nat) (c : Int) (f : Nat → Int) : sum n (fun i => c * f i) = c * sum n f := by
  induction n with
  | zero => simp [sum]
  | succ n ih => simp only [sum, ih, Int.mul_add]
theorem sum_mul' (n : Nat) (c : Int) (f : Nat → Int) : sum n (fun i => f i * c) = sum n f * c := by
  induction n with
  | zero => simp [sum]
  | succ n ih => simp only [sum, ih, Int.add_mul]
theorem sum_swap (n m : Nat) (f : Nat → Nat → Int) : sum n (fun i => sum m (fun j => f i j)) = sum m (fun j => sum n (fun i => f i j)) := by
  induction n with
  | zero =>
    simp only [sum]
    exact (sum_zero fun _ _ => rfl).symm
  | succ n ih => simp only [sum, ih, ← sum_add]
/-- a sum may be continued by noughts -/
theorem sum_more {n m : Nat} {f : Nat → Int} (h : n ≤ m) (hz : ∀ i, n ≤ i → i < m → f i = 0) : sum m f = sum n f := by
  induction m with
  | zero =>
    have : n = 0 := by omega
    subst this; rfl
  | succ m ih =>
    by_cases e : n = m + 1
    · subst e; rfl
    · simp only [sum]
      rw [ih (by omega) (fun i h1 h2 => hz i h1 (by omega)), hz m (by omega) (by omega)]
      omega
/-- the first one taken off -/
theorem sum_head (n : Nat) (f : Nat → Int) : sum (n + 1) f = f 0 + sum n (fun i => f (i + 1)) := by
  induction n with
  | zero => simp only [sum]; omega
  | succ n ih =>
    rw [show sum (n + 1 + 1) f = sum (n + 1) f + f (n + 1) from rfl, ih]
    simp only [sum]; omega
/-- noughts below a -/
theorem sum_shift (a n : Nat) (f : Nat → Int) (hz : ∀ i, i < a → f i = 0) : sum (a + n) f = sum n (fun i => f (a + i)) := by
  induction n with
  | zero => exact sum_zero hz
  | succ n ih =>
    show sum (a + n) f + f (a + n) = sum n (fun i => f (a + i)) + f (a + n)
    rw [ih]
theorem sum_single {n j : Nat} {f : Nat → Int} (hj : j < n) (hz : ∀ i, i < n → i ≠ j → f i = 0) : sum n f = f j := by
  induction n with
  | zero => omega
  | succ n ih =>
    simp only [sum]
    by_cases e : j = n
    · subst e
      rw [sum_zero (fun i hi => hz i (by omega) (by omega))]
      omega
    · rw [ih (by omega) (fun i hi hne => hz i (by omega) hne), hz n (by omega) (by omega)]
      omega

/-! binomials -/
def ch : Nat → Nat → Nat
  | _, 0 => 1
  | 0, _ + 1 => 0
  | n + 1, k + 1 => ch n k + ch n (k + 1)
theorem ch_zero (n : Nat) : ch n 0 = 1 := by cases n <;> rfl
theorem ch_succ (n k : Nat) : ch (n + 1) (k + 1) = ch n k + ch n (k + 1) := rfl
theorem ch_gt : ∀ {n k : Nat}, n < k → ch n k = 0
  | 0, k + 1, _ => rfl
  | n + 1, k + 1, h => by
    rw [ch_succ, ch_gt (show n < k by omega), ch_gt (show n < k + 1 by omega)]
theorem ch_self : ∀ n : Nat, ch n n = 1
  | 0 => rfl
  | n + 1 => by rw [ch_succ, ch_self n, ch_gt (Nat.lt_succ_self n)]
theorem ch_one : ∀ n : Nat, ch n 1 = n
  | 0 => rfl
  | n + 1 => by rw [ch_succ, ch_zero, ch_one n]; omega
/-- (k + 1) C(n + 1, k + 1) = (n + 1) C(n, k) -/
theorem ch_abs : ∀ n k : Nat, (k + 1) * ch (n + 1) (k + 1) = (n + 1) * ch n k
  | 0, 0 => rfl
  | 0, k + 1 => by rw [ch_gt (show 0 + 1 < k + 1 + 1 by omega), ch_gt (show 0 < k + 1 by omega)]; rfl
  | n + 1, 0 => by
    rw [ch_one, ch_zero]; omega
  | n + 1, k + 1 => by
    have h1 := ch_abs n k
    have h2 := ch_abs n (k + 1)
    rw [ch_succ (n + 1) (k + 1)]
    have h3 := ch_succ n k
    generalize ch (n + 1) (k + 1) = A at *
    generalize ch (n + 1) (k + 1 + 1) = B at *
    generalize ch n k = C at *
    generalize ch n (k + 1) = D at *
    subst h3
    grind
/-- C(n, i) C(i, j) = C(n, j) C(n - j, i - j) -/
theorem ch_ch : ∀ (j m r : Nat), ch (j + m) (j + r) * ch (j + r) j = ch (j + m) j * ch m r
  | 0, m, r => by simp [ch_zero, Nat.mul_comm]
  | j + 1, m, r => by
    have ih := ch_ch j m r
    have h1 := ch_abs (j + m) (j + r)
    have h2 := ch_abs (j + r) j
    have h3 := ch_abs (j + m) j
    have e1 : j + 1 + m = j + m + 1 := by omega
    have e2 : j + 1 + r = j + r + 1 := by omega
    rw [e1, e2]
    -- (j+1) * lhs = (j+r+1) ch(j+m+1)(j+r+1) ch(j+r) j = (j+m+1) ch(j+m)(j+r) ch(j+r) j
    have k1 : (j + 1) * (ch (j + m + 1) (j + r + 1) * ch (j + r + 1) (j + 1)) = (j + 1) * (ch (j + m + 1) (j + 1) * ch m r) := by
      generalize ch (j + m + 1) (j + r + 1) = A at *
      generalize ch (j + r + 1) (j + 1) = B at *
      generalize ch (j + m + 1) (j + 1) = C at *
      generalize ch (j + m) (j + r) = D at *
      generalize ch (j + r) j = E at *
      generalize ch (j + m) j = F at *
      generalize ch m r = G at *
      calc (j + 1) * (A * B) = A * ((j + 1) * B) := by grind
        _ = A * ((j + r + 1) * E) := by rw [h2]
        _ = ((j + r + 1) * A) * E := by grind
        _ = ((j + m + 1) * D) * E := by rw [h1]
        _ = (j + m + 1) * (D * E) := by grind
        _ = (j + m + 1) * (F * G) := by rw [ih]
        _ = ((j + m + 1) * F) * G := by grind
        _ = ((j + 1) * C) * G := by rw [h3]
        _ = (j + 1) * (C * G) := by grind
    exact Nat.eq_of_mul_eq_mul_left (Nat.succ_pos j) k1
/-- the binomial theorem -/
theorem binom (x y : Int) : ∀ n : Nat, (x + y) ^ n = sum (n + 1) (fun i => (ch n i : Int) * x ^ i * y ^ (n - i))
  | 0 => by simp [sum, ch_zero]
  | n + 1 => by
    rw [Int.pow_succ, binom x y n, Int.mul_comm, Int.add_mul, ← sum_mul, ← sum_mul]
    rw [sum_head (n + 1)]
    have e : sum (n + 1) (fun i => ((ch (n + 1) (i + 1) : Nat) : Int) * x ^ (i + 1) * y ^ (n + 1 - (i + 1)))
        = sum (n + 1) (fun i => x * ((ch n i : Int) * x ^ i * y ^ (n - i))) + sum (n + 1) (fun i => ((ch n (i + 1) : Nat) : Int) * x ^ (i + 1) * y ^ (n - i)) := by
      rw [← sum_add]
      refine sum_congr fun i hi => ?_
      have e1 : n + 1 - (i + 1) = n - i := by omega
      rw [e1, ch_succ, Int.natCast_add, Int.pow_succ]
      grind
    rw [e]
    have e2 : sum (n + 1) (fun i => y * ((ch n i : Int) * x ^ i * y ^ (n - i))) = ((ch (n + 1) 0 : Nat) : Int) * x ^ 0 * y ^ (n + 1 - 0) + sum (n + 1) (fun i => ((ch n (i + 1) : Nat) : Int) * x ^ (i + 1) * y ^ (n - i)) := by
      rw [sum_head n]
      rw [show sum (n + 1) (fun i => ((ch n (i + 1) : Nat) : Int) * x ^ (i + 1) * y ^ (n - i)) = sum n (fun i => ((ch n (i + 1) : Nat) : Int) * x ^ (i + 1) * y ^ (n - i)) + ((ch n (n + 1) : Nat) : Int) * x ^ (n + 1) * y ^ (n - n) from rfl]
      rw [ch_gt (Nat.lt_succ_self n)]
      have e3 : sum n (fun i => y * (((ch n (i + 1) : Nat) : Int) * x ^ (i + 1) * y ^ (n - (i + 1)))) = sum n (fun i => ((ch n (i + 1) : Nat) : Int) * x ^ (i + 1) * y ^ (n - i)) := by
        refine sum_congr fun i hi => ?_
        have e4 : n - i = (n - (i + 1)) + 1 := by omega
        rw [e4, Int.pow_succ]
        grind
      rw [e3]
      simp only [ch_zero, Nat.sub_zero, Int.pow_zero, Int.pow_succ]
      grind
    rw [e2]
    generalize sum (n + 1) (fun i => x * ((ch n i : Int) * x ^ i * y ^ (n - i))) = A
    generalize sum (n + 1) (fun i => ((ch n (i + 1) : Nat) : Int) * x ^ (i + 1) * y ^ (n - i)) = B
    omega

/-! Steck's numbers and the stretches -/
def pos (z : Int) : Int := if 0 < z then z else 0
/-- the sum of the k-th line: nought for Steck's numbers; l is the k-th low -/
def line (hi : Nat → Int) (l x : Int) (n : Nat) (W : Nat → Int) : Int :=
  sum (n + 1) (fun i => (ch n i : Int) * (-pos (min (hi i) x - l)) ^ (n - i) * W i)
/-- whether the draws i, .., i + c - 1 may all lie between L and R -/
def okB (lo hi : Nat → Int) (L R : Int) (i : Nat) : Nat → Bool
  | 0 => true
  | c + 1 => okB lo hi L R i c && (decide (lo (i + c) ≤ L) && decide (R ≤ hi (i + c)))
theorem okB_iff {lo hi : Nat → Int} {L R : Int} {i : Nat} : ∀ {c : Nat}, okB lo hi L R i c = true ↔ ∀ t, i ≤ t → t < i + c → lo t ≤ L ∧ R ≤ hi t
  | 0 => ⟨fun _ t h1 h2 => absurd h2 (by omega), fun _ => rfl⟩
  | c + 1 => by
    rw [okB, Bool.and_eq_true, Bool.and_eq_true, decide_eq_true_eq, decide_eq_true_eq, okB_iff (c := c)]
    constructor
    · rintro ⟨h1, h2⟩ t a b
      by_cases e : t = i + c
      · subst e; exact h2
      · exact h1 t a (by omega)
    · intro h
      exact ⟨fun t a b => h t a (by omega), h (i + c) (by omega) (by omega)⟩
/-- one more stretch from L to R -/
def step (lo hi : Nat → Int) (L R : Int) (V : Nat → Int) (j : Nat) : Int :=
  sum (j + 1) (fun i => if okB lo hi L R i (j - i) = true then (ch j i : Int) * (R - L) ^ (j - i) * V i else 0)
theorem step_zero (lo hi : Nat → Int) (L R : Int) (V : Nat → Int) : step lo hi L R V 0 = V 0 := by
  simp [step, sum, okB, ch_zero]
/-- the numbers of draws up to x keep to Steck's lines -/
def Rec (lo hi : Nat → Int) (x : Int) (V : Nat → Int) : Prop := V 0 = 1 ∧ ∀ k, line hi (lo k) x (k + 1) V = 0

theorem pos_of_le {z : Int} (h : z ≤ 0) : pos z = 0 := if_neg (by omega)
theorem pos_of_nn {z : Int} (h : 0 ≤ z) : pos z = z := by
  unfold pos
  split <;> omega
theorem zero_pow' {n : Nat} (h : n ≠ 0) : (0 : Int) ^ n = 0 := by
  obtain ⟨m, rfl⟩ : ∃ m, n = m + 1 := ⟨n - 1, by omega⟩
  rw [Int.pow_succ, Int.mul_zero]
/-- where nothing of the line's low and highs is left, the line is its last one -/
theorem line_last {hi : Nat → Int} {l x : Int} {n : Nat} {W : Nat → Int} (h : ∀ i, i < n → min (hi i) x ≤ l) : line hi l x n W = W n := by
  unfold line
  rw [sum_single (j := n) (by omega)]
  · simp [ch_self]
  · intro i hi' hne
    rw [pos_of_le (by have := h i (by omega); omega), Int.neg_zero, zero_pow' (by omega), Int.mul_zero, Int.zero_mul]

theorem neg_pow_binom (y d : Int) (m : Nat) : sum (m + 1) (fun r => (ch m r : Int) * d ^ r * (-(y + d)) ^ (m - r)) = (-y) ^ m := by
  rw [← binom]
  congr 1
  omega

/-- THE STEP: a further stretch, no low and no high inside of it, keeps Steck's lines -/
theorem step_rec {lo hi : Nat → Int} {L R : Int} {V : Nat → Int} (hLR : L ≤ R) (mlo : ∀ i j, i ≤ j → lo i ≤ lo j) (mhi : ∀ i j, i ≤ j → hi i ≤ hi j)
    (nlo : ∀ i, lo i ≤ L ∨ R ≤ lo i) (nhi : ∀ i, hi i ≤ L ∨ R ≤ hi i) (h : Rec lo hi L V) : Rec lo hi R (step lo hi L R V) := by
  refine ⟨by rw [step_zero]; exact h.1, fun k => ?_⟩
  have hk := h.2 k
  by_cases hl : lo k ≤ L
  · -- the k-th low has been passed
    have ok : ∀ i j, i ≤ j → j ≤ k + 1 → (okB lo hi L R i (j - i) = true ↔ i = j ∨ R ≤ hi i) := by
      intro i j hij hj
      rw [okB_iff]
      constructor
      · intro q
        by_cases e : i = j
        · exact .inl e
        · exact .inr (q i (Nat.le_refl _) (by omega)).2
      · rintro (rfl | q) t a b
        · omega
        · exact ⟨Int.le_trans (mlo t k (by omega)) hl, Int.le_trans q (mhi i t a)⟩
    have st : ∀ i, i ≤ k + 1 → step lo hi L R V i = sum (k + 2) (fun j => if j ≤ i ∧ (j = i ∨ R ≤ hi j) then (ch i j : Int) * (R - L) ^ (i - j) * V j else 0) := by
      intro i hi'
      rw [sum_more (n := i + 1) (m := k + 2) (by omega) (fun j h1 h2 => if_neg (by omega))]
      unfold step
      refine sum_congr fun j hj => ?_
      have e := ok j i (by omega) hi'
      by_cases q : okB lo hi L R j (i - j) = true
      · rw [if_pos q, if_pos ⟨by omega, e.mp q⟩]
      · rw [if_neg q, if_neg fun z => q (e.mpr z.2)]
    unfold line at hk ⊢
    have e1 : sum (k + 1 + 1) (fun i => (ch (k + 1) i : Int) * (-pos (min (hi i) R - lo k)) ^ (k + 1 - i) * step lo hi L R V i)
        = sum (k + 2) (fun i => sum (k + 2) (fun j => (ch (k + 1) i : Int) * (-pos (min (hi i) R - lo k)) ^ (k + 1 - i) * (if j ≤ i ∧ (j = i ∨ R ≤ hi j) then (ch i j : Int) * (R - L) ^ (i - j) * V j else 0))) := by
      refine sum_congr fun i hi' => ?_
      rw [st i (by omega), ← sum_mul]
    rw [e1, sum_swap]
    refine Eq.trans ?_ hk
    refine sum_congr fun j hj => ?_
    by_cases q : R ≤ hi j
    · -- highs beyond the stretch: the binomial theorem
      have y0 : 0 ≤ L - lo k := by omega
      have e2 : -pos (min (hi j) L - lo k) = -(L - lo k) := by
        rw [show min (hi j) L = L by omega, pos_of_nn y0]
      rw [e2]
      obtain ⟨m, hm⟩ : ∃ m, k + 1 = j + m := ⟨k + 1 - j, by omega⟩
      have e3 : k + 2 = j + (m + 1) := by omega
      rw [e3, sum_shift j (m + 1) _ (fun i hi' => by rw [if_neg (by omega)]; exact Int.mul_zero _)]
      rw [show k + 1 - j = m by omega, ← neg_pow_binom (L - lo k) (R - L) m, Int.mul_assoc, ← sum_mul' (m + 1) (V j), ← sum_mul]
      refine sum_congr fun r hr => ?_
      rw [if_pos ⟨by omega, .inr q⟩, hm]
      have q2 : R ≤ hi (j + r) := Int.le_trans q (mhi _ _ (by omega))
      have e4 : pos (min (hi (j + r)) R - lo k) = L - lo k + (R - L) := by
        rw [show min (hi (j + r)) R = R by omega, pos_of_nn (by omega)]
        omega
      rw [e4, show j + m - (j + r) = m - r by omega, show j + r - j = r by omega]
      have c := congrArg (fun z : Nat => (z : Int)) (ch_ch j m r)
      simp only [Int.natCast_mul] at c
      generalize (-(L - lo k + (R - L))) ^ (m - r) = P
      generalize (R - L) ^ r = D
      calc (ch (j + m) (j + r) : Int) * P * ((ch (j + r) j : Int) * D * V j) = ((ch (j + m) (j + r) : Int) * (ch (j + r) j : Int)) * (P * D * V j) := by grind
        _ = ((ch (j + m) j : Int) * (ch m r : Int)) * (P * D * V j) := by rw [c]
        _ = (ch (j + m) j : Int) * ((ch m r : Int) * D * P * V j) := by grind
    · -- a high that has been passed: nothing changes
      rw [sum_single (j := j) (by omega)]
      · rw [if_pos ⟨Nat.le_refl _, .inl rfl⟩]
        have e2 : min (hi j) R = min (hi j) L := by
          have := nhi j
          omega
        rw [e2, ch_self, Nat.sub_self, Int.pow_zero]
        simp
      · intro i hi' hne
        rw [if_neg (by omega)]
        exact Int.mul_zero _
  · -- the k-th low lies beyond the stretch: nought both
    have hR : R ≤ lo k := (nlo k).resolve_left hl
    rw [line_last (fun i _ => by omega)]
    rw [line_last (fun i _ => by omega)] at hk
    unfold step
    rw [sum_single (j := k + 1) (by omega)]
    · rw [hk]; simp
    · intro i hi' hne
      rw [if_neg]
      intro z
      exact hl (okB_iff.mp z k (by omega) (by omega)).1
/-- Steck's numbers are determined -/
theorem rec_inj {lo hi : Nat → Int} {x : Int} {V W : Nat → Int} (h : Rec lo hi x V) (g : Rec lo hi x W) : ∀ n, V n = W n := by
  have key : ∀ n, ∀ i, i < n → V i = W i := by
    intro n
    induction n with
    | zero => intro i hi; omega
    | succ n ih =>
      intro i hi'
      by_cases e : i < n
      · exact ih i e
      · have e' : i = n := by omega
        subst e'
        cases i with
        | zero => rw [h.1, g.1]
        | succ k =>
          have a := h.2 k
          have b := g.2 k
          unfold line at a b
          simp only [sum, Nat.sub_self, Int.pow_zero, ch_self] at a b
          have c : sum k (fun i => (ch (k + 1) i : Int) * (-pos (min (hi i) x - lo k)) ^ (k + 1 - i) * V i) = sum k (fun i => (ch (k + 1) i : Int) * (-pos (min (hi i) x - lo k)) ^ (k + 1 - i) * W i) :=
            sum_congr fun i hi'' => by rw [ih i (by omega)]
          rw [c, ih k (by omega)] at a
          have d : (1 : Int) * 1 * V (k + 1) = 1 * 1 * W (k + 1) := by
            have := a.trans b.symm
            simp only [Int.natCast_one] at this
            omega
          omega
  exact fun n => key (n + 1) n (by omega)
/-- ahead of all lows nothing has fallen -/
theorem rec_start {lo hi : Nat → Int} {x : Int} (h : ∀ i, x ≤ lo i) : Rec lo hi x (fun j => if j = 0 then 1 else 0) :=
  ⟨rfl, fun k => by rw [line_last (fun i _ => by have := h k; omega)]; rfl⟩
end Steck
set_option Elab.async false
set_option linter.all false
set_option maxRecDepth 100000
/-! Ly, part P: reasoning about the mirrors -/
namespace Ly
open PySem L2
abbrev tp (n m : Int) : PyData := .tuple [.int n, .int m]
theorem atI0 (a b : PyData) : atI [a, b] 0 = some a := rfl
theorem atI1 (a b : PyData) : atI [a, b] 1 = some b := rfl
theorem eqInt (i j : Int) (μ : Mem) (b : Bool) : oEq b (.v (.int i)) (.v (.int j)) μ = .ok (.v (.bool (if b then !decide (i = j) else decide (i = j)))) μ := by
  have h : PyData.eqv (.int i) (.int j) = decide (i = j) := by first | rfl | simp [PyData.eqv]
  have s : ∀ k : Int, SeqAt.shaped (.int k) = true := fun k => by first | rfl | simp [SeqAt.shaped, PyData.canLay0, PyData.depth]
  simp [oEq, daOf, guardR, s, h]
/-! loops -/
theorem watch0 (μ : Mem) : WatchOk [] μ := fun p hp => by cases hp
theorem for_inv {i : Nat} {body : MS} : ∀ (items : List PyData) (P : Nat → Ro → Mem → Prop) (k : Nat) (ρ : Ro) (μ : Mem),
    (∀ j d ρ μ, items[j]? = some d → P (k + j) ρ μ → ∃ ρ' μ', body (ρ.set i (some (.v d))) μ = .nx ρ' μ' ∧ P (k + j + 1) ρ' μ') → P k ρ μ →
    ∃ ρ' μ', forGo (.n i) body [] items ρ μ = .nx ρ' μ' ∧ P (k + items.length) ρ' μ'
  | [], P, k, ρ, μ, h, h0 => ⟨ρ, μ, by simp [forGo, watch0], h0⟩
  | d :: ds, P, k, ρ, μ, h, h0 => by
    obtain ⟨ρ1, μ1, e1, p1⟩ := h 0 d ρ μ rfl h0
    obtain ⟨ρ2, μ2, e2, p2⟩ := for_inv ds P (k + 1) ρ1 μ1 (fun j d ρ μ e p => by
      have := h (j + 1) d ρ μ e (by rw [show k + (j + 1) = k + 1 + j by omega]; exact p)
      rw [show k + (j + 1) + 1 = k + 1 + j + 1 by omega] at this
      exact this) p1
    refine ⟨ρ2, μ2, ?_, by rw [show k + (d :: ds).length = k + 1 + ds.length by simp; omega]; exact p2⟩
    simp [forGo, watch0, tgSet, e1, e2]
/-- a loop that may end by a return -/
theorem for_ret {i : Nat} {body : MS} {c : Nat → Bool} {g : Nat → Sl} {μ0 : Mem} : ∀ (items : List PyData) (P : Nat → Ro → Prop) (k : Nat) (ρ : Ro),
    (∀ j d ρ, items[j]? = some d → P (k + j) ρ → if c (k + j) then body (ρ.set i (some (.v d))) μ0 = .rt (g (k + j)) μ0 else ∃ ρ', body (ρ.set i (some (.v d))) μ0 = .nx ρ' μ0 ∧ P (k + j + 1) ρ') → P k ρ →
    match (List.range' k items.length).find? c with
    | some j => forGo (.n i) body [] items ρ μ0 = .rt (g j) μ0
    | none => ∃ ρ', forGo (.n i) body [] items ρ μ0 = .nx ρ' μ0 ∧ P (k + items.length) ρ'
  | [], P, k, ρ, h, h0 => ⟨ρ, by simp [forGo, watch0], h0⟩
  | d :: ds, P, k, ρ, h, h0 => by
    have h1 := h 0 d ρ rfl h0
    simp only [Nat.add_zero] at h1
    rw [List.length_cons, List.range'_succ, List.find?_cons]
    cases e : c k with
    | true =>
      rw [e] at h1
      simp only [if_true] at h1
      simp [forGo, watch0, tgSet, h1]
    | false =>
      rw [e] at h1
      simp only [Bool.false_eq_true, if_false] at h1
      obtain ⟨ρ1, e1, p1⟩ := h1
      have ih := for_ret (c := c) (g := g) ds P (k + 1) ρ1 (fun j d ρ e p => by
        have := h (j + 1) d ρ e (by rw [show k + (j + 1) = k + 1 + j by omega]; exact p)
        rw [show k + (j + 1) = k + 1 + j by omega] at this
        exact this) p1
      have e2 : forGo (.n i) body [] (d :: ds) ρ μ0 = forGo (.n i) body [] ds ρ1 μ0 := by simp [forGo, watch0, tgSet, e1]
      rw [e2]
      simp only
      split <;> rename_i q <;> rw [q] at ih
      · exact ih
      · rw [show k + (ds.length + 1) = k + 1 + ds.length by omega]
        exact ih
theorem lc_run {i : Nat} {elt : ME} {ρ : Ro} {μ : Mem} {f : PyData → PyData} : ∀ (items acc : List PyData), (∀ d ∈ items, elt (ρ.set i (some (.v d))) μ = .ok (.v (f d)) μ) → acc.length + items.length ≤ capN →
    lcGo (.n i) mYes elt [] ρ items acc μ = .ok (acc ++ items.map f) μ
  | [], acc, _, _ => by simp [lcGo, watch0]
  | d :: ds, acc, h, hc => by
    have h1 := h d (List.mem_cons_self)
    have ih := lc_run ds (acc ++ [f d]) (fun e he => h e (List.mem_cons_of_mem _ he)) (by simp at hc ⊢; omega)
    have hl : acc.length < capN := by simp at hc; omega
    simp [lcGo, watch0, tgSet, mYes, h1, hl, ih]
theorem iu_get {lo : Int} {n j : Nat} {d : PyData} (h : (intsUp lo n)[j]? = some d) : d = .int (lo + j) ∧ j < n := by
  unfold intsUp at h
  rw [List.getElem?_map] at h
  obtain ⟨a, e1, e2⟩ := Option.map_eq_some_iff.mp h
  obtain ⟨h1, h2⟩ := List.getElem?_eq_some_iff.mp e1
  simp at h2
  subst h2
  exact ⟨e2.symm, by simpa using h1⟩
theorem intsUp_len (lo : Int) (n : Nat) : (intsUp lo n).length = n := by simp [intsUp]
/-! sizes -/
theorem sm_of {x : Int} (h : x.natAbs < 2 ^ 4000) : Sm x = true := by
  rw [Sm_eq]
  refine decide_eq_true ?_
  rcases Nat.eq_zero_or_pos x.natAbs with z | z
  · rw [z]; decide
  · have := (Nat.log2_lt (Nat.pos_iff_ne_zero.mp z)).mpr h
    omega
theorem inl {i : Int} (h0 : 0 ≤ i) (h : i < 1000000) : inLine i = true := by
  rw [inLine_eq]
  simp
  omega
theorem defF_v {N np : Nat} {body : MS} {ss : List Sl} {μ μ1 : Mem} {d : PyData} (hl : ss.length = np) (h : body (ss.map some ++ List.replicate (N - ss.length) none) μ = .rt (.v d) μ1) (ht : μ1.take μ.length = μ) : defF N np body ss μ = .ok (.v d) μ := by
  unfold defF
  rw [if_pos hl, h]
  simp only [ht]
theorem seq_nx {a b : MS} {ρ ρ1 : Ro} {μ μ1 : Mem} {o : Out} (h : a ρ μ = .nx ρ1 μ1) (h2 : b ρ1 μ1 = o) : sSeq a b ρ μ = o := by
  unfold sSeq
  rw [h]
  exact h2
theorem seq_rt {a b : MS} {ρ : Ro} {μ μ1 : Mem} {s : Sl} (h : a ρ μ = .rt s μ1) : sSeq a b ρ μ = .rt s μ1 := by
  unfold sSeq
  rw [h]
theorem asg_n {a : ME} {i : Nat} {ρ : Ro} {μ μ1 : Mem} {s : Sl} (h : a ρ μ = .ok s μ1) : sAsg a (.n i) ρ μ = .nx (ρ.set i (some s)) μ1 := by
  unfold sAsg
  rw [h]
  rfl
theorem drop_nx {a : ME} {ρ : Ro} {μ μ1 : Mem} {s : Sl} (h : a ρ μ = .ok s μ1) : sDrop a ρ μ = .nx ρ μ1 := by
  unfold sDrop
  rw [h]
  rfl
theorem ret_v {a : ME} {ρ : Ro} {μ μ1 : Mem} {s : Sl} (h : a ρ μ = .ok s μ1) : sRet a ρ μ = .rt s μ1 := by
  unfold sRet
  rw [h]
  rfl

theorem mIR1_at {a : MA} {k : Nat} {ρ : Ro} {μ : Mem} (h : a ρ μ = .ok [.v (.int (k : Int))] μ) (hk : inLine (k : Int) = true) : mIR1 a ρ μ = .ok (intsUp 0 k, []) μ := by
  unfold mIR1
  simp only [h, Res.bind_ok, if_pos hk, Int.toNat_natCast]
theorem mIR2_at {a : MA} {ρ : Ro} {μ : Mem} {lo hi : Int} {k : Nat} (h : a ρ μ = .ok [.v (.int lo), .v (.int hi)] μ) (h1 : inLine lo = true) (h2 : inLine hi = true) (hk : (hi - lo).toNat = k) : mIR2 a ρ μ = .ok (intsUp lo k, []) μ := by
  unfold mIR2
  simp only [h, Res.bind_ok, h1, h2, Bool.and_self, if_true, hk]
theorem for_1 {a : MA} {i k : Nat} {body : MS} {ρ : Ro} {μ : Mem} {o : Out} (h : a ρ μ = .ok [.v (.int (k : Int))] μ) (hk : inLine (k : Int) = true) (h2 : forGo (.n i) body [] (intsUp 0 k) ρ μ = o) : sFor (mIR1 a) (.n i) body ρ μ = o := by
  unfold sFor
  simp only [mIR1_at h hk, Res.out_ok]
  exact h2
theorem for_2 {a : MA} {i k : Nat} {lo : Int} {body : MS} {ρ : Ro} {μ : Mem} {o : Out} {hi : Int} (h : a ρ μ = .ok [.v (.int lo), .v (.int hi)] μ) (h1 : inLine lo = true) (h2 : inLine hi = true) (hk : (hi - lo).toNat = k) (h4 : forGo (.n i) body [] (intsUp lo k) ρ μ = o) : sFor (mIR2 a) (.n i) body ρ μ = o := by
  unfold sFor
  simp only [mIR2_at h h1 h2 hk, Res.out_ok]
  exact h4
end Ly
set_option Elab.async false
set_option maxRecDepth 100000
set_option maxHeartbeats 4000000
/-! printed by lyprint.py from the linked text: what each def evaluates to (sem_f), that it does (ok_f) -/
namespace Lw
open PySem PySem.Spec PyProof.Rows L2 Ly
def top (i : Nat) : Stmt := PySem.Challenge.pw_anydraws_k27_whole_best_and_fewest_place.main.body.getD i (.Pass ⟨0, 0, 0, 0⟩)
abbrev s__law_ratio : Stmt := top 30
theorem sc__law_ratio : FnScope ["n", "m", "a", "b"] ["n", "m"] (defScope s__law_ratio) := ⟨rfl, rfl, rfl, by decide +kernel, rfl, by decide +kernel, by decide +kernel⟩
abbrev s__law_draw : Stmt := top 29
theorem sc__law_draw : FnScope ["source", "many", "digit"] ["source", "many"] (defScope s__law_draw) := ⟨rfl, rfl, rfl, by decide +kernel, rfl, by decide +kernel, by decide +kernel⟩
abbrev s__law_power : Stmt := top 31
theorem sc__law_power : FnScope ["x", "k", "found", "turn"] ["x", "k"] (defScope s__law_power) := ⟨rfl, rfl, rfl, by decide +kernel, rfl, by decide +kernel, by decide +kernel⟩
abbrev s__law_choose : Stmt := top 32
theorem sc__law_choose : FnScope ["n", "k", "found", "turn"] ["n", "k"] (defScope s__law_choose) := ⟨rfl, rfl, rfl, by decide +kernel, rfl, by decide +kernel, by decide +kernel⟩
abbrev s__law_between : Stmt := top 34
theorem sc__law_between : FnScope ["n", "q", "i", "j", "found", "k"] ["n", "q", "i", "j"] (defScope s__law_between) := ⟨rfl, rfl, rfl, by decide +kernel, rfl, by decide +kernel, by decide +kernel⟩
abbrev s__law_wish : Stmt := top 35
theorem sc__law_wish : FnScope ["source", "n", "q", "way", "m", "i"] ["source", "n", "q"] (defScope s__law_wish) := ⟨rfl, rfl, rfl, by decide +kernel, rfl, by decide +kernel, by decide +kernel⟩
abbrev s__law_inner : Stmt := top 33
theorem sc__law_inner : FnScope ["source", "m"] ["source"] (defScope s__law_inner) := ⟨rfl, rfl, rfl, by decide +kernel, rfl, by decide +kernel, by decide +kernel⟩
abbrev s_is_whole : Stmt := top 8
theorem sc_is_whole : FnScope ["value"] ["value"] (defScope s_is_whole) := ⟨rfl, rfl, rfl, by decide +kernel, rfl, by decide +kernel, by decide +kernel⟩
abbrev s_check_number_within : Stmt := top 13
theorem sc_check_number_within : FnScope ["value", "least", "most"] ["value", "least", "most"] (defScope s_check_number_within) := ⟨rfl, rfl, rfl, by decide +kernel, rfl, by decide +kernel, by decide +kernel⟩
abbrev s_check_number : Stmt := top 12
theorem sc_check_number : FnScope ["value", "most"] ["value", "most"] (defScope s_check_number) := ⟨rfl, rfl, rfl, by decide +kernel, rfl, by decide +kernel, by decide +kernel⟩
abbrev s_is_tuple : Stmt := top 7
theorem sc_is_tuple : FnScope ["value"] ["value"] (defScope s_is_tuple) := ⟨rfl, rfl, rfl, by decide +kernel, rfl, by decide +kernel, by decide +kernel⟩
abbrev s_is_fraction : Stmt := top 9
theorem sc_is_fraction : FnScope ["value", "n", "m"] ["value"] (defScope s_is_fraction) := ⟨rfl, rfl, rfl, by decide +kernel, rfl, by decide +kernel, by decide +kernel⟩
abbrev s_is_inner_share : Stmt := top 11
theorem sc_is_inner_share : FnScope ["value"] ["value"] (defScope s_is_inner_share) := ⟨rfl, rfl, rfl, by decide +kernel, rfl, by decide +kernel, by decide +kernel⟩
abbrev s_check_inner_share : Stmt := top 14
theorem sc_check_inner_share : FnScope ["value"] ["value"] (defScope s_check_inner_share) := ⟨rfl, rfl, rfl, by decide +kernel, rfl, by decide +kernel, by decide +kernel⟩
abbrev s_is_share : Stmt := top 10
theorem sc_is_share : FnScope ["value"] ["value"] (defScope s_is_share) := ⟨rfl, rfl, rfl, by decide +kernel, rfl, by decide +kernel, by decide +kernel⟩
abbrev s_check_wish : Stmt := top 15
theorem sc_check_wish : FnScope ["value"] ["value"] (defScope s_check_wish) := ⟨rfl, rfl, rfl, by decide +kernel, rfl, by decide +kernel, by decide +kernel⟩
abbrev s_powers : Stmt := top 19
theorem sc_powers : FnScope ["base", "most", "worths", "_"] ["base", "most"] (defScope s_powers) := ⟨rfl, rfl, rfl, by decide +kernel, rfl, by decide +kernel, by decide +kernel⟩
abbrev s_hit_ways : Stmt := top 21
theorem sc_hit_ways : FnScope ["count", "share", "hits", "misses", "k"] ["count", "share"] (defScope s_hit_ways) := ⟨rfl, rfl, rfl, by decide +kernel, rfl, by decide +kernel, by decide +kernel⟩
abbrev s_power : Stmt := top 18
theorem sc_power : FnScope ["base", "exponent", "worth", "_"] ["base", "exponent"] (defScope s_power) := ⟨rfl, rfl, rfl, by decide +kernel, rfl, by decide +kernel, by decide +kernel⟩
abbrev s_surest_start : Stmt := top 25
theorem sc_surest_start : FnScope ["ways", "length", "sums", "surest", "i"] ["ways", "length"] (defScope s_surest_start) := ⟨rfl, rfl, rfl, by decide +kernel, rfl, by decide +kernel, by decide +kernel⟩
abbrev s_is_below : Stmt := top 17
theorem sc_is_below : FnScope ["a", "b"] ["a", "b"] (defScope s_is_below) := ⟨rfl, rfl, rfl, by decide +kernel, rfl, by decide +kernel, by decide +kernel⟩
abbrev s_best_place : Stmt := top 24
theorem sc_best_place : FnScope ["count", "share", "wish", "ways", "whole", "length", "i", "surest"] ["count", "share", "wish"] (defScope s_best_place) := ⟨rfl, rfl, rfl, by decide +kernel, rfl, by decide +kernel, by decide +kernel⟩
abbrev s_fewest_for_place : Stmt := top 26
theorem sc_fewest_for_place : FnScope ["share", "wish", "count", "inner"] ["share", "wish"] (defScope s_fewest_for_place) := ⟨rfl, rfl, rfl, by decide +kernel, rfl, by decide +kernel, by decide +kernel⟩
abbrev s__law_best : Stmt := top 36
theorem sc__law_best : FnScope ["n", "q", "wish", "by", "size", "found", "best", "i"] ["n", "q", "wish"] (defScope s__law_best) := ⟨rfl, rfl, rfl, by decide +kernel, rfl, by decide +kernel, by decide +kernel⟩
abbrev s__law_fewest : Stmt := top 37
theorem sc__law_fewest : FnScope ["q", "wish", "n", "by"] ["q", "wish"] (defScope s__law_fewest) := ⟨rfl, rfl, rfl, by decide +kernel, rfl, by decide +kernel, by decide +kernel⟩
abbrev s__law_right : Stmt := top 38
theorem sc__law_right : FnScope ["source", "wish", "n", "q", "told"] ["source"] (defScope s__law_right) := ⟨rfl, rfl, rfl, by decide +kernel, rfl, by decide +kernel, by decide +kernel⟩
abbrev s__law_source : Stmt := top 28
theorem sc__law_source : FnScope ["script", "turn", "cell", "stir", "each"] ["script", "turn"] (defScope s__law_source) := ⟨rfl, rfl, rfl, by decide +kernel, rfl, by decide +kernel, by decide +kernel⟩
abbrev s_law : Stmt := top 39
theorem sc_law : FnScope ["script", "turn"] ["script"] (defScope s_law) := ⟨rfl, rfl, rfl, by decide +kernel, rfl, by decide +kernel, by decide +kernel⟩
structure Fx (K : PySem.W.Frag) (mg : Str → Option Value) where
  fd__law_ratio : FuncData
  F__law_ratio : FunD K "_law_ratio" "_law_ratio" (defArgs s__law_ratio) (defBody s__law_ratio) (defScope s__law_ratio) [] [] (He.ga K "_law_ratio") fd__law_ratio
  g__law_ratio : mg "_law_ratio" = some (.ref (He.ga K "_law_ratio"))
  fd__law_draw : FuncData
  F__law_draw : FunD K "_law_draw" "_law_draw" (defArgs s__law_draw) (defBody s__law_draw) (defScope s__law_draw) [] [] (He.ga K "_law_draw") fd__law_draw
  g__law_draw : mg "_law_draw" = some (.ref (He.ga K "_law_draw"))
  fd__law_power : FuncData
  F__law_power : FunD K "_law_power" "_law_power" (defArgs s__law_power) (defBody s__law_power) (defScope s__law_power) [] [] (He.ga K "_law_power") fd__law_power
  g__law_power : mg "_law_power" = some (.ref (He.ga K "_law_power"))
  fd__law_choose : FuncData
  F__law_choose : FunD K "_law_choose" "_law_choose" (defArgs s__law_choose) (defBody s__law_choose) (defScope s__law_choose) [] [] (He.ga K "_law_choose") fd__law_choose
  g__law_choose : mg "_law_choose" = some (.ref (He.ga K "_law_choose"))
  fd__law_between : FuncData
  F__law_between : FunD K "_law_between" "_law_between" (defArgs s__law_between) (defBody s__law_between) (defScope s__law_between) [] [] (He.ga K "_law_between") fd__law_between
  g__law_between : mg "_law_between" = some (.ref (He.ga K "_law_between"))
  fd__law_wish : FuncData
  F__law_wish : FunD K "_law_wish" "_law_wish" (defArgs s__law_wish) (defBody s__law_wish) (defScope s__law_wish) [] [] (He.ga K "_law_wish") fd__law_wish
  g__law_wish : mg "_law_wish" = some (.ref (He.ga K "_law_wish"))
  fd__law_inner : FuncData
  F__law_inner : FunD K "_law_inner" "_law_inner" (defArgs s__law_inner) (defBody s__law_inner) (defScope s__law_inner) [] [] (He.ga K "_law_inner") fd__law_inner
  g__law_inner : mg "_law_inner" = some (.ref (He.ga K "_law_inner"))
  fd_is_whole : FuncData
  F_is_whole : FunD K "is_whole" "is_whole" (defArgs s_is_whole) (defBody s_is_whole) (defScope s_is_whole) [] [] (He.ga K "is_whole") fd_is_whole
  g_is_whole : mg "is_whole" = some (.ref (He.ga K "is_whole"))
  fd_check_number_within : FuncData
  F_check_number_within : FunD K "check_number_within" "check_number_within" (defArgs s_check_number_within) (defBody s_check_number_within) (defScope s_check_number_within) [] [] (He.ga K "check_number_within") fd_check_number_within
  g_check_number_within : mg "check_number_within" = some (.ref (He.ga K "check_number_within"))
  fd_check_number : FuncData
  F_check_number : FunD K "check_number" "check_number" (defArgs s_check_number) (defBody s_check_number) (defScope s_check_number) [] [] (He.ga K "check_number") fd_check_number
  g_check_number : mg "check_number" = some (.ref (He.ga K "check_number"))
  fd_is_tuple : FuncData
  F_is_tuple : FunD K "is_tuple" "is_tuple" (defArgs s_is_tuple) (defBody s_is_tuple) (defScope s_is_tuple) [] [] (He.ga K "is_tuple") fd_is_tuple
  g_is_tuple : mg "is_tuple" = some (.ref (He.ga K "is_tuple"))
  fd_is_fraction : FuncData
  F_is_fraction : FunD K "is_fraction" "is_fraction" (defArgs s_is_fraction) (defBody s_is_fraction) (defScope s_is_fraction) [] [] (He.ga K "is_fraction") fd_is_fraction
  g_is_fraction : mg "is_fraction" = some (.ref (He.ga K "is_fraction"))
  fd_is_inner_share : FuncData
  F_is_inner_share : FunD K "is_inner_share" "is_inner_share" (defArgs s_is_inner_share) (defBody s_is_inner_share) (defScope s_is_inner_share) [] [] (He.ga K "is_inner_share") fd_is_inner_share
  g_is_inner_share : mg "is_inner_share" = some (.ref (He.ga K "is_inner_share"))
  fd_check_inner_share : FuncData
  F_check_inner_share : FunD K "check_inner_share" "check_inner_share" (defArgs s_check_inner_share) (defBody s_check_inner_share) (defScope s_check_inner_share) [] [] (He.ga K "check_inner_share") fd_check_inner_share
  g_check_inner_share : mg "check_inner_share" = some (.ref (He.ga K "check_inner_share"))
  fd_is_share : FuncData
  F_is_share : FunD K "is_share" "is_share" (defArgs s_is_share) (defBody s_is_share) (defScope s_is_share) [] [] (He.ga K "is_share") fd_is_share
  g_is_share : mg "is_share" = some (.ref (He.ga K "is_share"))
  fd_check_wish : FuncData
  F_check_wish : FunD K "check_wish" "check_wish" (defArgs s_check_wish) (defBody s_check_wish) (defScope s_check_wish) [] [] (He.ga K "check_wish") fd_check_wish
  g_check_wish : mg "check_wish" = some (.ref (He.ga K "check_wish"))
  fd_powers : FuncData
  F_powers : FunD K "powers" "powers" (defArgs s_powers) (defBody s_powers) (defScope s_powers) [] [] (He.ga K "powers") fd_powers
  g_powers : mg "powers" = some (.ref (He.ga K "powers"))
  fd_hit_ways : FuncData
  F_hit_ways : FunD K "hit_ways" "hit_ways" (defArgs s_hit_ways) (defBody s_hit_ways) (defScope s_hit_ways) [] [] (He.ga K "hit_ways") fd_hit_ways
  g_hit_ways : mg "hit_ways" = some (.ref (He.ga K "hit_ways"))
  fd_power : FuncData
  F_power : FunD K "power" "power" (defArgs s_power) (defBody s_power) (defScope s_power) [] [] (He.ga K "power") fd_power
  g_power : mg "power" = some (.ref (He.ga K "power"))
  fd_surest_start : FuncData
  F_surest_start : FunD K "surest_start" "surest_start" (defArgs s_surest_start) (defBody s_surest_start) (defScope s_surest_start) [] [] (He.ga K "surest_start") fd_surest_start
  g_surest_start : mg "surest_start" = some (.ref (He.ga K "surest_start"))
  fd_is_below : FuncData
  F_is_below : FunD K "is_below" "is_below" (defArgs s_is_below) (defBody s_is_below) (defScope s_is_below) [] [] (He.ga K "is_below") fd_is_below
  g_is_below : mg "is_below" = some (.ref (He.ga K "is_below"))
  fd_best_place : FuncData
  F_best_place : FunD K "best_place" "best_place" (defArgs s_best_place) (defBody s_best_place) (defScope s_best_place) [] [] (He.ga K "best_place") fd_best_place
  g_best_place : mg "best_place" = some (.ref (He.ga K "best_place"))
  fd_fewest_for_place : FuncData
  F_fewest_for_place : FunD K "fewest_for_place" "fewest_for_place" (defArgs s_fewest_for_place) (defBody s_fewest_for_place) (defScope s_fewest_for_place) [] [] (He.ga K "fewest_for_place") fd_fewest_for_place
  g_fewest_for_place : mg "fewest_for_place" = some (.ref (He.ga K "fewest_for_place"))
  fd__law_best : FuncData
  F__law_best : FunD K "_law_best" "_law_best" (defArgs s__law_best) (defBody s__law_best) (defScope s__law_best) [] [] (He.ga K "_law_best") fd__law_best
  g__law_best : mg "_law_best" = some (.ref (He.ga K "_law_best"))
  fd__law_fewest : FuncData
  F__law_fewest : FunD K "_law_fewest" "_law_fewest" (defArgs s__law_fewest) (defBody s__law_fewest) (defScope s__law_fewest) [] [] (He.ga K "_law_fewest") fd__law_fewest
  g__law_fewest : mg "_law_fewest" = some (.ref (He.ga K "_law_fewest"))
  fd__law_right : FuncData
  F__law_right : FunD K "_law_right" "_law_right" (defArgs s__law_right) (defBody s__law_right) (defScope s__law_right) [] [] (He.ga K "_law_right") fd__law_right
  g__law_right : mg "_law_right" = some (.ref (He.ga K "_law_right"))
  fd__law_source : FuncData
  F__law_source : FunD K "_law_source" "_law_source" (defArgs s__law_source) (defBody s__law_source) (defScope s__law_source) [] [] (He.ga K "_law_source") fd__law_source
  g__law_source : mg "_law_source" = some (.ref (He.ga K "_law_source"))
  fd_law : FuncData
  F_law : FunD K "law" "law" (defArgs s_law) (defBody s_law) (defScope s_law) [] [] (He.ga K "law") fd_law
  g_law : mg "law" = some (.ref (He.ga K "law"))
  n_abs : mg "abs" = none
  n_all : mg "all" = none
  n_divmod : mg "divmod" = none
  n_int : mg "int" = none
  n_len : mg "len" = none
  n_max : mg "max" = none
  n_min : mg "min" = none
  n_range : mg "range" = none
  n_repr : mg "repr" = none
  n_sum : mg "sum" = none
  n_tuple : mg "tuple" = none
  n_type : mg "type" = none
  m_comb : mg "comb" = some (.builtin "math.comb")
  m_gcd : mg "gcd" = some (.builtin "math.gcd")
  k__MOST_DRAWS : ∃ t, mg "_MOST_DRAWS" = some (.int 40 t)
section
variable {P : Program} {w : World} {K : PySem.W.Frag} {mg : Str → Option Value} {base : Heap}
theorem b__law_ratio (C : Fx K mg) : Binds K C.fd__law_ratio ["n", "m"] [] := C.F__law_ratio.bindsN fun _ _ _ _ _ _ us hl => match us, hl with | [_, _], _ => rfl
theorem b__law_draw (C : Fx K mg) : Binds K C.fd__law_draw ["source", "many"] [] := C.F__law_draw.bindsN fun _ _ _ _ _ _ us hl => match us, hl with | [_, _], _ => rfl
theorem b__law_power (C : Fx K mg) : Binds K C.fd__law_power ["x", "k"] [] := C.F__law_power.bindsN fun _ _ _ _ _ _ us hl => match us, hl with | [_, _], _ => rfl
theorem b__law_choose (C : Fx K mg) : Binds K C.fd__law_choose ["n", "k"] [] := C.F__law_choose.bindsN fun _ _ _ _ _ _ us hl => match us, hl with | [_, _], _ => rfl
theorem b__law_between (C : Fx K mg) : Binds K C.fd__law_between ["n", "q", "i", "j"] [] := C.F__law_between.bindsN fun _ _ _ _ _ _ us hl => match us, hl with | [_, _, _, _], _ => rfl
theorem b__law_wish (C : Fx K mg) : Binds K C.fd__law_wish ["source", "n", "q"] [] := C.F__law_wish.bindsN fun _ _ _ _ _ _ us hl => match us, hl with | [_, _, _], _ => rfl
theorem b__law_inner (C : Fx K mg) : Binds K C.fd__law_inner ["source"] [] := C.F__law_inner.bindsN fun _ _ _ _ _ _ us hl => match us, hl with | [_], _ => rfl
theorem b_is_whole (C : Fx K mg) : Binds K C.fd_is_whole ["value"] [] := C.F_is_whole.bindsN fun _ _ _ _ _ _ us hl => match us, hl with | [_], _ => rfl
theorem b_check_number_within (C : Fx K mg) : Binds K C.fd_check_number_within ["value", "least", "most"] [] := C.F_check_number_within.bindsN fun _ _ _ _ _ _ us hl => match us, hl with | [_, _, _], _ => rfl
theorem b_check_number (C : Fx K mg) : Binds K C.fd_check_number ["value", "most"] [] := C.F_check_number.bindsN fun _ _ _ _ _ _ us hl => match us, hl with | [_, _], _ => rfl
theorem b_is_tuple (C : Fx K mg) : Binds K C.fd_is_tuple ["value"] [] := C.F_is_tuple.bindsN fun _ _ _ _ _ _ us hl => match us, hl with | [_], _ => rfl
theorem b_is_fraction (C : Fx K mg) : Binds K C.fd_is_fraction ["value"] [] := C.F_is_fraction.bindsN fun _ _ _ _ _ _ us hl => match us, hl with | [_], _ => rfl
theorem b_is_inner_share (C : Fx K mg) : Binds K C.fd_is_inner_share ["value"] [] := C.F_is_inner_share.bindsN fun _ _ _ _ _ _ us hl => match us, hl with | [_], _ => rfl
theorem b_check_inner_share (C : Fx K mg) : Binds K C.fd_check_inner_share ["value"] [] := C.F_check_inner_share.bindsN fun _ _ _ _ _ _ us hl => match us, hl with | [_], _ => rfl
theorem b_is_share (C : Fx K mg) : Binds K C.fd_is_share ["value"] [] := C.F_is_share.bindsN fun _ _ _ _ _ _ us hl => match us, hl with | [_], _ => rfl
theorem b_check_wish (C : Fx K mg) : Binds K C.fd_check_wish ["value"] [] := C.F_check_wish.bindsN fun _ _ _ _ _ _ us hl => match us, hl with | [_], _ => rfl
theorem b_powers (C : Fx K mg) : Binds K C.fd_powers ["base", "most"] [] := C.F_powers.bindsN fun _ _ _ _ _ _ us hl => match us, hl with | [_, _], _ => rfl
theorem b_hit_ways (C : Fx K mg) : Binds K C.fd_hit_ways ["count", "share"] [] := C.F_hit_ways.bindsN fun _ _ _ _ _ _ us hl => match us, hl with | [_, _], _ => rfl
theorem b_power (C : Fx K mg) : Binds K C.fd_power ["base", "exponent"] [] := C.F_power.bindsN fun _ _ _ _ _ _ us hl => match us, hl with | [_, _], _ => rfl
theorem b_surest_start (C : Fx K mg) : Binds K C.fd_surest_start ["ways", "length"] [] := C.F_surest_start.bindsN fun _ _ _ _ _ _ us hl => match us, hl with | [_, _], _ => rfl
theorem b_is_below (C : Fx K mg) : Binds K C.fd_is_below ["a", "b"] [] := C.F_is_below.bindsN fun _ _ _ _ _ _ us hl => match us, hl with | [_, _], _ => rfl
theorem b_best_place (C : Fx K mg) : Binds K C.fd_best_place ["count", "share", "wish"] [] := C.F_best_place.bindsN fun _ _ _ _ _ _ us hl => match us, hl with | [_, _, _], _ => rfl
theorem b_fewest_for_place (C : Fx K mg) : Binds K C.fd_fewest_for_place ["share", "wish"] [] := C.F_fewest_for_place.bindsN fun _ _ _ _ _ _ us hl => match us, hl with | [_, _], _ => rfl
theorem b__law_best (C : Fx K mg) : Binds K C.fd__law_best ["n", "q", "wish"] [] := C.F__law_best.bindsN fun _ _ _ _ _ _ us hl => match us, hl with | [_, _, _], _ => rfl
theorem b__law_fewest (C : Fx K mg) : Binds K C.fd__law_fewest ["q", "wish"] [] := C.F__law_fewest.bindsN fun _ _ _ _ _ _ us hl => match us, hl with | [_, _], _ => rfl
theorem b__law_right (C : Fx K mg) : Binds K C.fd__law_right ["source"] [] := C.F__law_right.bindsN fun _ _ _ _ _ _ us hl => match us, hl with | [_], _ => rfl
theorem b__law_source (C : Fx K mg) : Binds K C.fd__law_source ["script", "turn"] [] := C.F__law_source.bindsN fun _ _ _ _ _ _ us hl => match us, hl with | [_, _], _ => rfl
theorem b_law (C : Fx K mg) : Binds K C.fd_law ["script"] [] := C.F_law.bindsN fun _ _ _ _ _ _ us hl => match us, hl with | [_], _ => rfl
theorem kb_fewest_for_place_0_wish_share (C : Fx K mg) : KPick K C.fd_fewest_for_place ["share", "wish"] ["wish", "share"] 0 [1, 0] := by
  intro s us ws _ hu hw
  obtain ⟨oc, od, dV, kV, doc, pm, an, cdv, ct, osl, e, lk, hcd, hD, hK⟩ := C.F_fewest_for_place.ex
  rw [e]
  rcases hD with ⟨_, rfl⟩ | ⟨z, _⟩
  · exact .of_eq (match us, hu, ws, hw with | [], _, [_, _], _ => rfl)
  · exact absurd rfl z
theorem kb_best_place_0_wish_share_count (C : Fx K mg) : KPick K C.fd_best_place ["count", "share", "wish"] ["wish", "share", "count"] 0 [2, 1, 0] := by
  intro s us ws _ hu hw
  obtain ⟨oc, od, dV, kV, doc, pm, an, cdv, ct, osl, e, lk, hcd, hD, hK⟩ := C.F_best_place.ex
  rw [e]
  rcases hD with ⟨_, rfl⟩ | ⟨z, _⟩
  · exact .of_eq (match us, hu, ws, hw with | [], _, [_, _, _], _ => rfl)
  · exact absurd rfl z
noncomputable def sem__law_ratio : Sem1 := defF 4 2
  (sSeq (sPar 2 3 (mCons (mCB fAbs (mCons (mVar 0) mNil)) (mCons (mCB fAbs (mCons (mVar 1) mNil)) mNil)))
  (sSeq (sWhile (mTB (mOp (oCmp fun i j => decide (j < i)) (mVar 3) (mC (.int 0)))) (sPar 2 3 (mCons (mVar 3) (mCons (mOp oMod (mCB fInt (mCons (mVar 2) mNil)) (mVar 3)) mNil))))
  (sSeq (sAsg (mIf (mTB (mOp (oCmp fun i j => decide (j < i)) (mVar 1) (mC (.int 0)))) (mVar 2) (mOp oSub (mC (.int 0)) (mVar 2))) (.n 2))
  (sRet (mTup (mCons (mOp oFdiv (mVar 0) (mVar 2)) (mCons (mOp oFdiv (mVar 1) (mVar 2)) mNil)))))))
theorem ok__law_ratio (C : Fx K mg) : FnG P w K mg base 1 (He.ga K "_law_ratio") C.fd__law_ratio ["n", "m"] sem__law_ratio := by
  refine fnG_of (k := 0) C.F__law_ratio sc__law_ratio rfl (fun cdv A outer s H hr hgd => ?_)
  refine ⟨_, (pss_cons (ps_par (i := 2) (j := 3) (by rfl) sc__law_ratio.nd rfl rfl (by decide) rfl rfl (pa_cons (pe_callB call_abs (by rfl) C.n_abs (by decide +kernel) (pa_cons (pv 0) pa_nil)) (pa_cons (pe_callB call_abs (by rfl) C.n_abs (by decide +kernel) (pa_cons (pv 1) pa_nil)) pa_nil)) (by rfl))
    (pss_cons (ps_while PassesOwn.never (pt_cmpR op_gt (pv 3) pe_int (nomark _)) (pss_one (ps_par (i := 2) (j := 3) (by rfl) sc__law_ratio.nd rfl rfl (by decide) rfl rfl (pa_cons (pv 3) (pa_cons (pe_op op_mod (pe_callTy call_int1 (by rfl) C.n_int (by decide +kernel) (pa_cons (pv 2) pa_nil)) (pv 3)) pa_nil)) (by rfl))))
    (pss_cons (ps_set (i := 2) sc__law_ratio.nd rfl (.inl rfl) (pe_ifExp (pt_cmpR op_gt (pv 1) pe_int (nomark _)) (pv 2) (pe_op op_sub pe_int (pv 2))))
    (pss_one (ps_ret (pe_tup (pa_cons (pe_op op_fdivW (pv 0) (pv 2)) (pa_cons (pe_op op_fdivW (pv 1) (pv 2)) pa_nil)))))))), ?_⟩
  exact (rs_seq (rs_par (rd_cons (rd_cb rc_abs (rd_cons rd_var rd_nil)) (rd_cons (rd_cb rc_abs (rd_cons rd_var rd_nil)) rd_nil)))
    (rs_seq (rs_while (rt_test (rd_op rdo_cmp rd_var (rd_c fun _ => .int _))) (rs_par (rd_cons rd_var (rd_cons (rd_op rdo_mod (rd_cb rc_int (rd_cons rd_var rd_nil)) rd_var) rd_nil))))
    (rs_seq (rs_asg (t := .n 2) (rd_if (rt_test (rd_op rdo_cmp rd_var (rd_c fun _ => .int _))) rd_var (rd_op rdo_sub (rd_c fun _ => .int _) rd_var)))
    (rs_ret (rd_tup (rd_cons (rd_op rdo_fdiv rd_var rd_var) (rd_cons (rd_op rdo_fdiv rd_var rd_var) rd_nil)))))))
noncomputable def sem__law_draw : Sem1 := defF 3 2
  (sSeq (sIf (mTB (mOp (oCmp fun i j => decide (j < i)) (mOp oIx (mVar 0) (mC (.int 0))) (mC (.int 0)))) (sSeq (sAsgG (mCB fDivmod (mCons (mOp oIx (mVar 0) (mC (.int 0))) (mCons (mVar 1) mNil))) (gT 2 (gC (gS (mVar 0) (mC (.int 0))) (gC (gN 2) gE))))
  (sRet (mVar 2))) sNext)
  (sSeq (sSet (mOp oAdd (mOp oIx (mVar 0) (mC (.int 2))) (mC (.int 1))) (mVar 0) (mC (.int 2)))
  (sSeq (sSet (mOp oMod (mCB fInt (mCons (mOp oAdd (mOp oAdd (mOp oMul (mOp oIx (mVar 0) (mC (.int 1))) (mOp oAdd (mC (.int 39709)) (mOp oMul (mC (.int 6)) (mOp oIx (mVar 0) (mC (.int 2)))))) (mOp oMul (mC (.int 17497)) (mOp oIx (mVar 0) (mC (.int 2))))) (mC (.int 3))) mNil)) (mC (.int 2147483549))) (mVar 0) (mC (.int 1)))
  (sRet (mOp oMod (mCB fInt (mCons (mOp oFdiv (mOp oIx (mVar 0) (mC (.int 1))) (mC (.int 307))) mNil)) (mVar 1))))))
theorem ok__law_draw (C : Fx K mg) : FnG P w K mg base 1 (He.ga K "_law_draw") C.fd__law_draw ["source", "many"] sem__law_draw := by
  refine fnG_of (k := 0) C.F__law_draw sc__law_draw rfl (fun cdv A outer s H hr hgd => ?_)
  refine ⟨_, (pss_cons (ps_if (pt_cmpR op_gt (pe_ix (ix_bothK (K := K) (by rfl)) (pv 0) pe_int (fun _ _ => rfl)) pe_int (nomark _)) (pss_cons (ps_asg (pe_callB call_divmodW (by rfl) C.n_divmod (by decide +kernel) (pa_cons (pe_ix (ix_bothK (K := K) (by rfl)) (pv 0) pe_int (fun _ _ => rfl)) (pa_cons (pv 1) pa_nil))) (pg_tup (by rfl) (pgs_cons (pg_sub (pv 0) pe_int set_list) (pgs_cons (pg_name (i := 2) sc__law_draw.nd rfl (.inl rfl)) pgs_nil))))
    (pss_one (ps_ret (pv 2)))) pss_nil)
    (pss_cons (ps_asg (pe_op (op_addA' (K := K) (by rfl)) (pe_ix (ix_bothK (K := K) (by rfl)) (pv 0) pe_int (fun _ _ => rfl)) pe_int) (pg_sub (pv 0) pe_int set_list))
    (pss_cons (ps_asg (pe_op op_mod (pe_callTy call_int1 (by rfl) C.n_int (by decide +kernel) (pa_cons (pe_op (op_addA' (K := K) (by rfl)) (pe_op (op_addA' (K := K) (by rfl)) (pe_op (op_mulA' (K := K) (by rfl)) (pe_ix (ix_bothK (K := K) (by rfl)) (pv 0) pe_int (fun _ _ => rfl)) (pe_op (op_addA' (K := K) (by rfl)) pe_int (pe_op (op_mulA' (K := K) (by rfl)) pe_int (pe_ix (ix_bothK (K := K) (by rfl)) (pv 0) pe_int (fun _ _ => rfl))))) (pe_op (op_mulA' (K := K) (by rfl)) pe_int (pe_ix (ix_bothK (K := K) (by rfl)) (pv 0) pe_int (fun _ _ => rfl)))) pe_int) pa_nil)) pe_int) (pg_sub (pv 0) pe_int set_list))
    (pss_one (ps_ret (pe_op op_mod (pe_callTy call_int1 (by rfl) C.n_int (by decide +kernel) (pa_cons (pe_op op_fdivW (pe_ix (ix_bothK (K := K) (by rfl)) (pv 0) pe_int (fun _ _ => rfl)) pe_int) pa_nil)) (pv 1))))))), ?_⟩
  exact (rs_seq (rs_if (rt_test (rd_op rdo_cmp (rd_op rdo_ix rd_var (rd_c fun _ => .int _)) (rd_c fun _ => .int _))) (rs_seq (rs_asgG (rd_cb rc_divmod (rd_cons (rd_op rdo_ix rd_var (rd_c fun _ => .int _)) (rd_cons rd_var rd_nil))) (rg_tup (rg_cons (rg_s rd_var (rd_c fun _ => .int _)) (rg_cons rg_n rg_nil))))
    (rs_ret rd_var)) rs_next)
    (rs_seq (rs_set (rd_op rdo_add (rd_op rdo_ix rd_var (rd_c fun _ => .int _)) (rd_c fun _ => .int _)) rd_var (rd_c fun _ => .int _))
    (rs_seq (rs_set (rd_op rdo_mod (rd_cb rc_int (rd_cons (rd_op rdo_add (rd_op rdo_add (rd_op rdo_mul (rd_op rdo_ix rd_var (rd_c fun _ => .int _)) (rd_op rdo_add (rd_c fun _ => .int _) (rd_op rdo_mul (rd_c fun _ => .int _) (rd_op rdo_ix rd_var (rd_c fun _ => .int _))))) (rd_op rdo_mul (rd_c fun _ => .int _) (rd_op rdo_ix rd_var (rd_c fun _ => .int _)))) (rd_c fun _ => .int _)) rd_nil)) (rd_c fun _ => .int _)) rd_var (rd_c fun _ => .int _))
    (rs_ret (rd_op rdo_mod (rd_cb rc_int (rd_cons (rd_op rdo_fdiv (rd_op rdo_ix rd_var (rd_c fun _ => .int _)) (rd_c fun _ => .int _)) rd_nil)) rd_var)))))
noncomputable def sem__law_power : Sem1 := defF 4 2
  (sSeq (sAsg (mC (.int 1)) (.n 2))
  (sSeq (sFor (mIR1 (mCons (mVar 1) mNil)) (.n 3) (sAsg (mOp oMul (mVar 2) (mVar 0)) (.n 2)))
  (sRet (mVar 2))))
theorem ok__law_power (C : Fx K mg) : FnG P w K mg base 1 (He.ga K "_law_power") C.fd__law_power ["x", "k"] sem__law_power := by
  refine fnG_of (k := 0) C.F__law_power sc__law_power rfl (fun cdv A outer s H hr hgd => ?_)
  refine ⟨_, (pss_cons (ps_set (i := 2) sc__law_power.nd rfl (.inl rfl) pe_int)
    (pss_cons (ps_for PassesOwn.never rfl (pi_range1 (by rfl) C.n_range (pa_cons (pv 1) pa_nil)) (pg_name (i := 3) sc__law_power.nd rfl (by first | exact Or.inl rfl | exact Or.inr rfl)) (pss_one (ps_set (i := 2) sc__law_power.nd rfl (.inl rfl) (pe_op (op_mulA' (K := K) (by rfl)) (pv 2) (pv 0)))))
    (pss_one (ps_ret (pv 2))))), ?_⟩
  exact (rs_seq (rs_asg (t := .n 2) (rd_c fun _ => .int _))
    (rs_seq (rs_for (t := (.n 3)) (ri_range1 (rd_cons rd_var rd_nil)) (rs_asg (t := .n 2) (rd_op rdo_mul rd_var rd_var)))
    (rs_ret rd_var)))
noncomputable def sem__law_choose : Sem1 := defF 4 2
  (sSeq (sAsg (mC (.int 1)) (.n 2))
  (sSeq (sFor (mIR1 (mCons (mVar 1) mNil)) (.n 3) (sAsg (mOp oFdiv (mOp oMul (mVar 2) (mOp oSub (mVar 0) (mVar 3))) (mOp oAdd (mVar 3) (mC (.int 1)))) (.n 2)))
  (sRet (mVar 2))))
theorem ok__law_choose (C : Fx K mg) : FnG P w K mg base 1 (He.ga K "_law_choose") C.fd__law_choose ["n", "k"] sem__law_choose := by
  refine fnG_of (k := 0) C.F__law_choose sc__law_choose rfl (fun cdv A outer s H hr hgd => ?_)
  refine ⟨_, (pss_cons (ps_set (i := 2) sc__law_choose.nd rfl (.inl rfl) pe_int)
    (pss_cons (ps_for PassesOwn.never rfl (pi_range1 (by rfl) C.n_range (pa_cons (pv 1) pa_nil)) (pg_name (i := 3) sc__law_choose.nd rfl (by first | exact Or.inl rfl | exact Or.inr rfl)) (pss_one (ps_set (i := 2) sc__law_choose.nd rfl (.inl rfl) (pe_op op_fdivW (pe_op (op_mulA' (K := K) (by rfl)) (pv 2) (pe_op op_sub (pv 0) (pv 3))) (pe_op (op_addA' (K := K) (by rfl)) (pv 3) pe_int)))))
    (pss_one (ps_ret (pv 2))))), ?_⟩
  exact (rs_seq (rs_asg (t := .n 2) (rd_c fun _ => .int _))
    (rs_seq (rs_for (t := (.n 3)) (ri_range1 (rd_cons rd_var rd_nil)) (rs_asg (t := .n 2) (rd_op rdo_fdiv (rd_op rdo_mul rd_var (rd_op rdo_sub rd_var rd_var)) (rd_op rdo_add rd_var (rd_c fun _ => .int _)))))
    (rs_ret rd_var)))
noncomputable def sem__law_between : Sem1 := defF 6 4
  (sSeq (sAsg (mC (.int 0)) (.n 4))
  (sSeq (sFor (mIR2 (mCons (mVar 2) (mCons (mCB fMin2 (mCons (mVar 3) (mCons (mOp oAdd (mVar 0) (mC (.int 1))) mNil))) mNil))) (.n 5) (sAsg (mOp oAdd (mVar 4) (mOp oMul (mOp oMul (mCall sem__law_choose (mCons (mVar 0) (mCons (mVar 5) mNil))) (mCall sem__law_power (mCons (mOp oIx (mVar 1) (mC (.int 0))) (mCons (mVar 5) mNil)))) (mCall sem__law_power (mCons (mOp oSub (mOp oIx (mVar 1) (mC (.int 1))) (mOp oIx (mVar 1) (mC (.int 0)))) (mCons (mOp oSub (mVar 0) (mVar 5)) mNil))))) (.n 4)))
  (sRet (mVar 4))))
theorem ok__law_between (C : Fx K mg) : FnG P w K mg base 2 (He.ga K "_law_between") C.fd__law_between ["n", "q", "i", "j"] sem__law_between := by
  refine fnG_of (k := 1) C.F__law_between sc__law_between rfl (fun cdv A outer s H hr hgd => ?_)
  refine ⟨_, (pss_cons (ps_set (i := 4) sc__law_between.nd rfl (.inl rfl) pe_int)
    (pss_cons (ps_for PassesOwn.never rfl (pi_range2 (by rfl) C.n_range (pa_cons (pv 2) (pa_cons (pe_callB (call_min2 rfl) (by rfl) C.n_min (by decide +kernel) (pa_cons (pv 3) (pa_cons (pe_op (op_addA' (K := K) (by rfl)) (pv 0) pe_int) pa_nil))) pa_nil))) (pg_name (i := 5) sc__law_between.nd rfl (by first | exact Or.inl rfl | exact Or.inr rfl)) (pss_one (ps_set (i := 4) sc__law_between.nd rfl (.inl rfl) (pe_op (op_addA' (K := K) (by rfl)) (pv 4) (pe_op (op_mulA' (K := K) (by rfl)) (pe_op (op_mulA' (K := K) (by rfl)) (pe_callGK (K := K) (by rfl) (ok__law_choose C) (hr.mono (by decide)) hgd rfl C.g__law_choose C.F__law_choose.kp (b__law_choose C) (pa_cons (pv 0) (pa_cons (pv 5) pa_nil))) (pe_callGK (K := K) (by rfl) (ok__law_power C) (hr.mono (by decide)) hgd rfl C.g__law_power C.F__law_power.kp (b__law_power C) (pa_cons (pe_ix (ix_bothK (K := K) (by rfl)) (pv 1) pe_int (fun _ _ => rfl)) (pa_cons (pv 5) pa_nil)))) (pe_callGK (K := K) (by rfl) (ok__law_power C) (hr.mono (by decide)) hgd rfl C.g__law_power C.F__law_power.kp (b__law_power C) (pa_cons (pe_op op_sub (pe_ix (ix_bothK (K := K) (by rfl)) (pv 1) pe_int (fun _ _ => rfl)) (pe_ix (ix_bothK (K := K) (by rfl)) (pv 1) pe_int (fun _ _ => rfl))) (pa_cons (pe_op op_sub (pv 0) (pv 5)) pa_nil))))))))
    (pss_one (ps_ret (pv 4))))), ?_⟩
  exact (rs_seq (rs_asg (t := .n 4) (rd_c fun _ => .int _))
    (rs_seq (rs_for (t := (.n 5)) (ri_range2 (rd_cons rd_var (rd_cons (rd_cb rc_min2 (rd_cons rd_var (rd_cons (rd_op rdo_add rd_var (rd_c fun _ => .int _)) rd_nil))) rd_nil))) (rs_asg (t := .n 4) (rd_op rdo_add rd_var (rd_op rdo_mul (rd_op rdo_mul (rd_call (rd_cons rd_var (rd_cons rd_var rd_nil))) (rd_call (rd_cons (rd_op rdo_ix rd_var (rd_c fun _ => .int _)) (rd_cons rd_var rd_nil)))) (rd_call (rd_cons (rd_op rdo_sub (rd_op rdo_ix rd_var (rd_c fun _ => .int _)) (rd_op rdo_ix rd_var (rd_c fun _ => .int _))) (rd_cons (rd_op rdo_sub rd_var rd_var) rd_nil)))))))
    (rs_ret rd_var)))
noncomputable def sem__law_wish : Sem1 := defF 6 3
  (sSeq (sPar 3 4 (mCons (mCall sem__law_draw (mCons (mVar 0) (mCons (mC (.int 6)) mNil))) (mCons (mOp oAdd (mC (.int 1)) (mCall sem__law_draw (mCons (mVar 0) (mCons (mC (.int 40)) mNil)))) mNil)))
  (sSeq (sIf (mTB (mOp (oCmp fun i j => decide (i < j)) (mVar 3) (mC (.int 2)))) (sSeq (sAsg (mCall sem__law_draw (mCons (mVar 0) (mCons (mOp oAdd (mVar 1) (mC (.int 1))) mNil))) (.n 5))
  (sRet (mCall sem__law_ratio (mCons (mCall sem__law_between (mCons (mVar 1) (mCons (mVar 2) (mCons (mVar 5) (mCons (mOp oAdd (mOp oAdd (mVar 5) (mC (.int 1))) (mCall sem__law_draw (mCons (mVar 0) (mCons (mOp oSub (mOp oAdd (mVar 1) (mC (.int 1))) (mVar 5)) mNil)))) mNil))))) (mCons (mCall sem__law_power (mCons (mOp oIx (mVar 2) (mC (.int 1))) (mCons (mVar 1) mNil))) mNil))))) sNext)
  (sSeq (sIf (mTB (mOp (oEq false) (mVar 3) (mC (.int 2)))) (sRet (mTup (mCons (mC (.int 1)) (mCons (mC (.int 1)) mNil)))) sNext)
  (sSeq (sIf (mTB (mOp (oEq false) (mVar 3) (mC (.int 3)))) (sRet (mCall sem__law_ratio (mCons (mOp oSub (mCall sem__law_power (mCons (mC (.int 10)) (mCons (mVar 4) mNil))) (mC (.int 1))) (mCons (mCall sem__law_power (mCons (mC (.int 10)) (mCons (mVar 4) mNil))) mNil)))) sNext)
  (sRet (mCall sem__law_ratio (mCons (mOp oAdd (mC (.int 1)) (mCall sem__law_draw (mCons (mVar 0) (mCons (mVar 4) mNil)))) (mCons (mVar 4) mNil))))))))
theorem ok__law_wish (C : Fx K mg) : FnG P w K mg base 3 (He.ga K "_law_wish") C.fd__law_wish ["source", "n", "q"] sem__law_wish := by
  refine fnG_of (k := 2) C.F__law_wish sc__law_wish rfl (fun cdv A outer s H hr hgd => ?_)
  refine ⟨_, (pss_cons (ps_par (i := 3) (j := 4) (by rfl) sc__law_wish.nd rfl rfl (by decide) rfl rfl (pa_cons (pe_callGK (K := K) (by rfl) (ok__law_draw C) (hr.mono (by decide)) hgd rfl C.g__law_draw C.F__law_draw.kp (b__law_draw C) (pa_cons (pv 0) (pa_cons pe_int pa_nil))) (pa_cons (pe_op (op_addA' (K := K) (by rfl)) pe_int (pe_callGK (K := K) (by rfl) (ok__law_draw C) (hr.mono (by decide)) hgd rfl C.g__law_draw C.F__law_draw.kp (b__law_draw C) (pa_cons (pv 0) (pa_cons pe_int pa_nil)))) pa_nil)) (by rfl))
    (pss_cons (ps_if (pt_cmpR op_lt (pv 3) pe_int (nomark _)) (pss_cons (ps_set (i := 5) sc__law_wish.nd rfl (.inl rfl) (pe_callGK (K := K) (by rfl) (ok__law_draw C) (hr.mono (by decide)) hgd rfl C.g__law_draw C.F__law_draw.kp (b__law_draw C) (pa_cons (pv 0) (pa_cons (pe_op (op_addA' (K := K) (by rfl)) (pv 1) pe_int) pa_nil))))
    (pss_one (ps_ret (pe_callGK (K := K) (by rfl) (ok__law_ratio C) (hr.mono (by decide)) hgd rfl C.g__law_ratio C.F__law_ratio.kp (b__law_ratio C) (pa_cons (pe_callGK (K := K) (by rfl) (ok__law_between C) (hr.mono (by decide)) hgd rfl C.g__law_between C.F__law_between.kp (b__law_between C) (pa_cons (pv 1) (pa_cons (pv 2) (pa_cons (pv 5) (pa_cons (pe_op (op_addA' (K := K) (by rfl)) (pe_op (op_addA' (K := K) (by rfl)) (pv 5) pe_int) (pe_callGK (K := K) (by rfl) (ok__law_draw C) (hr.mono (by decide)) hgd rfl C.g__law_draw C.F__law_draw.kp (b__law_draw C) (pa_cons (pv 0) (pa_cons (pe_op op_sub (pe_op (op_addA' (K := K) (by rfl)) (pv 1) pe_int) (pv 5)) pa_nil)))) pa_nil))))) (pa_cons (pe_callGK (K := K) (by rfl) (ok__law_power C) (hr.mono (by decide)) hgd rfl C.g__law_power C.F__law_power.kp (b__law_power C) (pa_cons (pe_ix (ix_bothK (K := K) (by rfl)) (pv 2) pe_int (fun _ _ => rfl)) (pa_cons (pv 1) pa_nil))) pa_nil)))))) pss_nil)
    (pss_cons (ps_if (pt_cmpR (op_eqD' (K := K) (by rfl) hr.units) (pv 3) pe_int (nomark _)) (pss_one (ps_ret (pe_tup (pa_cons pe_int (pa_cons pe_int pa_nil))))) pss_nil)
    (pss_cons (ps_if (pt_cmpR (op_eqD' (K := K) (by rfl) hr.units) (pv 3) pe_int (nomark _)) (pss_one (ps_ret (pe_callGK (K := K) (by rfl) (ok__law_ratio C) (hr.mono (by decide)) hgd rfl C.g__law_ratio C.F__law_ratio.kp (b__law_ratio C) (pa_cons (pe_op op_sub (pe_callGK (K := K) (by rfl) (ok__law_power C) (hr.mono (by decide)) hgd rfl C.g__law_power C.F__law_power.kp (b__law_power C) (pa_cons pe_int (pa_cons (pv 4) pa_nil))) pe_int) (pa_cons (pe_callGK (K := K) (by rfl) (ok__law_power C) (hr.mono (by decide)) hgd rfl C.g__law_power C.F__law_power.kp (b__law_power C) (pa_cons pe_int (pa_cons (pv 4) pa_nil))) pa_nil))))) pss_nil)
    (pss_one (ps_ret (pe_callGK (K := K) (by rfl) (ok__law_ratio C) (hr.mono (by decide)) hgd rfl C.g__law_ratio C.F__law_ratio.kp (b__law_ratio C) (pa_cons (pe_op (op_addA' (K := K) (by rfl)) pe_int (pe_callGK (K := K) (by rfl) (ok__law_draw C) (hr.mono (by decide)) hgd rfl C.g__law_draw C.F__law_draw.kp (b__law_draw C) (pa_cons (pv 0) (pa_cons (pv 4) pa_nil)))) (pa_cons (pv 4) pa_nil))))))))), ?_⟩
  exact (rs_seq (rs_par (rd_cons (rd_call (rd_cons rd_var (rd_cons (rd_c fun _ => .int _) rd_nil))) (rd_cons (rd_op rdo_add (rd_c fun _ => .int _) (rd_call (rd_cons rd_var (rd_cons (rd_c fun _ => .int _) rd_nil)))) rd_nil)))
    (rs_seq (rs_if (rt_test (rd_op rdo_cmp rd_var (rd_c fun _ => .int _))) (rs_seq (rs_asg (t := .n 5) (rd_call (rd_cons rd_var (rd_cons (rd_op rdo_add rd_var (rd_c fun _ => .int _)) rd_nil))))
    (rs_ret (rd_call (rd_cons (rd_call (rd_cons rd_var (rd_cons rd_var (rd_cons rd_var (rd_cons (rd_op rdo_add (rd_op rdo_add rd_var (rd_c fun _ => .int _)) (rd_call (rd_cons rd_var (rd_cons (rd_op rdo_sub (rd_op rdo_add rd_var (rd_c fun _ => .int _)) rd_var) rd_nil)))) rd_nil))))) (rd_cons (rd_call (rd_cons (rd_op rdo_ix rd_var (rd_c fun _ => .int _)) (rd_cons rd_var rd_nil))) rd_nil))))) rs_next)
    (rs_seq (rs_if (rt_test (rd_op rdo_eq rd_var (rd_c fun _ => .int _))) (rs_ret (rd_tup (rd_cons (rd_c fun _ => .int _) (rd_cons (rd_c fun _ => .int _) rd_nil)))) rs_next)
    (rs_seq (rs_if (rt_test (rd_op rdo_eq rd_var (rd_c fun _ => .int _))) (rs_ret (rd_call (rd_cons (rd_op rdo_sub (rd_call (rd_cons (rd_c fun _ => .int _) (rd_cons rd_var rd_nil))) (rd_c fun _ => .int _)) (rd_cons (rd_call (rd_cons (rd_c fun _ => .int _) (rd_cons rd_var rd_nil))) rd_nil)))) rs_next)
    (rs_ret (rd_call (rd_cons (rd_op rdo_add (rd_c fun _ => .int _) (rd_call (rd_cons rd_var (rd_cons rd_var rd_nil)))) (rd_cons rd_var rd_nil))))))))
noncomputable def sem__law_inner : Sem1 := defF 2 1
  (sSeq (sAsg (mOp oIx (mTup (mCons (mC (.int 2)) (mCons (mC (.int 3)) (mCons (mC (.int 7)) (mCons (mC (.int 10)) (mCons (mC (.int 30)) mNil)))))) (mCall sem__law_draw (mCons (mVar 0) (mCons (mC (.int 5)) mNil)))) (.n 1))
  (sRet (mCall sem__law_ratio (mCons (mOp oAdd (mC (.int 1)) (mCall sem__law_draw (mCons (mVar 0) (mCons (mOp oSub (mVar 1) (mC (.int 1))) mNil)))) (mCons (mVar 1) mNil)))))
theorem ok__law_inner (C : Fx K mg) : FnG P w K mg base 2 (He.ga K "_law_inner") C.fd__law_inner ["source"] sem__law_inner := by
  refine fnG_of (k := 1) C.F__law_inner sc__law_inner rfl (fun cdv A outer s H hr hgd => ?_)
  refine ⟨_, (pss_cons (ps_set (i := 1) sc__law_inner.nd rfl (.inl rfl) (pe_ix (ix_bothK (K := K) (by rfl)) (pe_tup (pa_cons pe_int (pa_cons pe_int (pa_cons pe_int (pa_cons pe_int (pa_cons pe_int pa_nil)))))) (pe_callGK (K := K) (by rfl) (ok__law_draw C) (hr.mono (by decide)) hgd rfl C.g__law_draw C.F__law_draw.kp (b__law_draw C) (pa_cons (pv 0) (pa_cons pe_int pa_nil))) (fun _ _ => rfl)))
    (pss_one (ps_ret (pe_callGK (K := K) (by rfl) (ok__law_ratio C) (hr.mono (by decide)) hgd rfl C.g__law_ratio C.F__law_ratio.kp (b__law_ratio C) (pa_cons (pe_op (op_addA' (K := K) (by rfl)) pe_int (pe_callGK (K := K) (by rfl) (ok__law_draw C) (hr.mono (by decide)) hgd rfl C.g__law_draw C.F__law_draw.kp (b__law_draw C) (pa_cons (pv 0) (pa_cons (pe_op op_sub (pv 1) pe_int) pa_nil)))) (pa_cons (pv 1) pa_nil)))))), ?_⟩
  exact (rs_seq (rs_asg (t := .n 1) (rd_op rdo_ix (rd_tup (rd_cons (rd_c fun _ => .int _) (rd_cons (rd_c fun _ => .int _) (rd_cons (rd_c fun _ => .int _) (rd_cons (rd_c fun _ => .int _) (rd_cons (rd_c fun _ => .int _) rd_nil)))))) (rd_call (rd_cons rd_var (rd_cons (rd_c fun _ => .int _) rd_nil)))))
    (rs_ret (rd_call (rd_cons (rd_op rdo_add (rd_c fun _ => .int _) (rd_call (rd_cons rd_var (rd_cons (rd_op rdo_sub rd_var (rd_c fun _ => .int _)) rd_nil)))) (rd_cons rd_var rd_nil)))))
noncomputable def sem_is_whole : Sem1 := defF 1 1
  (sRet (mTyIs "int" (mVar 0)))
theorem ok_is_whole (C : Fx K mg) : FnG P w K mg base 1 (He.ga K "is_whole") C.fd_is_whole ["value"] sem_is_whole := by
  refine fnG_of (k := 0) C.F_is_whole sc_is_whole rfl (fun cdv A outer s H hr hgd => ?_)
  refine ⟨_, (pss_one (ps_ret (pe_cmpR op_isTyB (pe_callTy call_type1 (by rfl) C.n_type (by decide +kernel) (pa_cons (pv 0) pa_nil)) (pe_bltn (v := .ty "int") (by rfl) C.n_int (by decide +kernel) rfl) (nomark _)))), ?_⟩
  exact (rs_ret (rd_tyIs rd_var))
noncomputable def sem_check_number_within : Sem1 := defF 3 3
  (sIf (mOr (mNot (mTB (mCall sem_is_whole (mCons (mVar 0) mNil)))) (mNot (mTB (mChain (oCmp fun i j => decide (i ≤ j)) (oCmp fun i j => decide (i ≤ j)) (mVar 1) (mVar 0) (mVar 2))))) sNever sNext)
theorem ok_check_number_within (C : Fx K mg) : FnG P w K mg base 2 (He.ga K "check_number_within") C.fd_check_number_within ["value", "least", "most"] sem_check_number_within := by
  refine fnG_of (k := 1) C.F_check_number_within sc_check_number_within rfl (fun cdv A outer s H hr hgd => ?_)
  refine ⟨_, (pss_one (ps_if (PW.pt (pw_or (pt_not (pt_val (pe_callGK (K := K) (by rfl) (ok_is_whole C) (hr.mono (by decide)) hgd rfl C.g_is_whole C.F_is_whole.kp (b_is_whole C) (pa_cons (pv 0) pa_nil)))) (pw_or1 (pt_not (pt_chain op_le op_le (pv 1) (pv 0) (pv 2)))))) (pss_one ps_never) pss_nil)), ?_⟩
  exact (rs_if (rt_or (rt_not (rt_B (rd_call (rd_cons rd_var rd_nil)))) (rt_not (rt_test (rd_chain rdo_cmp rdo_cmp rd_var rd_var rd_var)))) rs_never rs_next)
noncomputable def sem_check_number : Sem1 := defF 2 2
  (sDrop (mCall sem_check_number_within (mCons (mVar 0) (mCons (mC (.int 1)) (mCons (mVar 1) mNil)))))
theorem ok_check_number (C : Fx K mg) : FnG P w K mg base 3 (He.ga K "check_number") C.fd_check_number ["value", "most"] sem_check_number := by
  refine fnG_of (k := 2) C.F_check_number sc_check_number rfl (fun cdv A outer s H hr hgd => ?_)
  refine ⟨_, (pss_one (ps_expr (pe_callGK (K := K) (by rfl) (ok_check_number_within C) (hr.mono (by decide)) hgd rfl C.g_check_number_within C.F_check_number_within.kp (b_check_number_within C) (pa_cons (pv 0) (pa_cons pe_int (pa_cons (pv 1) pa_nil)))))), ?_⟩
  exact (rs_drop (rd_call (rd_cons rd_var (rd_cons (rd_c fun _ => .int _) (rd_cons rd_var rd_nil)))))
noncomputable def sem_is_tuple : Sem1 := defF 1 1
  (sRet (mTyIs "tuple" (mVar 0)))
theorem ok_is_tuple (C : Fx K mg) : FnG P w K mg base 1 (He.ga K "is_tuple") C.fd_is_tuple ["value"] sem_is_tuple := by
  refine fnG_of (k := 0) C.F_is_tuple sc_is_tuple rfl (fun cdv A outer s H hr hgd => ?_)
  refine ⟨_, (pss_one (ps_ret (pe_cmpR op_isTyB (pe_callTy call_type1 (by rfl) C.n_type (by decide +kernel) (pa_cons (pv 0) pa_nil)) (pe_bltn (v := .ty "tuple") (by rfl) C.n_tuple (by decide +kernel) rfl) (nomark _)))), ?_⟩
  exact (rs_ret (rd_tyIs rd_var))
noncomputable def sem_is_fraction : Sem1 := defF 3 1
  (sSeq (sIf (mOr (mNot (mTB (mCall sem_is_tuple (mCons (mVar 0) mNil)))) (mTB (mOp (oEq true) (mCB fLen (mCons (mVar 0) mNil)) (mC (.int 2))))) (sRet (mC (.bool false))) sNext)
  (sSeq (sAsgG (mVar 0) (gT 2 (gC (gN 1) (gC (gN 2) gE))))
  (sRet (mAndV (mCall sem_is_whole (mCons (mVar 1) mNil)) (mAndV (mCall sem_is_whole (mCons (mVar 2) mNil)) (mAndV (mOp (oCmp fun i j => decide (j < i)) (mVar 2) (mC (.int 0))) (mOp (oEq false) (mCB fGcd (mCons (mVar 1) (mCons (mVar 2) mNil))) (mC (.int 1)))))))))
theorem ok_is_fraction (C : Fx K mg) : FnG P w K mg base 2 (He.ga K "is_fraction") C.fd_is_fraction ["value"] sem_is_fraction := by
  refine fnG_of (k := 1) C.F_is_fraction sc_is_fraction rfl (fun cdv A outer s H hr hgd => ?_)
  refine ⟨_, (pss_cons (ps_if (PW.pt (pw_or (pt_not (pt_val (pe_callGK (K := K) (by rfl) (ok_is_tuple C) (hr.mono (by decide)) hgd rfl C.g_is_tuple C.F_is_tuple.kp (b_is_tuple C) (pa_cons (pv 0) pa_nil)))) (pw_or1 (pt_cmpR (op_neD' (K := K) (by rfl) hr.units) (pe_callB (call_len' (K := K) (by rfl)) (by rfl) C.n_len PySem.boot_len (pa_cons (pv 0) pa_nil)) pe_int (nomark _))))) (pss_one (ps_ret pe_bl)) pss_nil)
    (pss_cons (ps_asg (pv 0) (pg_tup (by rfl) (pgs_cons (pg_name (i := 1) sc_is_fraction.nd rfl (.inl rfl)) (pgs_cons (pg_name (i := 2) sc_is_fraction.nd rfl (.inl rfl)) pgs_nil))))
    (pss_one (ps_ret (pe_and (pe_callGK (K := K) (by rfl) (ok_is_whole C) (hr.mono (by decide)) hgd rfl C.g_is_whole C.F_is_whole.kp (b_is_whole C) (pa_cons (pv 1) pa_nil)) (pe_and (pe_callGK (K := K) (by rfl) (ok_is_whole C) (hr.mono (by decide)) hgd rfl C.g_is_whole C.F_is_whole.kp (b_is_whole C) (pa_cons (pv 2) pa_nil)) (pe_and (pe_cmpR op_gt (pv 2) pe_int (nomark _)) (pe_one (pe_cmpR (op_eqD' (K := K) (by rfl) hr.units) (pe_callBfun cr_gcd rfl C.m_gcd (pa_cons (pv 1) (pa_cons (pv 2) pa_nil))) pe_int (nomark _)))))))))), ?_⟩
  exact (rs_seq (rs_if (rt_or (rt_not (rt_B (rd_call (rd_cons rd_var rd_nil)))) (rt_test (rd_op rdo_ne (rd_cb rc_len (rd_cons rd_var rd_nil)) (rd_c fun _ => .int _)))) (rs_ret (rd_c fun _ => .bl _)) rs_next)
    (rs_seq (rs_asgG rd_var (rg_tup (rg_cons rg_n (rg_cons rg_n rg_nil))))
    (rs_ret (rd_andV (rd_call (rd_cons rd_var rd_nil)) (rd_andV (rd_call (rd_cons rd_var rd_nil)) (rd_andV (rd_op rdo_cmp rd_var (rd_c fun _ => .int _)) (rd_op rdo_eq (rd_cb rc_gcd (rd_cons rd_var (rd_cons rd_var rd_nil))) (rd_c fun _ => .int _))))))))
noncomputable def sem_is_inner_share : Sem1 := defF 1 1
  (sRet (mAndV (mCall sem_is_fraction (mCons (mVar 0) mNil)) (mChain (oCmp fun i j => decide (i < j)) (oCmp fun i j => decide (i < j)) (mC (.int 0)) (mOp oIx (mVar 0) (mC (.int 0))) (mOp oIx (mVar 0) (mC (.int 1))))))
theorem ok_is_inner_share (C : Fx K mg) : FnG P w K mg base 3 (He.ga K "is_inner_share") C.fd_is_inner_share ["value"] sem_is_inner_share := by
  refine fnG_of (k := 2) C.F_is_inner_share sc_is_inner_share rfl (fun cdv A outer s H hr hgd => ?_)
  refine ⟨_, (pss_one (ps_ret (pe_and (pe_callGK (K := K) (by rfl) (ok_is_fraction C) (hr.mono (by decide)) hgd rfl C.g_is_fraction C.F_is_fraction.kp (b_is_fraction C) (pa_cons (pv 0) pa_nil)) (pe_one (pe_chain op_lt op_lt pe_int (pe_ix (ix_bothK (K := K) (by rfl)) (pv 0) pe_int (fun _ _ => rfl)) (pe_ix (ix_bothK (K := K) (by rfl)) (pv 0) pe_int (fun _ _ => rfl))))))), ?_⟩
  exact (rs_ret (rd_andV (rd_call (rd_cons rd_var rd_nil)) (rd_chain rdo_cmp rdo_cmp (rd_c fun _ => .int _) (rd_op rdo_ix rd_var (rd_c fun _ => .int _)) (rd_op rdo_ix rd_var (rd_c fun _ => .int _)))))
noncomputable def sem_check_inner_share : Sem1 := defF 1 1
  (sIf (mNot (mTB (mCall sem_is_inner_share (mCons (mVar 0) mNil)))) sNever sNext)
theorem ok_check_inner_share (C : Fx K mg) : FnG P w K mg base 4 (He.ga K "check_inner_share") C.fd_check_inner_share ["value"] sem_check_inner_share := by
  refine fnG_of (k := 3) C.F_check_inner_share sc_check_inner_share rfl (fun cdv A outer s H hr hgd => ?_)
  refine ⟨_, (pss_one (ps_if (pt_not (pt_val (pe_callGK (K := K) (by rfl) (ok_is_inner_share C) (hr.mono (by decide)) hgd rfl C.g_is_inner_share C.F_is_inner_share.kp (b_is_inner_share C) (pa_cons (pv 0) pa_nil)))) (pss_one ps_never) pss_nil)), ?_⟩
  exact (rs_if (rt_not (rt_B (rd_call (rd_cons rd_var rd_nil)))) rs_never rs_next)
noncomputable def sem_is_share : Sem1 := defF 1 1
  (sRet (mAndV (mCall sem_is_fraction (mCons (mVar 0) mNil)) (mChain (oCmp fun i j => decide (i ≤ j)) (oCmp fun i j => decide (i ≤ j)) (mC (.int 0)) (mOp oIx (mVar 0) (mC (.int 0))) (mOp oIx (mVar 0) (mC (.int 1))))))
theorem ok_is_share (C : Fx K mg) : FnG P w K mg base 3 (He.ga K "is_share") C.fd_is_share ["value"] sem_is_share := by
  refine fnG_of (k := 2) C.F_is_share sc_is_share rfl (fun cdv A outer s H hr hgd => ?_)
  refine ⟨_, (pss_one (ps_ret (pe_and (pe_callGK (K := K) (by rfl) (ok_is_fraction C) (hr.mono (by decide)) hgd rfl C.g_is_fraction C.F_is_fraction.kp (b_is_fraction C) (pa_cons (pv 0) pa_nil)) (pe_one (pe_chain op_le op_le pe_int (pe_ix (ix_bothK (K := K) (by rfl)) (pv 0) pe_int (fun _ _ => rfl)) (pe_ix (ix_bothK (K := K) (by rfl)) (pv 0) pe_int (fun _ _ => rfl))))))), ?_⟩
  exact (rs_ret (rd_andV (rd_call (rd_cons rd_var rd_nil)) (rd_chain rdo_cmp rdo_cmp (rd_c fun _ => .int _) (rd_op rdo_ix rd_var (rd_c fun _ => .int _)) (rd_op rdo_ix rd_var (rd_c fun _ => .int _)))))
noncomputable def sem_check_wish : Sem1 := defF 1 1
  (sIf (mOr (mNot (mTB (mCall sem_is_share (mCons (mVar 0) mNil)))) (mTB (mOp (oEq false) (mOp oIx (mVar 0) (mC (.int 0))) (mC (.int 0))))) sNever sNext)
theorem ok_check_wish (C : Fx K mg) : FnG P w K mg base 4 (He.ga K "check_wish") C.fd_check_wish ["value"] sem_check_wish := by
  refine fnG_of (k := 3) C.F_check_wish sc_check_wish rfl (fun cdv A outer s H hr hgd => ?_)
  refine ⟨_, (pss_one (ps_if (PW.pt (pw_or (pt_not (pt_val (pe_callGK (K := K) (by rfl) (ok_is_share C) (hr.mono (by decide)) hgd rfl C.g_is_share C.F_is_share.kp (b_is_share C) (pa_cons (pv 0) pa_nil)))) (pw_or1 (pt_cmpR (op_eqD' (K := K) (by rfl) hr.units) (pe_ix (ix_bothK (K := K) (by rfl)) (pv 0) pe_int (fun _ _ => rfl)) pe_int (nomark _))))) (pss_one ps_never) pss_nil)), ?_⟩
  exact (rs_if (rt_or (rt_not (rt_B (rd_call (rd_cons rd_var rd_nil)))) (rt_test (rd_op rdo_eq (rd_op rdo_ix rd_var (rd_c fun _ => .int _)) (rd_c fun _ => .int _)))) rs_never rs_next)
noncomputable def sem_powers : Sem1 := defF 4 2
  (sSeq (sAsg (mNew (mCons (mC (.int 1)) mNil)) (.n 2))
  (sSeq (sFor (mIR1 (mCons (mVar 1) mNil)) (.n 3) (sDrop (mBM fAppend (mVar 2) (mCons (mOp oMul (mOp oIx (mVar 2) (mUn fNeg (mC (.int 1)))) (mVar 0)) mNil))))
  (sRet (mFrz 2))))
theorem ok_powers (C : Fx K mg) : FnG P w K mg base 1 (He.ga K "powers") C.fd_powers ["base", "most"] sem_powers := by
  refine fnG_of (k := 0) C.F_powers sc_powers rfl (fun cdv A outer s H hr hgd => ?_)
  refine ⟨_, (pss_cons (ps_set (i := 2) sc_powers.nd rfl (.inl rfl) (pe_lst (pa_cons pe_int pa_nil)))
    (pss_cons (ps_for PassesOwn.never rfl (pi_range1 (by rfl) C.n_range (pa_cons (pv 1) pa_nil)) (pg_name (i := 3) sc_powers.nd rfl (by first | exact Or.inl rfl | exact Or.inr rfl)) (pss_one (ps_expr (pe_bm PySem.F.plainAttrs_list PySem.F.slot_list_append PySem.F.type_list_append mt_append (pv 2) (pa_cons (pe_op (op_mulA' (K := K) (by rfl)) (pe_ix (ix_bothK (K := K) (by rfl)) (pv 2) (pe_un un_neg pe_int) (fun _ _ => rfl)) (pv 0)) pa_nil)))))
    (pss_one (ps_ret (pv 2))))), ?_⟩
  exact (rs_seq (rs_asg (t := .n 2) (rd_new (rd_cons (rd_c fun _ => .int _) rd_nil)))
    (rs_seq (rs_for (t := (.n 3)) (ri_range1 (rd_cons rd_var rd_nil)) (rs_drop (rd_bm rm_append rd_var (rd_cons (rd_op rdo_mul (rd_op rdo_ix rd_var (rd_un ru_neg (rd_c fun _ => .int _))) rd_var) rd_nil))))
    (rs_ret rd_frz)))
noncomputable def sem_hit_ways : Sem1 := defF 5 2
  (sSeq (sAsg (mCall sem_powers (mCons (mOp oIx (mVar 1) (mC (.int 0))) (mCons (mVar 0) mNil))) (.n 2))
  (sSeq (sAsg (mCall sem_powers (mCons (mOp oSub (mOp oIx (mVar 1) (mC (.int 1))) (mOp oIx (mVar 1) (mC (.int 0)))) (mCons (mVar 0) mNil))) (.n 3))
  (sRet (mLc (mIR1 (mCons (mOp oAdd (mVar 0) (mC (.int 1))) mNil)) (.n 4) mYes (mOp oMul (mOp oMul (mCB fComb (mCons (mVar 0) (mCons (mVar 4) mNil))) (mOp oIx (mVar 2) (mVar 4))) (mOp oIx (mVar 3) (mOp oSub (mVar 0) (mVar 4)))) [4]))))
theorem ok_hit_ways (C : Fx K mg) : FnG P w K mg base 2 (He.ga K "hit_ways") C.fd_hit_ways ["count", "share"] sem_hit_ways := by
  refine fnG_of (k := 1) C.F_hit_ways sc_hit_ways rfl (fun cdv A outer s H hr hgd => ?_)
  refine ⟨_, (pss_cons (ps_set (i := 2) sc_hit_ways.nd rfl (.inr rfl) (pe_callGK (K := K) (by rfl) (ok_powers C) (hr.mono (by decide)) hgd rfl C.g_powers C.F_powers.kp (b_powers C) (pa_cons (pe_ix (ix_bothK (K := K) (by rfl)) (pv 1) pe_int (fun _ _ => rfl)) (pa_cons (pv 0) pa_nil))))
    (pss_cons (ps_set (i := 3) sc_hit_ways.nd rfl (.inr rfl) (pe_callGK (K := K) (by rfl) (ok_powers C) (hr.mono (by decide)) hgd rfl C.g_powers C.F_powers.kp (b_powers C) (pa_cons (pe_op op_sub (pe_ix (ix_bothK (K := K) (by rfl)) (pv 1) pe_int (fun _ _ => rfl)) (pe_ix (ix_bothK (K := K) (by rfl)) (pv 1) pe_int (fun _ _ => rfl))) (pa_cons (pv 0) pa_nil))))
    (pss_one (ps_ret (pe_lc (own := [("k", 4)]) rfl sc_hit_ways.nd (pi_range1 (by rfl) C.n_range (pa_cons (pe_op (op_addA' (K := K) (by rfl)) (pv 0) pe_int) pa_nil)) (blkOk_by (N := ["count", "share", "hits", "misses", "k"]) (sc := defScope s_hit_ways) (by decide +kernel)) (fun _ _ _ _ _ => (pg_name (i := 4) sc_hit_ways.nd rfl (by first | exact Or.inl rfl | exact Or.inr rfl))) (fun _ _ _ _ _ => pts_nil) (fun _ _ _ _ _ => (pe_op (op_mulA' (K := K) (by rfl)) (pe_op (op_mulA' (K := K) (by rfl)) (pe_callBfun cr_comb rfl C.m_comb (pa_cons (pv 0) (pa_cons (pv 4) pa_nil))) (pe_ix (ix_bothK (K := K) (by rfl)) (pv 2) (pv 4) (fun _ _ => rfl))) (pe_ix (ix_bothK (K := K) (by rfl)) (pv 3) (pe_op op_sub (pv 0) (pv 4)) (fun _ _ => rfl))))))))), ?_⟩
  exact (rs_seq (rs_asg (t := .n 2) (rd_call (rd_cons (rd_op rdo_ix rd_var (rd_c fun _ => .int _)) (rd_cons rd_var rd_nil))))
    (rs_seq (rs_asg (t := .n 3) (rd_call (rd_cons (rd_op rdo_sub (rd_op rdo_ix rd_var (rd_c fun _ => .int _)) (rd_op rdo_ix rd_var (rd_c fun _ => .int _))) (rd_cons rd_var rd_nil))))
    (rs_ret (rd_lc (t := (.n 4)) (ri_range1 (rd_cons (rd_op rdo_add rd_var (rd_c fun _ => .int _)) rd_nil)) rt_yes (rd_op rdo_mul (rd_op rdo_mul (rd_cb rc_comb (rd_cons rd_var (rd_cons rd_var rd_nil))) (rd_op rdo_ix rd_var rd_var)) (rd_op rdo_ix rd_var (rd_op rdo_sub rd_var rd_var))) (by decide)))))
noncomputable def sem_power : Sem1 := defF 4 2
  (sSeq (sAsg (mC (.int 1)) (.n 2))
  (sSeq (sFor (mIR1 (mCons (mVar 1) mNil)) (.n 3) (sAsg (mOp oMul (mVar 2) (mVar 0)) (.n 2)))
  (sRet (mVar 2))))
theorem ok_power (C : Fx K mg) : FnG P w K mg base 1 (He.ga K "power") C.fd_power ["base", "exponent"] sem_power := by
  refine fnG_of (k := 0) C.F_power sc_power rfl (fun cdv A outer s H hr hgd => ?_)
  refine ⟨_, (pss_cons (ps_set (i := 2) sc_power.nd rfl (.inl rfl) pe_int)
    (pss_cons (ps_for PassesOwn.never rfl (pi_range1 (by rfl) C.n_range (pa_cons (pv 1) pa_nil)) (pg_name (i := 3) sc_power.nd rfl (by first | exact Or.inl rfl | exact Or.inr rfl)) (pss_one (ps_set (i := 2) sc_power.nd rfl (.inl rfl) (pe_op (op_mulA' (K := K) (by rfl)) (pv 2) (pv 0)))))
    (pss_one (ps_ret (pv 2))))), ?_⟩
  exact (rs_seq (rs_asg (t := .n 2) (rd_c fun _ => .int _))
    (rs_seq (rs_for (t := (.n 3)) (ri_range1 (rd_cons rd_var rd_nil)) (rs_asg (t := .n 2) (rd_op rdo_mul rd_var rd_var)))
    (rs_ret rd_var)))
noncomputable def sem_surest_start : Sem1 := defF 5 2
  (sSeq (sAsg (mLc (mIR1 (mCons (mOp oAdd (mOp oSub (mCB fLen (mCons (mVar 0) mNil)) (mVar 1)) (mC (.int 1))) mNil)) (.n 4) mYes (mCB fSum (mCons (mSl (mVar 0) (mPart (mVar 4)) (mPart (mOp oAdd (mVar 4) (mVar 1)))) mNil)) [4]) (.n 2))
  (sSeq (sAsg (mCB fMax (mCons (mVar 2) mNil)) (.n 3))
  (sRet (mTup (mCons (mBM fIndex (mVar 2) (mCons (mVar 3) mNil)) (mCons (mVar 3) mNil))))))
theorem ok_surest_start (C : Fx K mg) : FnG P w K mg base 1 (He.ga K "surest_start") C.fd_surest_start ["ways", "length"] sem_surest_start := by
  refine fnG_of (k := 0) C.F_surest_start sc_surest_start rfl (fun cdv A outer s H hr hgd => ?_)
  refine ⟨_, (pss_cons (ps_setLc (i := 2) (own := [("i", 4)]) rfl sc_surest_start.nd rfl rfl (sw_true rfl rfl rfl (by decide +kernel)) (pi_range1 (by rfl) C.n_range (pa_cons (pe_op (op_addA' (K := K) (by rfl)) (pe_op op_sub (pe_callB (call_len' (K := K) (by rfl)) (by rfl) C.n_len PySem.boot_len (pa_cons (pv 0) pa_nil)) (pv 1)) pe_int) pa_nil)) (blkOk_by (N := ["ways", "length", "sums", "surest", "i"]) (sc := defScope s_surest_start) (by decide +kernel)) (fun _ _ _ _ _ => (pg_name (i := 4) sc_surest_start.nd rfl (by first | exact Or.inl rfl | exact Or.inr rfl))) (fun _ _ _ _ _ => pts_nil) (fun _ _ _ _ _ => (pe_callB (cr_sum' (K := K) (by rfl) rfl) (by rfl) C.n_sum (by decide +kernel) (pa_cons (pe_slice (sl_bothK (K := K) (by rfl)) (pv 0) (po_some (pv 4)) (po_some (pe_op (op_addA' (K := K) (by rfl)) (pv 4) (pv 1)))) pa_nil))))
    (pss_cons (ps_set (i := 3) sc_surest_start.nd rfl (.inl rfl) (pe_callB (cr_maxK (K := K) (by rfl) rfl) (by rfl) C.n_max (by decide +kernel) (pa_cons (pv 2) pa_nil)))
    (pss_one (ps_ret (pe_tup (pa_cons (pe_bm PySem.F.plainAttrs_list PySem.F.slot_list_index PySem.F.type_list_index mt_index (pv 2) (pa_cons (pv 3) pa_nil)) (pa_cons (pv 3) pa_nil))))))), ?_⟩
  exact (rs_seq (rs_asg (t := .n 2) (rd_lc (t := (.n 4)) (ri_range1 (rd_cons (rd_op rdo_add (rd_op rdo_sub (rd_cb rc_len (rd_cons rd_var rd_nil)) rd_var) (rd_c fun _ => .int _)) rd_nil)) rt_yes (rd_cb rc_sum (rd_cons (rd_sl rd_var (rp_some rd_var) (rp_some (rd_op rdo_add rd_var rd_var))) rd_nil)) (by decide)))
    (rs_seq (rs_asg (t := .n 3) (rd_cb rc_max (rd_cons rd_var rd_nil)))
    (rs_ret (rd_tup (rd_cons (rd_bm rm_index rd_var (rd_cons rd_var rd_nil)) (rd_cons rd_var rd_nil))))))
noncomputable def sem_is_below : Sem1 := defF 2 2
  (sRet (mOp (oCmp fun i j => decide (i < j)) (mOp oMul (mOp oIx (mVar 0) (mC (.int 0))) (mOp oIx (mVar 1) (mC (.int 1)))) (mOp oMul (mOp oIx (mVar 1) (mC (.int 0))) (mOp oIx (mVar 0) (mC (.int 1))))))
theorem ok_is_below (C : Fx K mg) : FnG P w K mg base 1 (He.ga K "is_below") C.fd_is_below ["a", "b"] sem_is_below := by
  refine fnG_of (k := 0) C.F_is_below sc_is_below rfl (fun cdv A outer s H hr hgd => ?_)
  refine ⟨_, (pss_one (ps_ret (pe_cmpR op_lt (pe_op (op_mulA' (K := K) (by rfl)) (pe_ix (ix_bothK (K := K) (by rfl)) (pv 0) pe_int (fun _ _ => rfl)) (pe_ix (ix_bothK (K := K) (by rfl)) (pv 1) pe_int (fun _ _ => rfl))) (pe_op (op_mulA' (K := K) (by rfl)) (pe_ix (ix_bothK (K := K) (by rfl)) (pv 1) pe_int (fun _ _ => rfl)) (pe_ix (ix_bothK (K := K) (by rfl)) (pv 0) pe_int (fun _ _ => rfl))) (nomark _)))), ?_⟩
  exact (rs_ret (rd_op rdo_cmp (rd_op rdo_mul (rd_op rdo_ix rd_var (rd_c fun _ => .int _)) (rd_op rdo_ix rd_var (rd_c fun _ => .int _))) (rd_op rdo_mul (rd_op rdo_ix rd_var (rd_c fun _ => .int _)) (rd_op rdo_ix rd_var (rd_c fun _ => .int _)))))
noncomputable def sem_best_place : Sem1 := defF 8 3
  (sSeq (sDrop (mCall sem_check_number (mCons (mVar 0) (mCons (mC (.int 40)) mNil))))
  (sSeq (sDrop (mCall sem_check_inner_share (mCons (mVar 1) mNil)))
  (sSeq (sDrop (mCall sem_check_wish (mCons (mVar 2) mNil)))
  (sSeq (sAsg (mCall sem_hit_ways (mCons (mVar 0) (mCons (mVar 1) mNil))) (.n 3))
  (sSeq (sAsg (mCall sem_power (mCons (mOp oIx (mVar 1) (mC (.int 1))) (mCons (mVar 0) mNil))) (.n 4))
  (sSeq (sFor (mIR2 (mCons (mC (.int 1)) (mCons (mOp oAdd (mVar 0) (mC (.int 1))) mNil))) (.n 5) (sSeq (sAsgG (mCall sem_surest_start (mCons (mVar 3) (mCons (mVar 5) mNil))) (gT 2 (gC (gN 6) (gC (gN 7) gE))))
  (sIf (mNot (mTB (mCall sem_is_below (mCons (mTup (mCons (mVar 7) (mCons (mVar 4) mNil))) (mCons (mVar 2) mNil))))) (sRet (mTup (mCons (mVar 6) (mCons (mOp oAdd (mVar 6) (mVar 5)) mNil)))) sNext)))
  (sRet (mTup (mCons (mC (.int 0)) (mCons (mOp oAdd (mVar 0) (mC (.int 1))) mNil))))))))))
theorem ok_best_place (C : Fx K mg) : FnG P w K mg base 5 (He.ga K "best_place") C.fd_best_place ["count", "share", "wish"] sem_best_place := by
  refine fnG_of (k := 4) C.F_best_place sc_best_place rfl (fun cdv A outer s H hr hgd => ?_)
  refine ⟨_, (pss_cons (ps_expr (pe_callGK (K := K) (by rfl) (ok_check_number C) (hr.mono (by decide)) hgd rfl C.g_check_number C.F_check_number.kp (b_check_number C) (pa_cons (pv 0) (pa_cons (pe_glob (v := .int 40) rfl C.k__MOST_DRAWS.choose_spec ⟨_, rfl⟩) pa_nil))))
    (pss_cons (ps_expr (pe_callGK (K := K) (by rfl) (ok_check_inner_share C) (hr.mono (by decide)) hgd rfl C.g_check_inner_share C.F_check_inner_share.kp (b_check_inner_share C) (pa_cons (pv 1) pa_nil)))
    (pss_cons (ps_expr (pe_callGK (K := K) (by rfl) (ok_check_wish C) (hr.mono (by decide)) hgd rfl C.g_check_wish C.F_check_wish.kp (b_check_wish C) (pa_cons (pv 2) pa_nil)))
    (pss_cons (ps_set (i := 3) sc_best_place.nd rfl (.inl rfl) (pe_callGK (K := K) (by rfl) (ok_hit_ways C) (hr.mono (by decide)) hgd rfl C.g_hit_ways C.F_hit_ways.kp (b_hit_ways C) (pa_cons (pv 0) (pa_cons (pv 1) pa_nil))))
    (pss_cons (ps_set (i := 4) sc_best_place.nd rfl (.inl rfl) (pe_callGK (K := K) (by rfl) (ok_power C) (hr.mono (by decide)) hgd rfl C.g_power C.F_power.kp (b_power C) (pa_cons (pe_ix (ix_bothK (K := K) (by rfl)) (pv 1) pe_int (fun _ _ => rfl)) (pa_cons (pv 0) pa_nil))))
    (pss_cons (ps_for PassesOwn.never rfl (pi_range2 (by rfl) C.n_range (pa_cons pe_int (pa_cons (pe_op (op_addA' (K := K) (by rfl)) (pv 0) pe_int) pa_nil))) (pg_name (i := 5) sc_best_place.nd rfl (by first | exact Or.inl rfl | exact Or.inr rfl)) (pss_cons (ps_asg (pe_callGK (K := K) (by rfl) (ok_surest_start C) (hr.mono (by decide)) hgd rfl C.g_surest_start C.F_surest_start.kp (b_surest_start C) (pa_cons (pv 3) (pa_cons (pv 5) pa_nil))) (pg_tup (by rfl) (pgs_cons (pg_name (i := 6) sc_best_place.nd rfl (.inl rfl)) (pgs_cons (pg_name (i := 7) sc_best_place.nd rfl (.inl rfl)) pgs_nil))))
    (pss_one (ps_if (pt_not (pt_val (pe_callGK (K := K) (by rfl) (ok_is_below C) (hr.mono (by decide)) hgd rfl C.g_is_below C.F_is_below.kp (b_is_below C) (pa_cons (pe_tup (pa_cons (pv 7) (pa_cons (pv 4) pa_nil))) (pa_cons (pv 2) pa_nil))))) (pss_one (ps_ret (pe_tup (pa_cons (pv 6) (pa_cons (pe_op (op_addA' (K := K) (by rfl)) (pv 6) (pv 5)) pa_nil))))) pss_nil))))
    (pss_one (ps_ret (pe_tup (pa_cons pe_int (pa_cons (pe_op (op_addA' (K := K) (by rfl)) (pv 0) pe_int) pa_nil))))))))))), ?_⟩
  exact (rs_seq (rs_drop (rd_call (rd_cons rd_var (rd_cons (rd_c fun _ => .int _) rd_nil))))
    (rs_seq (rs_drop (rd_call (rd_cons rd_var rd_nil)))
    (rs_seq (rs_drop (rd_call (rd_cons rd_var rd_nil)))
    (rs_seq (rs_asg (t := .n 3) (rd_call (rd_cons rd_var (rd_cons rd_var rd_nil))))
    (rs_seq (rs_asg (t := .n 4) (rd_call (rd_cons (rd_op rdo_ix rd_var (rd_c fun _ => .int _)) (rd_cons rd_var rd_nil))))
    (rs_seq (rs_for (t := (.n 5)) (ri_range2 (rd_cons (rd_c fun _ => .int _) (rd_cons (rd_op rdo_add rd_var (rd_c fun _ => .int _)) rd_nil))) (rs_seq (rs_asgG (rd_call (rd_cons rd_var (rd_cons rd_var rd_nil))) (rg_tup (rg_cons rg_n (rg_cons rg_n rg_nil))))
    (rs_if (rt_not (rt_B (rd_call (rd_cons (rd_tup (rd_cons rd_var (rd_cons rd_var rd_nil))) (rd_cons rd_var rd_nil))))) (rs_ret (rd_tup (rd_cons rd_var (rd_cons (rd_op rdo_add rd_var rd_var) rd_nil)))) rs_next)))
    (rs_ret (rd_tup (rd_cons (rd_c fun _ => .int _) (rd_cons (rd_op rdo_add rd_var (rd_c fun _ => .int _)) rd_nil))))))))))
noncomputable def sem_fewest_for_place : Sem1 := defF 4 2
  (sSeq (sDrop (mCall sem_check_inner_share (mCons (mVar 0) mNil)))
  (sSeq (sDrop (mCall sem_check_wish (mCons (mVar 1) mNil)))
  (sSeq (sFor (mIR2 (mCons (mC (.int 2)) (mCons (mOp oAdd (mC (.int 40)) (mC (.int 1))) mNil))) (.n 2) (sSeq (sAsg (mCB fSum (mCons (mSl (mCall sem_hit_ways (mCons (mVar 2) (mCons (mVar 0) mNil))) (mPart (mC (.int 1))) (mPart (mVar 2))) mNil)) (.n 3))
  (sIf (mNot (mTB (mCall sem_is_below (mCons (mTup (mCons (mVar 3) (mCons (mCall sem_power (mCons (mOp oIx (mVar 0) (mC (.int 1))) (mCons (mVar 2) mNil))) mNil))) (mCons (mVar 1) mNil))))) (sRet (mVar 2)) sNext)))
  (sRet (mC .none)))))
theorem ok_fewest_for_place (C : Fx K mg) : FnG P w K mg base 5 (He.ga K "fewest_for_place") C.fd_fewest_for_place ["share", "wish"] sem_fewest_for_place := by
  refine fnG_of (k := 4) C.F_fewest_for_place sc_fewest_for_place rfl (fun cdv A outer s H hr hgd => ?_)
  refine ⟨_, (pss_cons (ps_expr (pe_callGK (K := K) (by rfl) (ok_check_inner_share C) (hr.mono (by decide)) hgd rfl C.g_check_inner_share C.F_check_inner_share.kp (b_check_inner_share C) (pa_cons (pv 0) pa_nil)))
    (pss_cons (ps_expr (pe_callGK (K := K) (by rfl) (ok_check_wish C) (hr.mono (by decide)) hgd rfl C.g_check_wish C.F_check_wish.kp (b_check_wish C) (pa_cons (pv 1) pa_nil)))
    (pss_cons (ps_for PassesOwn.never rfl (pi_range2 (by rfl) C.n_range (pa_cons pe_int (pa_cons (pe_op (op_addA' (K := K) (by rfl)) (pe_glob (v := .int 40) rfl C.k__MOST_DRAWS.choose_spec ⟨_, rfl⟩) pe_int) pa_nil))) (pg_name (i := 2) sc_fewest_for_place.nd rfl (by first | exact Or.inl rfl | exact Or.inr rfl)) (pss_cons (ps_set (i := 3) sc_fewest_for_place.nd rfl (.inl rfl) (pe_callB (cr_sum' (K := K) (by rfl) rfl) (by rfl) C.n_sum (by decide +kernel) (pa_cons (pe_slice (sl_bothK (K := K) (by rfl)) (pe_callGK (K := K) (by rfl) (ok_hit_ways C) (hr.mono (by decide)) hgd rfl C.g_hit_ways C.F_hit_ways.kp (b_hit_ways C) (pa_cons (pv 2) (pa_cons (pv 0) pa_nil))) (po_some pe_int) (po_some (pv 2))) pa_nil)))
    (pss_one (ps_if (pt_not (pt_val (pe_callGK (K := K) (by rfl) (ok_is_below C) (hr.mono (by decide)) hgd rfl C.g_is_below C.F_is_below.kp (b_is_below C) (pa_cons (pe_tup (pa_cons (pv 3) (pa_cons (pe_callGK (K := K) (by rfl) (ok_power C) (hr.mono (by decide)) hgd rfl C.g_power C.F_power.kp (b_power C) (pa_cons (pe_ix (ix_bothK (K := K) (by rfl)) (pv 0) pe_int (fun _ _ => rfl)) (pa_cons (pv 2) pa_nil))) pa_nil))) (pa_cons (pv 1) pa_nil))))) (pss_one (ps_ret (pv 2))) pss_nil))))
    (pss_one (ps_ret pe_non))))), ?_⟩
  exact (rs_seq (rs_drop (rd_call (rd_cons rd_var rd_nil)))
    (rs_seq (rs_drop (rd_call (rd_cons rd_var rd_nil)))
    (rs_seq (rs_for (t := (.n 2)) (ri_range2 (rd_cons (rd_c fun _ => .int _) (rd_cons (rd_op rdo_add (rd_c fun _ => .int _) (rd_c fun _ => .int _)) rd_nil))) (rs_seq (rs_asg (t := .n 3) (rd_cb rc_sum (rd_cons (rd_sl (rd_call (rd_cons rd_var (rd_cons rd_var rd_nil))) (rp_some (rd_c fun _ => .int _)) (rp_some rd_var)) rd_nil)))
    (rs_if (rt_not (rt_B (rd_call (rd_cons (rd_tup (rd_cons rd_var (rd_cons (rd_call (rd_cons (rd_op rdo_ix rd_var (rd_c fun _ => .int _)) (rd_cons rd_var rd_nil))) rd_nil))) (rd_cons rd_var rd_nil))))) (rs_ret rd_var) rs_next)))
    (rs_ret (rd_c fun _ => .non)))))
noncomputable def sem__law_best : Sem1 := defF 8 3
  (sSeq (sAsg (mCall sem__law_power (mCons (mOp oIx (mVar 1) (mC (.int 1))) (mCons (mVar 0) mNil))) (.n 3))
  (sSeq (sFor (mIR2 (mCons (mC (.int 1)) (mCons (mOp oAdd (mVar 0) (mC (.int 2))) mNil))) (.n 4) (sSeq (sAsg (mLc (mIR1 (mCons (mOp oSub (mOp oAdd (mVar 0) (mC (.int 2))) (mVar 4)) mNil)) (.n 7) mYes (mTup (mCons (mOp oSub (mC (.int 0)) (mCall sem__law_between (mCons (mVar 0) (mCons (mVar 1) (mCons (mVar 7) (mCons (mOp oAdd (mVar 7) (mVar 4)) mNil)))))) (mCons (mVar 7) mNil))) [7]) (.n 5))
  (sSeq (sAsg (mCB fMinT (mCons (mVar 5) mNil)) (.n 6))
  (sIf (mTB (mOp (oCmp fun i j => decide (j ≤ i)) (mOp oMul (mOp oSub (mC (.int 0)) (mOp oIx (mVar 6) (mC (.int 0)))) (mOp oIx (mVar 2) (mC (.int 1)))) (mOp oMul (mOp oIx (mVar 2) (mC (.int 0))) (mVar 3)))) (sRet (mTup (mCons (mOp oIx (mVar 6) (mC (.int 1))) (mCons (mOp oAdd (mOp oIx (mVar 6) (mC (.int 1))) (mVar 4)) mNil)))) sNext))))
  (sRet (mTup (mCons (mC (.int 0)) (mCons (mOp oAdd (mVar 0) (mC (.int 1))) mNil))))))
theorem ok__law_best (C : Fx K mg) : FnG P w K mg base 3 (He.ga K "_law_best") C.fd__law_best ["n", "q", "wish"] sem__law_best := by
  refine fnG_of (k := 2) C.F__law_best sc__law_best rfl (fun cdv A outer s H hr hgd => ?_)
  refine ⟨_, (pss_cons (ps_set (i := 3) sc__law_best.nd rfl (.inl rfl) (pe_callGK (K := K) (by rfl) (ok__law_power C) (hr.mono (by decide)) hgd rfl C.g__law_power C.F__law_power.kp (b__law_power C) (pa_cons (pe_ix (ix_bothK (K := K) (by rfl)) (pv 1) pe_int (fun _ _ => rfl)) (pa_cons (pv 0) pa_nil))))
    (pss_cons (ps_for PassesOwn.never rfl (pi_range2 (by rfl) C.n_range (pa_cons pe_int (pa_cons (pe_op (op_addA' (K := K) (by rfl)) (pv 0) pe_int) pa_nil))) (pg_name (i := 4) sc__law_best.nd rfl (by first | exact Or.inl rfl | exact Or.inr rfl)) (pss_cons (ps_setLc (i := 5) (own := [("i", 7)]) rfl sc__law_best.nd rfl rfl (sw_true rfl rfl rfl (by decide +kernel)) (pi_range1 (by rfl) C.n_range (pa_cons (pe_op op_sub (pe_op (op_addA' (K := K) (by rfl)) (pv 0) pe_int) (pv 4)) pa_nil)) (blkOk_by (N := ["n", "q", "wish", "by", "size", "found", "best", "i"]) (sc := defScope s__law_best) (by decide +kernel)) (fun _ _ _ _ _ => (pg_name (i := 7) sc__law_best.nd rfl (by first | exact Or.inl rfl | exact Or.inr rfl))) (fun _ _ _ _ _ => pts_nil) (fun _ _ _ _ _ => (pe_tup (pa_cons (pe_op op_sub pe_int (pe_callGK (K := K) (by rfl) (ok__law_between C) (hr.mono (by decide)) hgd rfl C.g__law_between C.F__law_between.kp (b__law_between C) (pa_cons (pv 0) (pa_cons (pv 1) (pa_cons (pv 7) (pa_cons (pe_op (op_addA' (K := K) (by rfl)) (pv 7) (pv 4)) pa_nil)))))) (pa_cons (pv 7) pa_nil)))))
    (pss_cons (ps_set (i := 6) sc__law_best.nd rfl (.inl rfl) (pe_callB (cr_minT (K := K) (by rfl) (units1 hr.units) rfl) (by rfl) C.n_min (by decide +kernel) (pa_cons (pv 5) pa_nil)))
    (pss_one (ps_if (pt_cmpR op_ge (pe_op (op_mulA' (K := K) (by rfl)) (pe_op op_sub pe_int (pe_ix (ix_bothK (K := K) (by rfl)) (pv 6) pe_int (fun _ _ => rfl))) (pe_ix (ix_bothK (K := K) (by rfl)) (pv 2) pe_int (fun _ _ => rfl))) (pe_op (op_mulA' (K := K) (by rfl)) (pe_ix (ix_bothK (K := K) (by rfl)) (pv 2) pe_int (fun _ _ => rfl)) (pv 3)) (nomark _)) (pss_one (ps_ret (pe_tup (pa_cons (pe_ix (ix_bothK (K := K) (by rfl)) (pv 6) pe_int (fun _ _ => rfl)) (pa_cons (pe_op (op_addA' (K := K) (by rfl)) (pe_ix (ix_bothK (K := K) (by rfl)) (pv 6) pe_int (fun _ _ => rfl)) (pv 4)) pa_nil))))) pss_nil)))))
    (pss_one (ps_ret (pe_tup (pa_cons pe_int (pa_cons (pe_op (op_addA' (K := K) (by rfl)) (pv 0) pe_int) pa_nil))))))), ?_⟩
  exact (rs_seq (rs_asg (t := .n 3) (rd_call (rd_cons (rd_op rdo_ix rd_var (rd_c fun _ => .int _)) (rd_cons rd_var rd_nil))))
    (rs_seq (rs_for (t := (.n 4)) (ri_range2 (rd_cons (rd_c fun _ => .int _) (rd_cons (rd_op rdo_add rd_var (rd_c fun _ => .int _)) rd_nil))) (rs_seq (rs_asg (t := .n 5) (rd_lc (t := (.n 7)) (ri_range1 (rd_cons (rd_op rdo_sub (rd_op rdo_add rd_var (rd_c fun _ => .int _)) rd_var) rd_nil)) rt_yes (rd_tup (rd_cons (rd_op rdo_sub (rd_c fun _ => .int _) (rd_call (rd_cons rd_var (rd_cons rd_var (rd_cons rd_var (rd_cons (rd_op rdo_add rd_var rd_var) rd_nil)))))) (rd_cons rd_var rd_nil))) (by decide)))
    (rs_seq (rs_asg (t := .n 6) (rd_cb rc_minT (rd_cons rd_var rd_nil)))
    (rs_if (rt_test (rd_op rdo_cmp (rd_op rdo_mul (rd_op rdo_sub (rd_c fun _ => .int _) (rd_op rdo_ix rd_var (rd_c fun _ => .int _))) (rd_op rdo_ix rd_var (rd_c fun _ => .int _))) (rd_op rdo_mul (rd_op rdo_ix rd_var (rd_c fun _ => .int _)) rd_var))) (rs_ret (rd_tup (rd_cons (rd_op rdo_ix rd_var (rd_c fun _ => .int _)) (rd_cons (rd_op rdo_add (rd_op rdo_ix rd_var (rd_c fun _ => .int _)) rd_var) rd_nil)))) rs_next))))
    (rs_ret (rd_tup (rd_cons (rd_c fun _ => .int _) (rd_cons (rd_op rdo_add rd_var (rd_c fun _ => .int _)) rd_nil))))))
noncomputable def sem__law_fewest : Sem1 := defF 4 2
  (sSeq (sFor (mIR2 (mCons (mC (.int 2)) (mCons (mC (.int 41)) mNil))) (.n 2) (sSeq (sAsg (mCall sem__law_power (mCons (mOp oIx (mVar 0) (mC (.int 1))) (mCons (mVar 2) mNil))) (.n 3))
  (sIf (mTB (mOp (oCmp fun i j => decide (j ≤ i)) (mOp oMul (mOp oSub (mOp oSub (mVar 3) (mCall sem__law_power (mCons (mOp oIx (mVar 0) (mC (.int 0))) (mCons (mVar 2) mNil)))) (mCall sem__law_power (mCons (mOp oSub (mOp oIx (mVar 0) (mC (.int 1))) (mOp oIx (mVar 0) (mC (.int 0)))) (mCons (mVar 2) mNil)))) (mOp oIx (mVar 1) (mC (.int 1)))) (mOp oMul (mOp oIx (mVar 1) (mC (.int 0))) (mVar 3)))) (sRet (mVar 2)) sNext)))
  (sRet (mC .none)))
theorem ok__law_fewest (C : Fx K mg) : FnG P w K mg base 2 (He.ga K "_law_fewest") C.fd__law_fewest ["q", "wish"] sem__law_fewest := by
  refine fnG_of (k := 1) C.F__law_fewest sc__law_fewest rfl (fun cdv A outer s H hr hgd => ?_)
  refine ⟨_, (pss_cons (ps_for PassesOwn.never rfl (pi_range2 (by rfl) C.n_range (pa_cons pe_int (pa_cons pe_int pa_nil))) (pg_name (i := 2) sc__law_fewest.nd rfl (by first | exact Or.inl rfl | exact Or.inr rfl)) (pss_cons (ps_set (i := 3) sc__law_fewest.nd rfl (.inl rfl) (pe_callGK (K := K) (by rfl) (ok__law_power C) (hr.mono (by decide)) hgd rfl C.g__law_power C.F__law_power.kp (b__law_power C) (pa_cons (pe_ix (ix_bothK (K := K) (by rfl)) (pv 0) pe_int (fun _ _ => rfl)) (pa_cons (pv 2) pa_nil))))
    (pss_one (ps_if (pt_cmpR op_ge (pe_op (op_mulA' (K := K) (by rfl)) (pe_op op_sub (pe_op op_sub (pv 3) (pe_callGK (K := K) (by rfl) (ok__law_power C) (hr.mono (by decide)) hgd rfl C.g__law_power C.F__law_power.kp (b__law_power C) (pa_cons (pe_ix (ix_bothK (K := K) (by rfl)) (pv 0) pe_int (fun _ _ => rfl)) (pa_cons (pv 2) pa_nil)))) (pe_callGK (K := K) (by rfl) (ok__law_power C) (hr.mono (by decide)) hgd rfl C.g__law_power C.F__law_power.kp (b__law_power C) (pa_cons (pe_op op_sub (pe_ix (ix_bothK (K := K) (by rfl)) (pv 0) pe_int (fun _ _ => rfl)) (pe_ix (ix_bothK (K := K) (by rfl)) (pv 0) pe_int (fun _ _ => rfl))) (pa_cons (pv 2) pa_nil)))) (pe_ix (ix_bothK (K := K) (by rfl)) (pv 1) pe_int (fun _ _ => rfl))) (pe_op (op_mulA' (K := K) (by rfl)) (pe_ix (ix_bothK (K := K) (by rfl)) (pv 1) pe_int (fun _ _ => rfl)) (pv 3)) (nomark _)) (pss_one (ps_ret (pv 2))) pss_nil))))
    (pss_one (ps_ret pe_non))), ?_⟩
  exact (rs_seq (rs_for (t := (.n 2)) (ri_range2 (rd_cons (rd_c fun _ => .int _) (rd_cons (rd_c fun _ => .int _) rd_nil))) (rs_seq (rs_asg (t := .n 3) (rd_call (rd_cons (rd_op rdo_ix rd_var (rd_c fun _ => .int _)) (rd_cons rd_var rd_nil))))
    (rs_if (rt_test (rd_op rdo_cmp (rd_op rdo_mul (rd_op rdo_sub (rd_op rdo_sub rd_var (rd_call (rd_cons (rd_op rdo_ix rd_var (rd_c fun _ => .int _)) (rd_cons rd_var rd_nil)))) (rd_call (rd_cons (rd_op rdo_sub (rd_op rdo_ix rd_var (rd_c fun _ => .int _)) (rd_op rdo_ix rd_var (rd_c fun _ => .int _))) (rd_cons rd_var rd_nil)))) (rd_op rdo_ix rd_var (rd_c fun _ => .int _))) (rd_op rdo_mul (rd_op rdo_ix rd_var (rd_c fun _ => .int _)) rd_var))) (rs_ret rd_var) rs_next)))
    (rs_ret (rd_c fun _ => .non)))
noncomputable def sem__law_right : Sem1 := defF 5 1
  (sSeq (sPar 2 3 (mCons (mOp oAdd (mC (.int 1)) (mCall sem__law_draw (mCons (mVar 0) (mCons (mC (.int 9)) mNil)))) (mCons (mCall sem__law_inner (mCons (mVar 0) mNil)) mNil)))
  (sSeq (sAsg (mCall sem__law_wish (mCons (mVar 0) (mCons (mVar 2) (mCons (mVar 3) mNil)))) (.n 1))
  (sSeq (sIf (mTB (mOp (oEq false) (mCall sem__law_draw (mCons (mVar 0) (mCons (mC (.int 2)) mNil))) (mC (.int 0)))) (sAsg (mLst (mCons (mCall sem_best_place (mCons (mVar 2) (mCons (mVar 3) (mCons (mVar 1) mNil)))) (mCons (mCall sem_fewest_for_place (mCons (mVar 3) (mCons (mVar 1) mNil))) mNil))) (.n 4)) (sAsg (mLst (mCons (mCallK sem_best_place 0 3 [2, 1, 0] mNil (mCons (mVar 1) (mCons (mVar 3) (mCons (mVar 2) mNil)))) (mCons (mCallK sem_fewest_for_place 0 2 [1, 0] mNil (mCons (mVar 1) (mCons (mVar 3) mNil))) mNil))) (.n 4)))
  (sRet (mOp (oEq false) (mCB fReprQ (mCons (mVar 4) mNil)) (mCB fReprQ (mCons (mLst (mCons (mCall sem__law_best (mCons (mVar 2) (mCons (mVar 3) (mCons (mVar 1) mNil)))) (mCons (mCall sem__law_fewest (mCons (mVar 3) (mCons (mVar 1) mNil))) mNil))) mNil)))))))
theorem ok__law_right (C : Fx K mg) : FnG P w K mg base 6 (He.ga K "_law_right") C.fd__law_right ["source"] sem__law_right := by
  refine fnG_of (k := 5) C.F__law_right sc__law_right rfl (fun cdv A outer s H hr hgd => ?_)
  refine ⟨_, (pss_cons (ps_par (i := 2) (j := 3) (by rfl) sc__law_right.nd rfl rfl (by decide) rfl rfl (pa_cons (pe_op (op_addA' (K := K) (by rfl)) pe_int (pe_callGK (K := K) (by rfl) (ok__law_draw C) (hr.mono (by decide)) hgd rfl C.g__law_draw C.F__law_draw.kp (b__law_draw C) (pa_cons (pv 0) (pa_cons pe_int pa_nil)))) (pa_cons (pe_callGK (K := K) (by rfl) (ok__law_inner C) (hr.mono (by decide)) hgd rfl C.g__law_inner C.F__law_inner.kp (b__law_inner C) (pa_cons (pv 0) pa_nil)) pa_nil)) (by rfl))
    (pss_cons (ps_set (i := 1) sc__law_right.nd rfl (.inl rfl) (pe_callGK (K := K) (by rfl) (ok__law_wish C) (hr.mono (by decide)) hgd rfl C.g__law_wish C.F__law_wish.kp (b__law_wish C) (pa_cons (pv 0) (pa_cons (pv 2) (pa_cons (pv 3) pa_nil)))))
    (pss_cons (ps_if (pt_cmpR (op_eqD' (K := K) (by rfl) hr.units) (pe_callGK (K := K) (by rfl) (ok__law_draw C) (hr.mono (by decide)) hgd rfl C.g__law_draw C.F__law_draw.kp (b__law_draw C) (pa_cons (pv 0) (pa_cons pe_int pa_nil))) pe_int (nomark _)) (pss_one (ps_set (i := 4) sc__law_right.nd rfl (.inl rfl) (pe_lst (pa_cons (pe_callGK (K := K) (by rfl) (ok_best_place C) (hr.mono (by decide)) hgd rfl C.g_best_place C.F_best_place.kp (b_best_place C) (pa_cons (pv 2) (pa_cons (pv 3) (pa_cons (pv 1) pa_nil)))) (pa_cons (pe_callGK (K := K) (by rfl) (ok_fewest_for_place C) (hr.mono (by decide)) hgd rfl C.g_fewest_for_place C.F_fewest_for_place.kp (b_fewest_for_place C) (pa_cons (pv 3) (pa_cons (pv 1) pa_nil))) pa_nil))))) (pss_one (ps_set (i := 4) sc__law_right.nd rfl (.inl rfl) (pe_lst (pa_cons (pe_callKG0K (K := K) (by rfl) (ok_best_place C) (hr.mono (by decide)) hgd rfl C.g_best_place C.F_best_place.kp (kb_best_place_0_wish_share_count C) (pk_cons (pv 1) (pk_cons (pv 3) (pk_cons (pv 2) pk_nil)))) (pa_cons (pe_callKG0K (K := K) (by rfl) (ok_fewest_for_place C) (hr.mono (by decide)) hgd rfl C.g_fewest_for_place C.F_fewest_for_place.kp (kb_fewest_for_place_0_wish_share C) (pk_cons (pv 1) (pk_cons (pv 3) pk_nil))) pa_nil))))))
    (pss_one (ps_ret (pe_cmpR (op_eqD' (K := K) (by rfl) hr.units) (pe_callB (cr_repr' (K := K) (by rfl) hgd hr.units) (by rfl) C.n_repr (by decide +kernel) (pa_cons (pv 4) pa_nil)) (pe_callB (cr_repr' (K := K) (by rfl) hgd hr.units) (by rfl) C.n_repr (by decide +kernel) (pa_cons (pe_lst (pa_cons (pe_callGK (K := K) (by rfl) (ok__law_best C) (hr.mono (by decide)) hgd rfl C.g__law_best C.F__law_best.kp (b__law_best C) (pa_cons (pv 2) (pa_cons (pv 3) (pa_cons (pv 1) pa_nil)))) (pa_cons (pe_callGK (K := K) (by rfl) (ok__law_fewest C) (hr.mono (by decide)) hgd rfl C.g__law_fewest C.F__law_fewest.kp (b__law_fewest C) (pa_cons (pv 3) (pa_cons (pv 1) pa_nil))) pa_nil))) pa_nil)) (nomark _))))))), ?_⟩
  exact (rs_seq (rs_par (rd_cons (rd_op rdo_add (rd_c fun _ => .int _) (rd_call (rd_cons rd_var (rd_cons (rd_c fun _ => .int _) rd_nil)))) (rd_cons (rd_call (rd_cons rd_var rd_nil)) rd_nil)))
    (rs_seq (rs_asg (t := .n 1) (rd_call (rd_cons rd_var (rd_cons rd_var (rd_cons rd_var rd_nil)))))
    (rs_seq (rs_if (rt_test (rd_op rdo_eq (rd_call (rd_cons rd_var (rd_cons (rd_c fun _ => .int _) rd_nil))) (rd_c fun _ => .int _))) (rs_asg (t := .n 4) (rd_lst (rd_cons (rd_call (rd_cons rd_var (rd_cons rd_var (rd_cons rd_var rd_nil)))) (rd_cons (rd_call (rd_cons rd_var (rd_cons rd_var rd_nil))) rd_nil)))) (rs_asg (t := .n 4) (rd_lst (rd_cons (rd_callK rd_nil (rd_cons rd_var (rd_cons rd_var (rd_cons rd_var rd_nil)))) (rd_cons (rd_callK rd_nil (rd_cons rd_var (rd_cons rd_var rd_nil))) rd_nil)))))
    (rs_ret (rd_op rdo_eq (rd_cb rc_repr (rd_cons rd_var rd_nil)) (rd_cb rc_repr (rd_cons (rd_lst (rd_cons (rd_call (rd_cons rd_var (rd_cons rd_var (rd_cons rd_var rd_nil)))) (rd_cons (rd_call (rd_cons rd_var (rd_cons rd_var rd_nil))) rd_nil))) rd_nil)))))))
noncomputable def sem__law_source : Sem1 := defF 5 2
  (sSeq (sAsg (mIf (mTB (mOp (oCmp fun i j => decide (i < j)) (mVar 1) (mCB fLen (mCons (mVar 0) mNil)))) (mCB fInt (mCons (mOp oIx (mVar 0) (mVar 1)) mNil)) (mC (.int 0))) (.n 2))
  (sSeq (sAsg (mOp oAdd (mC (.int 56263)) (mOp oMul (mC (.int 5231)) (mVar 1))) (.n 3))
  (sSeq (sFor (mIL (mSl (mVar 0) mNoP (mPart (mC (.int 7))))) (.n 4) (sAsg (mOp oMod (mCB fInt (mCons (mOp oAdd (mOp oAdd (mOp oMul (mVar 3) (mC (.int 52361))) (mOp oMul (mOp oMod (mCB fInt (mCons (mVar 4) mNil)) (mC (.int 2147483549))) (mC (.int 3)))) (mC (.int 11))) mNil)) (mC (.int 2147483549))) (.n 3)))
  (sSeq (sAsg (mOp oMod (mCB fInt (mCons (mOp oAdd (mOp oAdd (mOp oMul (mVar 3) (mC (.int 211))) (mOp oMod (mCB fInt (mCons (mVar 2) mNil)) (mC (.int 1999999973)))) (mC (.int 29))) mNil)) (mC (.int 2147483549))) (.n 3))
  (sRet (mNew (mCons (mIf (mTB (mOp (oCmp fun i j => decide (j ≤ i)) (mCB fAbs (mCons (mVar 2) mNil)) (mOp oPow (mC (.int 10)) (mC (.int 17))))) (mCB fAbs (mCons (mVar 2) mNil)) (mC (.int 0))) (mCons (mVar 3) (mCons (mC (.int 0)) mNil)))))))))
theorem ok__law_source (C : Fx K mg) : FnG P w K mg base 1 (He.ga K "_law_source") C.fd__law_source ["script", "turn"] sem__law_source := by
  refine fnG_of (k := 0) C.F__law_source sc__law_source rfl (fun cdv A outer s H hr hgd => ?_)
  refine ⟨_, (pss_cons (ps_set (i := 2) sc__law_source.nd rfl (.inl rfl) (pe_ifExp (pt_cmpR op_lt (pv 1) (pe_callB (call_len' (K := K) (by rfl)) (by rfl) C.n_len PySem.boot_len (pa_cons (pv 0) pa_nil)) (nomark _)) (pe_callTy call_int1 (by rfl) C.n_int (by decide +kernel) (pa_cons (pe_ix (ix_bothK (K := K) (by rfl)) (pv 0) (pv 1) (fun _ _ => rfl)) pa_nil)) pe_int))
    (pss_cons (ps_set (i := 3) sc__law_source.nd rfl (.inl rfl) (pe_op (op_addA' (K := K) (by rfl)) pe_int (pe_op (op_mulA' (K := K) (by rfl)) pe_int (pv 1))))
    (pss_cons (ps_for PassesOwn.never rfl (pi_list (pe_slice (sl_bothK (K := K) (by rfl)) (pv 0) po_none (po_some pe_int))) (pg_name (i := 4) sc__law_source.nd rfl (by first | exact Or.inl rfl | exact Or.inr rfl)) (pss_one (ps_set (i := 3) sc__law_source.nd rfl (.inl rfl) (pe_op op_mod (pe_callTy call_int1 (by rfl) C.n_int (by decide +kernel) (pa_cons (pe_op (op_addA' (K := K) (by rfl)) (pe_op (op_addA' (K := K) (by rfl)) (pe_op (op_mulA' (K := K) (by rfl)) (pv 3) pe_int) (pe_op (op_mulA' (K := K) (by rfl)) (pe_op op_mod (pe_callTy call_int1 (by rfl) C.n_int (by decide +kernel) (pa_cons (pv 4) pa_nil)) pe_int) pe_int)) pe_int) pa_nil)) pe_int))))
    (pss_cons (ps_set (i := 3) sc__law_source.nd rfl (.inl rfl) (pe_op op_mod (pe_callTy call_int1 (by rfl) C.n_int (by decide +kernel) (pa_cons (pe_op (op_addA' (K := K) (by rfl)) (pe_op (op_addA' (K := K) (by rfl)) (pe_op (op_mulA' (K := K) (by rfl)) (pv 3) pe_int) (pe_op op_mod (pe_callTy call_int1 (by rfl) C.n_int (by decide +kernel) (pa_cons (pv 2) pa_nil)) pe_int)) pe_int) pa_nil)) pe_int))
    (pss_one (ps_ret (pe_lst (pa_cons (pe_ifExp (pt_cmpR op_ge (pe_callB call_abs (by rfl) C.n_abs (by decide +kernel) (pa_cons (pv 2) pa_nil)) (pe_op op_pow pe_int pe_int) (nomark _)) (pe_callB call_abs (by rfl) C.n_abs (by decide +kernel) (pa_cons (pv 2) pa_nil)) pe_int) (pa_cons (pv 3) (pa_cons pe_int pa_nil)))))))))), ?_⟩
  exact (rs_seq (rs_asg (t := .n 2) (rd_if (rt_test (rd_op rdo_cmp rd_var (rd_cb rc_len (rd_cons rd_var rd_nil)))) (rd_cb rc_int (rd_cons (rd_op rdo_ix rd_var rd_var) rd_nil)) (rd_c fun _ => .int _)))
    (rs_seq (rs_asg (t := .n 3) (rd_op rdo_add (rd_c fun _ => .int _) (rd_op rdo_mul (rd_c fun _ => .int _) rd_var)))
    (rs_seq (rs_for (t := (.n 4)) (ri_list (rd_sl rd_var rp_none (rp_some (rd_c fun _ => .int _)))) (rs_asg (t := .n 3) (rd_op rdo_mod (rd_cb rc_int (rd_cons (rd_op rdo_add (rd_op rdo_add (rd_op rdo_mul rd_var (rd_c fun _ => .int _)) (rd_op rdo_mul (rd_op rdo_mod (rd_cb rc_int (rd_cons rd_var rd_nil)) (rd_c fun _ => .int _)) (rd_c fun _ => .int _))) (rd_c fun _ => .int _)) rd_nil)) (rd_c fun _ => .int _))))
    (rs_seq (rs_asg (t := .n 3) (rd_op rdo_mod (rd_cb rc_int (rd_cons (rd_op rdo_add (rd_op rdo_add (rd_op rdo_mul rd_var (rd_c fun _ => .int _)) (rd_op rdo_mod (rd_cb rc_int (rd_cons rd_var rd_nil)) (rd_c fun _ => .int _))) (rd_c fun _ => .int _)) rd_nil)) (rd_c fun _ => .int _)))
    (rs_ret (rd_new (rd_cons (rd_if (rt_test (rd_op rdo_cmp (rd_cb rc_abs (rd_cons rd_var rd_nil)) (rd_op rdo_pow (rd_c fun _ => .int _) (rd_c fun _ => .int _)))) (rd_cb rc_abs (rd_cons rd_var rd_nil)) (rd_c fun _ => .int _)) (rd_cons rd_var (rd_cons (rd_c fun _ => .int _) rd_nil)))))))))
noncomputable def sem_law : Sem1 := defF 2 1
  (sRet (mCB fAll (mCons (mLc (mIR1 (mCons (mCB fMax2 (mCons (mC (.int 2)) (mCons (mCB fMin2 (mCons (mCB fLen (mCons (mVar 0) mNil)) (mCons (mC (.int 3)) mNil))) mNil))) mNil)) (.n 1) mYes (mCall sem__law_right (mCons (mCall sem__law_source (mCons (mVar 0) (mCons (mVar 1) mNil))) mNil)) [1]) mNil)))
theorem ok_law (C : Fx K mg) : FnG P w K mg base 7 (He.ga K "law") C.fd_law ["script"] sem_law := by
  refine fnG_of (k := 6) C.F_law sc_law rfl (fun cdv A outer s H hr hgd => ?_)
  refine ⟨_, (pss_one (ps_ret (pe_callB (cr_all' (K := K) (by rfl) rfl) (by rfl) C.n_all (by decide +kernel) (pa_cons (pe_lc (own := [("turn", 1)]) rfl sc_law.nd (pi_range1 (by rfl) C.n_range (pa_cons (pe_callB (call_max2 rfl) (by rfl) C.n_max (by decide +kernel) (pa_cons pe_int (pa_cons (pe_callB (call_min2 rfl) (by rfl) C.n_min (by decide +kernel) (pa_cons (pe_callB (call_len' (K := K) (by rfl)) (by rfl) C.n_len PySem.boot_len (pa_cons (pv 0) pa_nil)) (pa_cons pe_int pa_nil))) pa_nil))) pa_nil)) (blkOk_by (N := ["script", "turn"]) (sc := defScope s_law) (by decide +kernel)) (fun _ _ _ _ _ => (pg_name (i := 1) sc_law.nd rfl (by first | exact Or.inl rfl | exact Or.inr rfl))) (fun _ _ _ _ _ => pts_nil) (fun _ _ _ _ _ => (pe_callGK (K := K) (by rfl) (ok__law_right C) (hr.mono (by decide)) hgd rfl C.g__law_right C.F__law_right.kp (b__law_right C) (pa_cons (pe_callGK (K := K) (by rfl) (ok__law_source C) (hr.mono (by decide)) hgd rfl C.g__law_source C.F__law_source.kp (b__law_source C) (pa_cons (pv 0) (pa_cons (pv 1) pa_nil))) pa_nil)))) pa_nil)))), ?_⟩
  exact (rs_ret (rd_cb rc_all (rd_cons (rd_lc (t := (.n 1)) (ri_range1 (rd_cons (rd_cb rc_max2 (rd_cons (rd_c fun _ => .int _) (rd_cons (rd_cb rc_min2 (rd_cons (rd_cb rc_len (rd_cons rd_var rd_nil)) (rd_cons (rd_c fun _ => .int _) rd_nil))) rd_nil))) rd_nil)) rt_yes (rd_call (rd_cons (rd_call (rd_cons rd_var (rd_cons rd_var rd_nil))) rd_nil)) (by decide)) rd_nil)))
end
/-! ### the head -/
def d__law_ratio : He.DefD := ⟨("_law_ratio", none), "_law_ratio", "_law_ratio", defArgs s__law_ratio, defBody s__law_ratio, defScope s__law_ratio, [], []⟩
def d__law_draw : He.DefD := ⟨("_law_draw", none), "_law_draw", "_law_draw", defArgs s__law_draw, defBody s__law_draw, defScope s__law_draw, [], []⟩
def d__law_power : He.DefD := ⟨("_law_power", none), "_law_power", "_law_power", defArgs s__law_power, defBody s__law_power, defScope s__law_power, [], []⟩
def d__law_choose : He.DefD := ⟨("_law_choose", none), "_law_choose", "_law_choose", defArgs s__law_choose, defBody s__law_choose, defScope s__law_choose, [], []⟩
def d__law_between : He.DefD := ⟨("_law_between", none), "_law_between", "_law_between", defArgs s__law_between, defBody s__law_between, defScope s__law_between, [], []⟩
def d__law_wish : He.DefD := ⟨("_law_wish", none), "_law_wish", "_law_wish", defArgs s__law_wish, defBody s__law_wish, defScope s__law_wish, [], []⟩
def d__law_inner : He.DefD := ⟨("_law_inner", none), "_law_inner", "_law_inner", defArgs s__law_inner, defBody s__law_inner, defScope s__law_inner, [], []⟩
def d_is_whole : He.DefD := ⟨("is_whole", none), "is_whole", "is_whole", defArgs s_is_whole, defBody s_is_whole, defScope s_is_whole, [], []⟩
def d_check_number_within : He.DefD := ⟨("check_number_within", none), "check_number_within", "check_number_within", defArgs s_check_number_within, defBody s_check_number_within, defScope s_check_number_within, [], []⟩
def d_check_number : He.DefD := ⟨("check_number", none), "check_number", "check_number", defArgs s_check_number, defBody s_check_number, defScope s_check_number, [], []⟩
def d_is_tuple : He.DefD := ⟨("is_tuple", none), "is_tuple", "is_tuple", defArgs s_is_tuple, defBody s_is_tuple, defScope s_is_tuple, [], []⟩
def d_is_fraction : He.DefD := ⟨("is_fraction", none), "is_fraction", "is_fraction", defArgs s_is_fraction, defBody s_is_fraction, defScope s_is_fraction, [], []⟩
def d_is_inner_share : He.DefD := ⟨("is_inner_share", none), "is_inner_share", "is_inner_share", defArgs s_is_inner_share, defBody s_is_inner_share, defScope s_is_inner_share, [], []⟩
def d_check_inner_share : He.DefD := ⟨("check_inner_share", none), "check_inner_share", "check_inner_share", defArgs s_check_inner_share, defBody s_check_inner_share, defScope s_check_inner_share, [], []⟩
def d_is_share : He.DefD := ⟨("is_share", none), "is_share", "is_share", defArgs s_is_share, defBody s_is_share, defScope s_is_share, [], []⟩
def d_check_wish : He.DefD := ⟨("check_wish", none), "check_wish", "check_wish", defArgs s_check_wish, defBody s_check_wish, defScope s_check_wish, [], []⟩
def d_powers : He.DefD := ⟨("powers", none), "powers", "powers", defArgs s_powers, defBody s_powers, defScope s_powers, [], []⟩
def d_hit_ways : He.DefD := ⟨("hit_ways", none), "hit_ways", "hit_ways", defArgs s_hit_ways, defBody s_hit_ways, defScope s_hit_ways, [], []⟩
def d_power : He.DefD := ⟨("power", none), "power", "power", defArgs s_power, defBody s_power, defScope s_power, [], []⟩
def d_surest_start : He.DefD := ⟨("surest_start", none), "surest_start", "surest_start", defArgs s_surest_start, defBody s_surest_start, defScope s_surest_start, [], []⟩
def d_is_below : He.DefD := ⟨("is_below", none), "is_below", "is_below", defArgs s_is_below, defBody s_is_below, defScope s_is_below, [], []⟩
def d_best_place : He.DefD := ⟨("best_place", none), "best_place", "best_place", defArgs s_best_place, defBody s_best_place, defScope s_best_place, [], []⟩
def d_fewest_for_place : He.DefD := ⟨("fewest_for_place", none), "fewest_for_place", "fewest_for_place", defArgs s_fewest_for_place, defBody s_fewest_for_place, defScope s_fewest_for_place, [], []⟩
def d__law_best : He.DefD := ⟨("_law_best", none), "_law_best", "_law_best", defArgs s__law_best, defBody s__law_best, defScope s__law_best, [], []⟩
def d__law_fewest : He.DefD := ⟨("_law_fewest", none), "_law_fewest", "_law_fewest", defArgs s__law_fewest, defBody s__law_fewest, defScope s__law_fewest, [], []⟩
def d__law_right : He.DefD := ⟨("_law_right", none), "_law_right", "_law_right", defArgs s__law_right, defBody s__law_right, defScope s__law_right, [], []⟩
def d__law_source : He.DefD := ⟨("_law_source", none), "_law_source", "_law_source", defArgs s__law_source, defBody s__law_source, defScope s__law_source, [], []⟩
def d_law : He.DefD := ⟨("law", none), "law", "law", defArgs s_law, defBody s_law, defScope s_law, [], []⟩
def fnL : List He.DefD := [d__law_ratio, d__law_draw, d__law_power, d__law_choose, d__law_between, d__law_wish, d__law_inner, d_is_whole, d_check_number_within, d_check_number, d_is_tuple, d_is_fraction, d_is_inner_share, d_check_inner_share, d_is_share, d_check_wish, d_powers, d_hit_ways, d_power, d_surest_start, d_is_below, d_best_place, d_fewest_for_place, d__law_best, d__law_fewest, d__law_right, d__law_source, d_law]
def faL : List He.Fa := [.glo "_law_ratio", .glo "_law_draw", .glo "_law_power", .glo "_law_choose", .glo "_law_between", .glo "_law_wish", .glo "_law_inner", .glo "is_whole", .glo "check_number_within", .glo "check_number", .glo "is_tuple", .glo "is_fraction", .glo "is_inner_share", .glo "check_inner_share", .glo "is_share", .glo "check_wish", .glo "powers", .glo "hit_ways", .glo "power", .glo "surest_start", .glo "is_below", .glo "best_place", .glo "fewest_for_place", .glo "_law_best", .glo "_law_fewest", .glo "_law_right", .glo "_law_source", .glo "law", .free "abs", .free "all", .free "divmod", .free "int", .free "len", .free "max", .free "min", .free "range", .free "repr", .free "sum", .free "tuple", .free "type", .int "_MOST_DRAWS" (40)]
def exB (K : PySem.W.Frag) : Bool := He.eqO (PySem.W.nsIn K mainGlobals "comb") (some (some (.builtin "math.comb"))) && He.eqO (PySem.W.nsIn K mainGlobals "gcd") (some (some (.builtin "math.gcd")))
abbrev R : PySem.W.OpenRow := PySem.W.OpenLaw.row PySem.Challenge.rw_anydraws_k27_whole_best_and_fewest_place
abbrev hk : PySem.W.Hook := He.hookX 4 faL fnL [] [] exB
def ob (s : PySem.W.SharedT) : He.AlX := He.obsX 4 faL fnL [] [] exB (HandSHeadRun.getT s)
theorem ob_eq (s : PySem.W.SharedT) : ob s = hk.obs s.abs := He.obsX_eq (HandSHeadRun.getT_eq s)
theorem factsX {K : PySem.W.Frag} {h : Heap} {w : World} {mg : Str → Option Value} (X : K.In h) (G : h.Ns mainGlobals mg) (c : He.SaysX faL fnL [] [] exB w h K) : Nonempty (Fx K mg) := by
  have cd : He.SaysD faL fnL K := congrArg Prod.fst c.t
  have cm := c.more
  obtain ⟨cm, cm_gcd⟩ := He.ba cm
  have cm_comb := cm
  obtain ⟨fd__law_ratio, F__law_ratio⟩ := cd.def_ 0 (d := d__law_ratio) rfl
  obtain ⟨fd__law_draw, F__law_draw⟩ := cd.def_ 1 (d := d__law_draw) rfl
  obtain ⟨fd__law_power, F__law_power⟩ := cd.def_ 2 (d := d__law_power) rfl
  obtain ⟨fd__law_choose, F__law_choose⟩ := cd.def_ 3 (d := d__law_choose) rfl
  obtain ⟨fd__law_between, F__law_between⟩ := cd.def_ 4 (d := d__law_between) rfl
  obtain ⟨fd__law_wish, F__law_wish⟩ := cd.def_ 5 (d := d__law_wish) rfl
  obtain ⟨fd__law_inner, F__law_inner⟩ := cd.def_ 6 (d := d__law_inner) rfl
  obtain ⟨fd_is_whole, F_is_whole⟩ := cd.def_ 7 (d := d_is_whole) rfl
  obtain ⟨fd_check_number_within, F_check_number_within⟩ := cd.def_ 8 (d := d_check_number_within) rfl
  obtain ⟨fd_check_number, F_check_number⟩ := cd.def_ 9 (d := d_check_number) rfl
  obtain ⟨fd_is_tuple, F_is_tuple⟩ := cd.def_ 10 (d := d_is_tuple) rfl
  obtain ⟨fd_is_fraction, F_is_fraction⟩ := cd.def_ 11 (d := d_is_fraction) rfl
  obtain ⟨fd_is_inner_share, F_is_inner_share⟩ := cd.def_ 12 (d := d_is_inner_share) rfl
  obtain ⟨fd_check_inner_share, F_check_inner_share⟩ := cd.def_ 13 (d := d_check_inner_share) rfl
  obtain ⟨fd_is_share, F_is_share⟩ := cd.def_ 14 (d := d_is_share) rfl
  obtain ⟨fd_check_wish, F_check_wish⟩ := cd.def_ 15 (d := d_check_wish) rfl
  obtain ⟨fd_powers, F_powers⟩ := cd.def_ 16 (d := d_powers) rfl
  obtain ⟨fd_hit_ways, F_hit_ways⟩ := cd.def_ 17 (d := d_hit_ways) rfl
  obtain ⟨fd_power, F_power⟩ := cd.def_ 18 (d := d_power) rfl
  obtain ⟨fd_surest_start, F_surest_start⟩ := cd.def_ 19 (d := d_surest_start) rfl
  obtain ⟨fd_is_below, F_is_below⟩ := cd.def_ 20 (d := d_is_below) rfl
  obtain ⟨fd_best_place, F_best_place⟩ := cd.def_ 21 (d := d_best_place) rfl
  obtain ⟨fd_fewest_for_place, F_fewest_for_place⟩ := cd.def_ 22 (d := d_fewest_for_place) rfl
  obtain ⟨fd__law_best, F__law_best⟩ := cd.def_ 23 (d := d__law_best) rfl
  obtain ⟨fd__law_fewest, F__law_fewest⟩ := cd.def_ 24 (d := d__law_fewest) rfl
  obtain ⟨fd__law_right, F__law_right⟩ := cd.def_ 25 (d := d__law_right) rfl
  obtain ⟨fd__law_source, F__law_source⟩ := cd.def_ 26 (d := d__law_source) rfl
  obtain ⟨fd_law, F_law⟩ := cd.def_ 27 (d := d_law) rfl
  exact ⟨{
    fd__law_ratio := fd__law_ratio,
    F__law_ratio := F__law_ratio,
    g__law_ratio := He.glo_ok X G (cd.fact 0 (f := .glo "_law_ratio") rfl),
    fd__law_draw := fd__law_draw,
    F__law_draw := F__law_draw,
    g__law_draw := He.glo_ok X G (cd.fact 1 (f := .glo "_law_draw") rfl),
    fd__law_power := fd__law_power,
    F__law_power := F__law_power,
    g__law_power := He.glo_ok X G (cd.fact 2 (f := .glo "_law_power") rfl),
    fd__law_choose := fd__law_choose,
    F__law_choose := F__law_choose,
    g__law_choose := He.glo_ok X G (cd.fact 3 (f := .glo "_law_choose") rfl),
    fd__law_between := fd__law_between,
    F__law_between := F__law_between,
    g__law_between := He.glo_ok X G (cd.fact 4 (f := .glo "_law_between") rfl),
    fd__law_wish := fd__law_wish,
    F__law_wish := F__law_wish,
    g__law_wish := He.glo_ok X G (cd.fact 5 (f := .glo "_law_wish") rfl),
    fd__law_inner := fd__law_inner,
    F__law_inner := F__law_inner,
    g__law_inner := He.glo_ok X G (cd.fact 6 (f := .glo "_law_inner") rfl),
    fd_is_whole := fd_is_whole,
    F_is_whole := F_is_whole,
    g_is_whole := He.glo_ok X G (cd.fact 7 (f := .glo "is_whole") rfl),
    fd_check_number_within := fd_check_number_within,
    F_check_number_within := F_check_number_within,
    g_check_number_within := He.glo_ok X G (cd.fact 8 (f := .glo "check_number_within") rfl),
    fd_check_number := fd_check_number,
    F_check_number := F_check_number,
    g_check_number := He.glo_ok X G (cd.fact 9 (f := .glo "check_number") rfl),
    fd_is_tuple := fd_is_tuple,
    F_is_tuple := F_is_tuple,
    g_is_tuple := He.glo_ok X G (cd.fact 10 (f := .glo "is_tuple") rfl),
    fd_is_fraction := fd_is_fraction,
    F_is_fraction := F_is_fraction,
    g_is_fraction := He.glo_ok X G (cd.fact 11 (f := .glo "is_fraction") rfl),
    fd_is_inner_share := fd_is_inner_share,
    F_is_inner_share := F_is_inner_share,
    g_is_inner_share := He.glo_ok X G (cd.fact 12 (f := .glo "is_inner_share") rfl),
    fd_check_inner_share := fd_check_inner_share,
    F_check_inner_share := F_check_inner_share,
    g_check_inner_share := He.glo_ok X G (cd.fact 13 (f := .glo "check_inner_share") rfl),
    fd_is_share := fd_is_share,
    F_is_share := F_is_share,
    g_is_share := He.glo_ok X G (cd.fact 14 (f := .glo "is_share") rfl),
    fd_check_wish := fd_check_wish,
    F_check_wish := F_check_wish,
    g_check_wish := He.glo_ok X G (cd.fact 15 (f := .glo "check_wish") rfl),
    fd_powers := fd_powers,
    F_powers := F_powers,
    g_powers := He.glo_ok X G (cd.fact 16 (f := .glo "powers") rfl),
    fd_hit_ways := fd_hit_ways,
    F_hit_ways := F_hit_ways,
    g_hit_ways := He.glo_ok X G (cd.fact 17 (f := .glo "hit_ways") rfl),
    fd_power := fd_power,
    F_power := F_power,
    g_power := He.glo_ok X G (cd.fact 18 (f := .glo "power") rfl),
    fd_surest_start := fd_surest_start,
    F_surest_start := F_surest_start,
    g_surest_start := He.glo_ok X G (cd.fact 19 (f := .glo "surest_start") rfl),
    fd_is_below := fd_is_below,
    F_is_below := F_is_below,
    g_is_below := He.glo_ok X G (cd.fact 20 (f := .glo "is_below") rfl),
    fd_best_place := fd_best_place,
    F_best_place := F_best_place,
    g_best_place := He.glo_ok X G (cd.fact 21 (f := .glo "best_place") rfl),
    fd_fewest_for_place := fd_fewest_for_place,
    F_fewest_for_place := F_fewest_for_place,
    g_fewest_for_place := He.glo_ok X G (cd.fact 22 (f := .glo "fewest_for_place") rfl),
    fd__law_best := fd__law_best,
    F__law_best := F__law_best,
    g__law_best := He.glo_ok X G (cd.fact 23 (f := .glo "_law_best") rfl),
    fd__law_fewest := fd__law_fewest,
    F__law_fewest := F__law_fewest,
    g__law_fewest := He.glo_ok X G (cd.fact 24 (f := .glo "_law_fewest") rfl),
    fd__law_right := fd__law_right,
    F__law_right := F__law_right,
    g__law_right := He.glo_ok X G (cd.fact 25 (f := .glo "_law_right") rfl),
    fd__law_source := fd__law_source,
    F__law_source := F__law_source,
    g__law_source := He.glo_ok X G (cd.fact 26 (f := .glo "_law_source") rfl),
    fd_law := fd_law,
    F_law := F_law,
    g_law := He.glo_ok X G (cd.fact 27 (f := .glo "law") rfl),
    n_abs := He.free_ok X G (cd.fact 28 (f := .free "abs") rfl),
    n_all := He.free_ok X G (cd.fact 29 (f := .free "all") rfl),
    n_divmod := He.free_ok X G (cd.fact 30 (f := .free "divmod") rfl),
    n_int := He.free_ok X G (cd.fact 31 (f := .free "int") rfl),
    n_len := He.free_ok X G (cd.fact 32 (f := .free "len") rfl),
    n_max := He.free_ok X G (cd.fact 33 (f := .free "max") rfl),
    n_min := He.free_ok X G (cd.fact 34 (f := .free "min") rfl),
    n_range := He.free_ok X G (cd.fact 35 (f := .free "range") rfl),
    n_repr := He.free_ok X G (cd.fact 36 (f := .free "repr") rfl),
    n_sum := He.free_ok X G (cd.fact 37 (f := .free "sum") rfl),
    n_tuple := He.free_ok X G (cd.fact 38 (f := .free "tuple") rfl),
    n_type := He.free_ok X G (cd.fact 39 (f := .free "type") rfl),
    m_comb := PySem.W.mg_of X G (He.eqO_ok cm_comb),
    m_gcd := PySem.W.mg_of X G (He.eqO_ok cm_gcd),
    k__MOST_DRAWS := He.int_ok X G (cd.fact 40 (f := .int "_MOST_DRAWS" (40)) rfl) }⟩
def looseL : List Str := [("DrawError" : Str), ("InvalidNumber" : Str), ("InvalidShare" : Str), ("InvalidWish" : Str), ("is_tuple" : Str), ("is_whole" : Str), ("is_fraction" : Str), ("is_share" : Str), ("is_inner_share" : Str), ("check_number" : Str), ("check_number_within" : Str), ("check_inner_share" : Str), ("check_wish" : Str), ("is_below" : Str), ("power" : Str), ("powers" : Str), ("hit_ways" : Str), ("_MOST_DRAWS" : Str), ("best_place" : Str), ("surest_start" : Str), ("fewest_for_place" : Str), ("_law_source" : Str), ("_law_draw" : Str), ("_law_ratio" : Str), ("_law_power" : Str), ("_law_choose" : Str), ("_law_inner" : Str), ("_law_between" : Str), ("_law_wish" : Str), ("_law_best" : Str), ("_law_fewest" : Str), ("_law_right" : Str)]
def lawPlace : Nat := 39
end Lw
set_option Elab.async false
set_option linter.all false
set_option maxRecDepth 100000
set_option maxHeartbeats 0
namespace Lw
open PySem PySem.Spec PyProof.Rows L2 Ly
theorem run (w : World) : HandSHeadRun.RunEqI R (PySem.W.view R.prog [0, 39]) hk ob 6000 looseL w := by
  unfold HandSHeadRun.RunEqI
  kernel_rfl
end Lw
set_option Elab.async false
set_option linter.all false
set_option maxRecDepth 100000
namespace Lw
open PySem Ly L2
theorem v_is_tuple (n m : Int) (μ : Mem) : sem_is_tuple [.v (tp n m)] μ = .ok (.v (.bool true)) μ := by
  simp [defF, sSeq, sAsg, sRet, sRetN, sIf, sDrop, sNext, mCall, mCallK, mCons, mNil, mVar, mC, mOp, mUn, mCB, mIf, mTB, mAnd, mOr, mNot, mAndV, mOrV, mNotV, oB, oInt, oSub, oAdd, oMul, oMulI, oFdiv, oMod, oCmp, guardR, tgSet, tuOf, rdOf, lsOf, daOf, dsOf, mTup, mLst, mNew, mFrz, mTyIs, tyD, fLen, fGcd, fAbs, fInt, fMin2, fMax2, sAsgG, gT, gC, gN, gE, mChain, seqOf, sem_is_tuple]
theorem v_is_whole (n : Int) (μ : Mem) : sem_is_whole [.v (.int n)] μ = .ok (.v (.bool true)) μ := by
  simp [defF, sSeq, sAsg, sRet, sRetN, sIf, sDrop, sNext, mCall, mCallK, mCons, mNil, mVar, mC, mOp, mUn, mCB, mIf, mTB, mAnd, mOr, mNot, mAndV, mOrV, mNotV, oB, oInt, oSub, oAdd, oMul, oMulI, oFdiv, oMod, oCmp, guardR, tgSet, tuOf, rdOf, lsOf, daOf, dsOf, mTup, mLst, mNew, mFrz, mTyIs, tyD, fLen, fGcd, fAbs, fInt, fMin2, fMax2, sAsgG, gT, gC, gN, gE, mChain, seqOf, sem_is_whole]
structure Frac (n m : Int) : Prop where
  pos : 0 < m
  g : Nat.gcd n.natAbs m.natAbs = 1
theorem v_is_fraction {n m : Int} (h : Frac n m) (μ : Mem) : sem_is_fraction [.v (tp n m)] μ = .ok (.v (.bool true)) μ := by
  simp [defF, sSeq, sAsg, sRet, sRetN, sIf, sDrop, sNext, mCall, mCallK, mCons, mNil, mVar, mC, mOp, mUn, mCB, mIf, mTB, mAnd, mOr, mNot, mAndV, mOrV, mNotV, oB, oInt, oSub, oAdd, oMul, oMulI, oFdiv, oMod, oCmp, guardR, tgSet, tuOf, rdOf, lsOf, daOf, dsOf, mTup, mLst, mNew, mFrz, mTyIs, tyD, fLen, fGcd, fAbs, fInt, fMin2, fMax2, sAsgG, gT, gC, gN, gE, mChain, seqOf, sem_is_fraction, v_is_tuple, v_is_whole, eqInt, h.pos, h.g]
theorem v_is_inner {n m : Int} (h : Frac n m) (h0 : 0 < n) (h1 : n < m) (μ : Mem) : sem_is_inner_share [.v (tp n m)] μ = .ok (.v (.bool true)) μ := by
  simp [defF, sSeq, sAsg, sRet, sRetN, sIf, sDrop, sNext, mCall, mCallK, mCons, mNil, mVar, mC, mOp, mUn, mCB, mIf, mTB, mAnd, mOr, mNot, mAndV, mOrV, mNotV, oB, oInt, oSub, oAdd, oMul, oMulI, oFdiv, oMod, oCmp, guardR, tgSet, tuOf, rdOf, lsOf, daOf, dsOf, mTup, mLst, mNew, mFrz, mTyIs, tyD, fLen, fGcd, fAbs, fInt, fMin2, fMax2, sAsgG, gT, gC, gN, gE, mChain, seqOf, sem_is_inner_share, v_is_fraction h, oIx, atI0, atI1, h0, h1]
theorem v_is_share {n m : Int} (h : Frac n m) (h0 : 0 ≤ n) (h1 : n ≤ m) (μ : Mem) : sem_is_share [.v (tp n m)] μ = .ok (.v (.bool true)) μ := by
  simp [defF, sSeq, sAsg, sRet, sRetN, sIf, sDrop, sNext, mCall, mCallK, mCons, mNil, mVar, mC, mOp, mUn, mCB, mIf, mTB, mAnd, mOr, mNot, mAndV, mOrV, mNotV, oB, oInt, oSub, oAdd, oMul, oMulI, oFdiv, oMod, oCmp, guardR, tgSet, tuOf, rdOf, lsOf, daOf, dsOf, mTup, mLst, mNew, mFrz, mTyIs, tyD, fLen, fGcd, fAbs, fInt, fMin2, fMax2, sAsgG, gT, gC, gN, gE, mChain, seqOf, sem_is_share, v_is_fraction h, oIx, atI0, atI1, h0, h1]
theorem v_check_inner {n m : Int} (h : Frac n m) (h0 : 0 < n) (h1 : n < m) (μ : Mem) : sem_check_inner_share [.v (tp n m)] μ = .ok (.v .none) μ := by
  simp [defF, sSeq, sAsg, sRet, sRetN, sIf, sDrop, sNext, mCall, mCallK, mCons, mNil, mVar, mC, mOp, mUn, mCB, mIf, mTB, mAnd, mOr, mNot, mAndV, mOrV, mNotV, oB, oInt, oSub, oAdd, oMul, oMulI, oFdiv, oMod, oCmp, guardR, tgSet, tuOf, rdOf, lsOf, daOf, dsOf, mTup, mLst, mNew, mFrz, mTyIs, tyD, fLen, fGcd, fAbs, fInt, fMin2, fMax2, sAsgG, gT, gC, gN, gE, mChain, seqOf, sem_check_inner_share, v_is_inner h h0 h1]
theorem v_check_wish {n m : Int} (h : Frac n m) (h0 : 0 < n) (h1 : n ≤ m) (μ : Mem) : sem_check_wish [.v (tp n m)] μ = .ok (.v .none) μ := by
  simp [defF, sSeq, sAsg, sRet, sRetN, sIf, sDrop, sNext, mCall, mCallK, mCons, mNil, mVar, mC, mOp, mUn, mCB, mIf, mTB, mAnd, mOr, mNot, mAndV, mOrV, mNotV, oB, oInt, oSub, oAdd, oMul, oMulI, oFdiv, oMod, oCmp, guardR, tgSet, tuOf, rdOf, lsOf, daOf, dsOf, mTup, mLst, mNew, mFrz, mTyIs, tyD, fLen, fGcd, fAbs, fInt, fMin2, fMax2, sAsgG, gT, gC, gN, gE, mChain, seqOf, sem_check_wish, v_is_share h (Int.le_of_lt h0) h1, oIx, atI0, eqInt, (show n ≠ 0 by omega)]
theorem v_check_number {n : Int} (h0 : 1 ≤ n) (h1 : n ≤ 40) (μ : Mem) : sem_check_number [.v (.int n), .v (.int 40)] μ = .ok (.v .none) μ := by
  have k : sem_check_number_within [.v (.int n), .v (.int 1), .v (.int 40)] μ = .ok (.v .none) μ := by
    simp [defF, sSeq, sAsg, sRet, sRetN, sIf, sDrop, sNext, mCall, mCallK, mCons, mNil, mVar, mC, mOp, mUn, mCB, mIf, mTB, mAnd, mOr, mNot, mAndV, mOrV, mNotV, oB, oInt, oSub, oAdd, oMul, oMulI, oFdiv, oMod, oCmp, guardR, tgSet, tuOf, rdOf, lsOf, daOf, dsOf, mTup, mLst, mNew, mFrz, mTyIs, tyD, fLen, fGcd, fAbs, fInt, fMin2, fMax2, sAsgG, gT, gC, gN, gE, mChain, seqOf, sem_check_number_within, v_is_whole, h0, h1]
  simp [defF, sSeq, sAsg, sRet, sRetN, sIf, sDrop, sNext, mCall, mCallK, mCons, mNil, mVar, mC, mOp, mUn, mCB, mIf, mTB, mAnd, mOr, mNot, mAndV, mOrV, mNotV, oB, oInt, oSub, oAdd, oMul, oMulI, oFdiv, oMod, oCmp, guardR, tgSet, tuOf, rdOf, lsOf, daOf, dsOf, mTup, mLst, mNew, mFrz, mTyIs, tyD, fLen, fGcd, fAbs, fInt, fMin2, fMax2, sAsgG, gT, gC, gN, gE, mChain, seqOf, sem_check_number, k]


/-! powers -/
theorem v_power {x : Int} {k : Nat} (hk : k ≤ 60) (hx : ∀ j, j ≤ k → (x ^ j).natAbs < 2 ^ 4000) (μ : Mem) : sem__law_power [.v (.int x), .v (.int k)] μ = .ok (.v (.int (x ^ k))) μ := by
  obtain ⟨ρ', μ', e, z, h1, h2⟩ := for_inv (i := 3) (body := sAsg (mOp oMul (mVar 2) (mVar 0)) (.n 2)) (intsUp 0 k) (fun j ρ μ' => ∃ z, ρ = [some (.v (.int x)), some (.v (.int k)), some (.v (.int (x ^ j))), z] ∧ μ' = μ) 0 [some (.v (.int x)), some (.v (.int k)), some (.v (.int 1)), none] μ
    (fun j d ρ μ' hd ⟨z, e1, e2⟩ => by
      obtain ⟨rfl, hj⟩ := iu_get hd
      subst e1 e2
      have s1 := sm_of (hx j (by omega))
      have s2 : Sm x = true := by have := sm_of (hx 1 (by omega)); rwa [Int.pow_one] at this
      rw [Nat.zero_add]
      refine ⟨[some (.v (.int x)), some (.v (.int k)), some (.v (.int (x ^ (j + 1)))), some (.v (.int (0 + j)))], μ', by simp [defF, sSeq, sAsg, sRet, sRetN, sIf, sDrop, sNext, mCall, mCallK, mCons, mNil, mVar, mC, mOp, mUn, mCB, mIf, mTB, mAnd, mOr, mNot, mAndV, mOrV, mNotV, oB, oInt, oSub, oAdd, oMul, oMulI, oFdiv, oMod, oCmp, guardR, tgSet, tuOf, rdOf, lsOf, daOf, dsOf, mTup, mLst, mNew, mFrz, mTyIs, tyD, fLen, fGcd, fAbs, fInt, fMin2, fMax2, sAsgG, gT, gC, gN, gE, mChain, seqOf, s1, s2, Int.pow_succ], _, rfl, rfl⟩) ⟨none, by simp, rfl⟩
  subst h1 h2
  rw [Nat.zero_add, intsUp_len] at e
  exact defF_v rfl (seq_nx (asg_n rfl) (seq_nx (for_1 (k := k) rfl (inl (by omega) (by omega)) e) (ret_v rfl))) (List.take_length ..)
theorem v_power2 {x : Int} {k : Nat} (hk : k ≤ 60) (hx : ∀ j, j ≤ k → (x ^ j).natAbs < 2 ^ 4000) (μ : Mem) : sem_power [.v (.int x), .v (.int k)] μ = .ok (.v (.int (x ^ k))) μ := v_power hk hx μ
/-! binomials -/
open Steck in
theorem ch_next (n k : Nat) (h : k ≤ n) : (ch n k : Int) * ((n : Int) - k) / ((k : Int) + 1) = ch n (k + 1) := by
  have e : (k + 1) * (ch n k + ch n (k + 1)) = (n + 1) * ch n k := by rw [← ch_succ]; exact ch_abs n k
  have e2 : (ch n k : Int) * ((n : Int) - k) = (ch n (k + 1) : Int) * ((k : Int) + 1) := by
    have e3 : ((k : Int) + 1) * ((ch n k : Int) + ch n (k + 1)) = ((n : Int) + 1) * ch n k := by exact_mod_cast e
    have e4 : ((k : Int) + 1) * ((ch n k : Int) + ch n (k + 1)) = ((k : Int) + 1) * ch n k + ((k : Int) + 1) * ch n (k + 1) := Int.mul_add _ _ _
    have e5 : (ch n k : Int) * ((n : Int) - k) = ((n : Int) + 1) * ch n k - ((k : Int) + 1) * ch n k := by
      rw [← Int.sub_mul, Int.mul_comm]
      congr 1
      omega
    rw [e5, ← e3, e4, Int.mul_comm ((k : Int) + 1) (ch n (k + 1) : Int)]
    omega
  rw [e2]
  exact Int.mul_ediv_cancel _ (by omega)
theorem ch_le : ∀ n k : Nat, Steck.ch n k ≤ 2 ^ n
  | 0, 0 => Nat.le_refl _
  | 0, _ + 1 => Nat.zero_le _
  | n + 1, 0 => by rw [Steck.ch_zero]; exact Nat.one_le_two_pow
  | n + 1, k + 1 => by
    rw [Steck.ch_succ, Nat.pow_succ]
    have := ch_le n k
    have := ch_le n (k + 1)
    omega
theorem ch_sm {n k : Nat} (h : n ≤ 60) : ((Steck.ch n k : Nat) : Int).natAbs < 2 ^ 3000 := by
  rw [Int.natAbs_natCast]
  exact Nat.lt_of_le_of_lt (ch_le n k) (Nat.pow_lt_pow_right (by omega) (by omega))

theorem v_choose {n k : Nat} (hn : n ≤ 60) (hk : k ≤ n) (μ : Mem) : sem__law_choose [.v (.int n), .v (.int k)] μ = .ok (.v (.int (Steck.ch n k : Nat))) μ := by
  obtain ⟨ρ', μ', e, z, h1, h2⟩ := for_inv (i := 3) (body := sAsg (mOp oFdiv (mOp oMul (mVar 2) (mOp oSub (mVar 0) (mVar 3))) (mOp oAdd (mVar 3) (mC (.int 1)))) (.n 2)) (intsUp 0 k) (fun j ρ μ' => ∃ z, ρ = [some (.v (.int n)), some (.v (.int k)), some (.v (.int (Steck.ch n j : Nat))), z] ∧ μ' = μ) 0 [some (.v (.int n)), some (.v (.int k)), some (.v (.int 1)), none] μ
    (fun j d ρ μ' hd ⟨z, e1, e2⟩ => by
      obtain ⟨rfl, hj⟩ := iu_get hd
      subst e1 e2
      rw [Nat.zero_add]
      have s1 : Sm (Steck.ch n j : Nat) = true := sm_of (Nat.lt_of_lt_of_le (ch_sm hn) (Nat.pow_le_pow_right (by omega) (by omega)))
      have s2 : Sm ((n : Int) - j) = true := sm_of (Nat.lt_of_lt_of_le (show ((n : Int) - j).natAbs < 2 ^ 6 by omega) (Nat.pow_le_pow_right (by omega) (by omega)))
      have s3 : (0 : Int) < (j : Int) + 1 := by omega
      have s4 : ((j : Int) + 1).natAbs.log2 < 9000 := by
        have : ((j : Int) + 1).natAbs.log2 ≤ ((j : Int) + 1).natAbs := Nat.log2_le_self _
        omega
      have s5 := ch_next n j (by omega)
      refine ⟨[some (.v (.int n)), some (.v (.int k)), some (.v (.int (Steck.ch n (j + 1) : Nat))), some (.v (.int (0 + j)))], μ', by simp [defF, sSeq, sAsg, sRet, sRetN, sIf, sDrop, sNext, mCall, mCallK, mCons, mNil, mVar, mC, mOp, mUn, mCB, mIf, mTB, mAnd, mOr, mNot, mAndV, mOrV, mNotV, oB, oInt, oSub, oAdd, oMul, oMulI, oFdiv, oMod, oCmp, guardR, tgSet, tuOf, rdOf, lsOf, daOf, dsOf, mTup, mLst, mNew, mFrz, mTyIs, tyD, fLen, fGcd, fAbs, fInt, fMin2, fMax2, sAsgG, gT, gC, gN, gE, mChain, seqOf, s1, s2, s3, s4, s5], _, rfl, rfl⟩) ⟨none, by simp [Steck.ch_zero], rfl⟩
  subst h1 h2
  rw [Nat.zero_add, intsUp_len] at e
  exact defF_v rfl (seq_nx (asg_n rfl) (seq_nx (for_1 (k := k) rfl (inl (by omega) (by omega)) e) (ret_v rfl))) (List.take_length ..)
end Lw
set_option Elab.async false
set_option linter.all false
set_option maxRecDepth 100000
set_option exponentiation.threshold 5000
namespace Lw
open PySem Ly L2
/-! sizes -/
theorem sm_le {x : Int} (e : Nat) (h : x.natAbs ≤ 2 ^ e) (he : e < 4000) : Sm x = true := sm_of (Nat.lt_of_le_of_lt h (Nat.pow_lt_pow_right (by omega) he))
theorem mul_sz {x y : Int} {a b : Nat} (hx : x.natAbs ≤ 2 ^ a) (hy : y.natAbs ≤ 2 ^ b) : (x * y).natAbs ≤ 2 ^ (a + b) := by
  rw [Int.natAbs_mul, Nat.pow_add]; exact Nat.mul_le_mul hx hy
theorem pow_sz {x : Int} {j : Nat} (h0 : 0 ≤ x) (h1 : x ≤ 32) (hj : j ≤ 60) : (x ^ j).natAbs ≤ 2 ^ 300 := by
  rw [Int.natAbs_pow]
  refine Nat.le_trans (Nat.pow_le_pow_left (show x.natAbs ≤ 2 ^ 5 by omega) j) ?_
  rw [← Nat.pow_mul]
  exact Nat.pow_le_pow_right (by omega) (by omega)
theorem pow_sz' {x : Int} {j : Nat} (h0 : 0 ≤ x) (h1 : x ≤ 32) (hj : j ≤ 60) : (x ^ j).natAbs < 2 ^ 4000 := Nat.lt_of_le_of_lt (pow_sz h0 h1 hj) (Nat.pow_lt_pow_right (by omega) (by omega))
theorem ch_sz {n k : Nat} (h : n ≤ 60) : ((Steck.ch n k : Nat) : Int).natAbs ≤ 2 ^ 60 := by
  rw [Int.natAbs_natCast]
  exact Nat.le_trans (ch_le n k) (Nat.pow_le_pow_right (by omega) h)
/-- the share of k hits -/
def T (n : Nat) (p r : Int) (k : Nat) : Int := (Steck.ch n k : Nat) * p ^ k * r ^ (n - k)
structure Q (p m : Int) : Prop where
  fr : Frac p m
  p0 : 0 < p
  pm : p < m
  m1 : m ≤ 30
section
variable {p m : Int} (q : Q p m)
theorem v_between {n a len : Nat} (q : Q p m) (hn : n ≤ 40) (hl : a + len ≤ n + 1) (μ : Mem) :
    sem__law_between [.v (.int n), .v (tp p m), .v (.int a), .v (.int ((a + len : Nat) : Int))] μ = .ok (.v (.int (Steck.sum len fun t => T n p (m - p) (a + t)))) μ := by
  have q0 := q.p0; have q1 := q.pm; have q2 := q.m1
  obtain ⟨ρ', μ', e, z, h1, h2⟩ := for_inv (i := 5) (body := sAsg (mOp oAdd (mVar 4) (mOp oMul (mOp oMul (mCall sem__law_choose (mCons (mVar 0) (mCons (mVar 5) mNil))) (mCall sem__law_power (mCons (mOp oIx (mVar 1) (mC (.int 0))) (mCons (mVar 5) mNil)))) (mCall sem__law_power (mCons (mOp oSub (mOp oIx (mVar 1) (mC (.int 1))) (mOp oIx (mVar 1) (mC (.int 0)))) (mCons (mOp oSub (mVar 0) (mVar 5)) mNil))))) (.n 4)) (intsUp a len)
    (fun j ρ μ' => ∃ z, ρ = [some (.v (.int n)), some (.v (tp p m)), some (.v (.int a)), some (.v (.int ((a + len : Nat) : Int))), some (.v (.int (Steck.sum j fun t => T n p (m - p) (a + t)))), z] ∧ μ' = μ) 0
    [some (.v (.int n)), some (.v (tp p m)), some (.v (.int a)), some (.v (.int ((a + len : Nat) : Int))), some (.v (.int 0)), none] μ
    (fun j d ρ μ' hd ⟨z, e1, e2⟩ => by
      obtain ⟨rfl, hj⟩ := iu_get hd
      subst e1 e2
      rw [Nat.zero_add, ← Int.natCast_add]
      have c1 := v_choose (n := n) (k := a + j) (by omega) (by omega) μ'
      have c2 := v_power (x := p) (k := a + j) (by omega) (fun i hi => pow_sz' (by omega) (by omega) (by omega)) μ'
      have c3 := v_power (x := m - p) (k := n - (a + j)) (by omega) (fun i hi => pow_sz' (by omega) (by omega) (by omega)) μ'
      have e3 : (n : Int) - ((a + j : Nat) : Int) = ((n - (a + j) : Nat) : Int) := by omega
      have s1 := sm_le 60 (ch_sz (n := n) (k := a + j) (by omega)) (by omega)
      have s2 := sm_le 300 (pow_sz (x := p) (j := a + j) (by omega) (by omega) (by omega)) (by omega)
      have s3 := sm_le 300 (pow_sz (x := m - p) (j := n - (a + j)) (by omega) (by omega) (by omega)) (by omega)
      have s4 := sm_le 360 (mul_sz (ch_sz (n := n) (k := a + j) (by omega)) (pow_sz (x := p) (j := a + j) (by omega) (by omega) (by omega))) (by omega)
      refine ⟨[some (.v (.int n)), some (.v (tp p m)), some (.v (.int a)), some (.v (.int ((a + len : Nat) : Int))), some (.v (.int (Steck.sum (j + 1) fun t => T n p (m - p) (a + t)))), some (.v (.int ((a + j : Nat) : Int)))], μ', ?_, _, rfl, rfl⟩
      have e4 : (Steck.sum (j + 1) fun t => T n p (m - p) (a + t)) = (Steck.sum j fun t => T n p (m - p) (a + t)) + (Steck.ch n (a + j) : Nat) * p ^ (a + j) * (m - p) ^ (n - (a + j)) := rfl
      rw [e4]
      simp only [sAsg, mOp, mVar, mCall, mCons, mNil, mC, List.set_cons_zero, List.set_cons_succ, List.getElem?_cons_zero, List.getElem?_cons_succ, Res.bind_ok, c1, oIx, tuOf, atI0, atI1, c2, oSub, oInt, e3, c3, oMul, oMulI, guardR, s1, s2, s3, s4, Bool.and_self, if_true, oAdd, Res.out_ok, tgSet]) ⟨none, by simp [Steck.sum], rfl⟩
  subst h1 h2
  rw [Nat.zero_add, intsUp_len] at e
  have e5 : (((a + len : Nat) : Int) - (a : Int)).toNat = len := by omega
  have e6 : ¬ ((n : Int) + 1 < ((a + len : Nat) : Int)) := by omega
  refine defF_v rfl (seq_nx (asg_n rfl) (seq_nx (for_2 (lo := a) (hi := ((a + len : Nat) : Int)) (k := len) ?_ (inl (by omega) (by omega)) (inl (by omega) (by omega)) e5 e) (ret_v rfl))) (List.take_length ..)
  simp only [mCons, mNil, mVar, mCB, mC, mOp, List.map_cons, List.map_nil, List.cons_append, List.nil_append, List.length_cons, List.length_nil, List.set_cons_zero, List.set_cons_succ, List.getElem?_cons_zero, List.getElem?_cons_succ, Res.bind_ok, oAdd, fMin2, if_neg e6]
end
end Lw
set_option Elab.async false
set_option linter.all false
set_option maxRecDepth 100000
set_option exponentiation.threshold 5000
namespace Lw
open PySem Ly L2
theorem mem_get (μ : Mem) (x : Option (List PyData)) : (μ ++ [x])[μ.length]? = some x := by simp
theorem mem_set (μ : Mem) (x y : Option (List PyData)) : (μ ++ [x]).set μ.length y = μ ++ [y] := by simp
theorem mem_take (μ : Mem) (x : Option (List PyData)) : (μ ++ [x]).take μ.length = μ := by simp
def pws (x : Int) (c : Nat) : List PyData := (List.range c).map fun i => .int (x ^ i)
theorem pws_len (x : Int) (c : Nat) : (pws x c).length = c := by simp [pws]
theorem pws_succ (x : Int) (c : Nat) : pws x (c + 1) = pws x c ++ [.int (x ^ c)] := by simp [pws, List.range_succ]
theorem atI_nat {ds : List PyData} {k : Nat} (h : k < ds.length) : atI ds (k : Int) = ds[k]? := by
  unfold atI ixN
  rw [if_pos (Int.natCast_nonneg k), if_pos (by omega)]
  simp
theorem pws_at {x : Int} {c k : Nat} (h : k < c) : atI (pws x c) (k : Int) = some (.int (x ^ k)) := by
  rw [atI_nat (by rw [pws_len]; exact h)]
  simp [pws, h]
theorem pws_last (x : Int) (c : Nat) : atI (pws x (c + 1)) (-1) = some (.int (x ^ c)) := by
  unfold atI ixN
  rw [pws_len, if_neg (by omega), if_pos (by omega)]
  have e : ((-1 : Int) + ((c + 1 : Nat) : Int)).toNat = c := by omega
  have e2 : (((c + 1 : Nat) : Int) + (-1 : Int)).toNat = c := by omega
  simp only [Option.bind_some]
  first | rw [e] | rw [e2]
  simp [pws]
theorem v_powers {x : Int} {n : Nat} (h0 : 0 ≤ x) (h1 : x ≤ 32) (hn : n ≤ 40) (μ : Mem) : sem_powers [.v (.int x), .v (.int n)] μ = .ok (.v (.list (pws x (n + 1)))) μ := by
  obtain ⟨ρ', μ', e, z, h2, h3⟩ := for_inv (i := 3) (body := sDrop (mBM fAppend (mVar 2) (mCons (mOp oMul (mOp oIx (mVar 2) (mUn fNeg (mC (.int 1)))) (mVar 0)) mNil))) (intsUp 0 n)
    (fun j ρ μ' => ∃ z, ρ = [some (.v (.int x)), some (.v (.int n)), some (.o μ.length), z] ∧ μ' = μ ++ [some (pws x (j + 1))]) 0 [some (.v (.int x)), some (.v (.int n)), some (.o μ.length), none] (μ ++ [some [.int 1]])
    (fun j d ρ μ' hd ⟨z, e1, e2⟩ => by
      obtain ⟨rfl, hj⟩ := iu_get hd
      subst e1 e2
      rw [Nat.zero_add]
      have s1 := sm_le 300 (pow_sz (x := x) (j := j) (by omega) (by omega) (by omega)) (by omega)
      have s2 : Sm x = true := sm_le 5 (by omega) (by omega)
      have e4 : pws x (j + 1 + 1) = pws x (j + 1) ++ [.int (x ^ j * x)] := by rw [pws_succ, Int.pow_succ]
      have hc : (pws x (j + 1)).length < capN := by rw [pws_len]; unfold capN; omega
      refine ⟨[some (.v (.int x)), some (.v (.int n)), some (.o μ.length), some (.v (.int (0 + j)))], μ ++ [some (pws x (j + 1 + 1))], ?_, _, rfl, rfl⟩
      rw [e4]
      simp only [sDrop, mBM, isLs, mOp, mVar, mCons, mNil, mC, mUn, fNeg, List.set_cons_zero, List.set_cons_succ, List.getElem?_cons_zero, List.getElem?_cons_succ, Res.bind_ok, rdOf, lsOf, mem_get, oIx, tuOf, pws_last, oMul, oMulI, oInt, guardR, s1, s2, Bool.and_self, if_true, fAppend, hc, mem_set, Res.out_ok, Option.isSome]) ⟨none, rfl, by simp [pws]⟩
  subst h2 h3
  rw [Nat.zero_add, intsUp_len] at e
  have g : (1 : Nat) ≤ capN := by unfold capN; omega
  refine defF_v rfl (seq_nx (ρ1 := [some (.v (.int x)), some (.v (.int n)), some (.o μ.length), none]) (asg_n (s := .o μ.length) ?_) (seq_nx (for_1 (k := n) rfl (inl (by omega) (by omega)) e) (ret_v (s := .v (.list (pws x (n + 1)))) (μ1 := μ ++ [none]) ?_))) (mem_take ..)
  · simp only [mNew, mCons, mNil, mC, Res.bind_ok, dsOf, Option.map_some, List.length_cons, List.length_nil, guardR, g, decide_true, if_true, Nat.zero_add]
  · simp only [mFrz, List.getElem?_cons_zero, List.getElem?_cons_succ, mem_get, mem_set]
/-- a comprehension over a range that lets the memory be -/
theorem lc_ix {i : Nat} {elt : ME} {ρ : Ro} {μ : Mem} {g : Nat → PyData} {lo : Int} {c : Nat} (hc : c ≤ capN) (h : ∀ k, k < c → elt (ρ.set i (some (.v (.int (lo + k))))) μ = .ok (.v (g k)) μ) :
    lcGo (.n i) mYes elt [] ρ (intsUp lo c) [] μ = .ok ((List.range c).map g) μ := by
  have := lc_run (i := i) (elt := elt) (ρ := ρ) (μ := μ) (f := fun d => match d with | .int j => g (j - lo).toNat | _ => .none) (intsUp lo c) [] (fun d hd => by
    obtain ⟨k, hk, rfl⟩ := List.mem_map.mp hd
    have e : (lo + (k : Int) - lo).toNat = k := by omega
    rw [h k (by simpa using hk)]
    simp only [e]) (by rw [intsUp_len]; simpa using hc)
  rw [this, List.nil_append]
  congr 1
  unfold intsUp
  rw [List.map_map]
  refine List.map_congr_left fun k hk => ?_
  have e : (lo + (k : Int) - lo).toNat = k := by omega
  simp only [Function.comp, e]
theorem lc_at {a : MA} {i c : Nat} {elt : ME} {ρ : Ro} {μ : Mem} {own : List Nat} {g : Nat → PyData} (h : a ρ μ = .ok [.v (.int (c : Int))] μ) (hi : inLine (c : Int) = true) (hc : c ≤ capN)
    (hg : ∀ k : Nat, k < c → elt ((wipeR ρ own).set i (some (.v (.int k)))) μ = .ok (.v (g k)) μ) : mLc (mIR1 a) (.n i) mYes elt own ρ μ = .ok (.v (.list ((List.range c).map g))) μ := by
  unfold mLc lcRun
  rw [mIR1_at h hi]
  simp only [Res.bind_ok]
  rw [lc_ix hc fun k hk => by rw [Int.zero_add]; exact hg k hk]
  rfl
/-- mcComb is the binomial, up to 40 -/
def chF (n : Nat) : Nat → Int
  | 0 => 1
  | k + 1 => chF n k * ((n : Int) - k) / ((k : Int) + 1)
theorem chF_eq (n : Nat) : ∀ k, k ≤ n → chF n k = (Steck.ch n k : Nat)
  | 0, _ => by rw [Steck.ch_zero]; rfl
  | k + 1, h => by
    unfold chF
    rw [chF_eq n k (by omega)]
    exact ch_next n k (by omega)
theorem comb_tab : ((List.range 41).all fun n => (List.range (n + 1)).all fun k => decide (PySem.W.mcComb n k = chF n k)) = true := by decide +kernel
theorem comb_ch {n k : Nat} (hn : n ≤ 40) (hk : k ≤ n) : PySem.W.mcComb n k = (Steck.ch n k : Nat) := by
  have h1 := List.all_eq_true.mp comb_tab n (by simp; omega)
  have h2 := List.all_eq_true.mp h1 k (by simp; omega)
  rw [of_decide_eq_true h2, chF_eq n k hk]
def ways (n : Nat) (p r : Int) : List PyData := (List.range (n + 1)).map fun k => .int (T n p r k)
theorem v_hit_ways {p m : Int} {n : Nat} (q : Q p m) (hn : n ≤ 40) (μ : Mem) : sem_hit_ways [.v (.int n), .v (tp p m)] μ = .ok (.v (.list (ways n p (m - p)))) μ := by
  have q0 := q.p0; have q1 := q.pm; have q2 := q.m1
  have p1 := v_powers (x := p) (n := n) (by omega) (by omega) hn μ
  have p2 := v_powers (x := m - p) (n := n) (by omega) (by omega) hn μ
  have e0 : (n : Int) + 1 = ((n + 1 : Nat) : Int) := by omega
  refine defF_v rfl (seq_nx (ρ1 := [some (.v (.int n)), some (.v (tp p m)), some (.v (.list (pws p (n + 1)))), none, none]) (asg_n (s := .v (.list (pws p (n + 1)))) (μ1 := μ) ?_)
    (seq_nx (ρ1 := [some (.v (.int n)), some (.v (tp p m)), some (.v (.list (pws p (n + 1)))), some (.v (.list (pws (m - p) (n + 1)))), none]) (asg_n (s := .v (.list (pws (m - p) (n + 1)))) (μ1 := μ) ?_) (ret_v (lc_at (c := n + 1) ?_ (inl (by omega) (by omega)) (by unfold capN; omega) fun k hk => ?_)))) (List.take_length ..)
  · simp only [mCall, mCons, mNil, mOp, mVar, mC, oIx, tuOf, atI0, List.map_cons, List.map_nil, List.cons_append, List.nil_append, List.getElem?_cons_zero, List.getElem?_cons_succ, Res.bind_ok, p1]
  · simp only [mCall, mCons, mNil, mOp, mVar, mC, oIx, tuOf, atI0, atI1, oSub, oInt, List.map_cons, List.map_nil, List.cons_append, List.nil_append, List.getElem?_cons_zero, List.getElem?_cons_succ, Res.bind_ok, p2]
  · simp only [mCons, mNil, mOp, mVar, mC, oAdd, List.getElem?_cons_zero, List.getElem?_cons_succ, Res.bind_ok, e0]
  · have c1 := comb_ch hn (show k ≤ n by omega)
    have e3 : (n : Int) - (k : Int) = ((n - k : Nat) : Int) := by omega
    have g1 : (0 : Int) ≤ n := by omega
    have g2 : (0 : Int) ≤ k := by omega
    have g3 : (n : Int) ≤ 9000 := by omega
    have a1 := pws_at (x := p) (show k < n + 1 by omega)
    have a2 := pws_at (x := m - p) (show n - k < n + 1 by omega)
    have s1 := sm_le 60 (ch_sz (n := n) (k := k) (by omega)) (by omega)
    have s2 := sm_le 300 (pow_sz (x := p) (j := k) (by omega) (by omega) (by omega)) (by omega)
    have s3 := sm_le 300 (pow_sz (x := m - p) (j := n - k) (by omega) (by omega) (by omega)) (by omega)
    have s4 := sm_le 360 (mul_sz (ch_sz (n := n) (k := k) (by omega)) (pow_sz (x := p) (j := k) (by omega) (by omega) (by omega))) (by omega)
    show mOp oMul (mOp oMul (mCB fComb (mCons (mVar 0) (mCons (mVar 4) mNil))) (mOp oIx (mVar 2) (mVar 4))) (mOp oIx (mVar 3) (mOp oSub (mVar 0) (mVar 4))) [some (.v (.int n)), some (.v (tp p m)), some (.v (.list (pws p (n + 1)))), some (.v (.list (pws (m - p) (n + 1)))), some (.v (.int k))] μ = _
    simp only [mCons, mNil, mOp, mVar, mC, mCB, fComb, oIx, tuOf, rdOf, lsOf, oSub, oInt, oMul, oMulI, guardR, List.getElem?_cons_zero, List.getElem?_cons_succ, Res.bind_ok, c1, e3, g1, g2, g3, a1, a2, s1, s2, s3, s4, decide_true, Bool.and_self, if_true]
    rfl
end Lw
set_option Elab.async false
set_option linter.all false
set_option maxRecDepth 100000
set_option exponentiation.threshold 5000
namespace Lw
open PySem Ly L2
/-- the sum over len counts from i on -/
def bw (n : Nat) (p r : Int) (len i : Nat) : Int := Steck.sum len fun t => T n p r (i + t)
theorem cut_at {ds : List PyData} {i len : Nat} (h : i + len ≤ ds.length) : cutD ds (some (i : Int)) (some ((i + len : Nat) : Int)) = (ds.drop i).take len := by
  unfold cutD
  rw [HT.sIx_nat, HT.sIx_nat, Nat.min_eq_left h, Nat.min_eq_left (show i ≤ ds.length by omega), Nat.add_sub_cancel_left]
theorem ways_cut {n : Nat} {p r : Int} {i len : Nat} (h : i + len ≤ n + 1) : ((ways n p r).drop i).take len = (List.range len).map fun t => .int (T n p r (i + t)) := by
  apply List.ext_getElem?
  intro j
  by_cases hj : j < len
  · rw [List.getElem?_take_of_lt hj, List.getElem?_drop]
    simp [ways, hj, show i + j < n + 1 by omega]
  · rw [List.getElem?_take_eq_none (by omega)]
    simp [hj]
theorem ints_map (f : Nat → Int) : ∀ l : List Nat, intsOf (l.map fun t => PyData.int (f t)) = some (l.map f)
  | [] => rfl
  | a :: l => by simp [intsOf, ints_map f l]
theorem sum_range (f : Nat → Int) : ∀ c, ((List.range c).map f).sum = Steck.sum c f
  | 0 => rfl
  | c + 1 => by
    rw [List.range_succ, List.map_append, List.sum_append, sum_range f c]
    simp [Steck.sum]
/-- the first greatest of f 0 .. f k -/
def fst (f : Nat → Int) : Nat → Nat
  | 0 => 0
  | k + 1 => if f (fst f k) < f (k + 1) then k + 1 else fst f k
theorem fst_le (f : Nat → Int) : ∀ k, fst f k ≤ k
  | 0 => Nat.le_refl _
  | k + 1 => by
    unfold fst
    split
    · exact Nat.le_refl _
    · exact Nat.le_succ_of_le (fst_le f k)
theorem fst_max (f : Nat → Int) : ∀ k i, i ≤ k → f i ≤ f (fst f k)
  | 0, i, h => by rw [show i = 0 by omega]; exact Int.le_refl _
  | k + 1, i, h => by
    unfold fst
    by_cases e : i = k + 1
    · subst e; split <;> omega
    · have := fst_max f k i (by omega)
      split <;> omega
theorem fst_first (f : Nat → Int) : ∀ k i, i < fst f k → f i < f (fst f k)
  | 0, i, h => by cases h
  | k + 1, i, h => by
    unfold fst at h ⊢
    split at h
    · rename_i c
      rw [if_pos c]
      have := fst_max f k i (by omega)
      omega
    · rename_i c
      rw [if_neg c]
      exact fst_first f k i h
theorem maxI_fst (f : Nat → Int) (k : Nat) : maxI ((List.range (k + 1)).map f) = f (fst f k) := by
  have hne : 0 < ((List.range (k + 1)).map f).length := by simp
  obtain ⟨g1, g2⟩ := maxI_mem hne
  obtain ⟨i, hi, e⟩ := List.mem_map.mp g1
  have h1 := fst_max f k i (by have := List.mem_range.mp hi; omega)
  have h2 := g2 (f (fst f k)) (List.mem_map.mpr ⟨_, List.mem_range.mpr (by have := fst_le f k; omega), rfl⟩)
  omega
theorem idx_fst (f : Nat → Int) (k : Nat) : ((List.range (k + 1)).map f).idxOf? (f (fst f k)) = some (fst f k) := by
  have hl := fst_le f k
  have h0 : ((List.range (k + 1)).map f).idxOf? (f (fst f k)) = ((List.range (k + 1)).map f).findIdx? (· == f (fst f k)) := rfl
  rw [h0, List.findIdx?_eq_some_iff_getElem]
  refine ⟨by simp; omega, by simp, fun j hj => ?_⟩
  have := fst_first f k j hj
  simp
  omega
theorem v_surest {p m : Int} {n k : Nat} (q : Q p m) (hn : n ≤ 40) (hk : k < n) (μ : Mem) :
    sem_surest_start [.v (.list (ways n p (m - p))), .v (.int ((1 + k : Nat) : Int))] μ = .ok (.v (tp (fst (bw n p (m - p) (1 + k)) (n - k)) (bw n p (m - p) (1 + k) (fst (bw n p (m - p) (1 + k)) (n - k))))) μ := by
  have hw : (ways n p (m - p)).length = n + 1 := by simp [ways]
  have e1 : ((n + 1 : Nat) : Int) - ((1 + k : Nat) : Int) + 1 = ((n - k + 1 : Nat) : Int) := by omega
  refine defF_v rfl (seq_nx (ρ1 := [some (.v (.list (ways n p (m - p)))), some (.v (.int ((1 + k : Nat) : Int))), some (.v (.list ((List.range (n - k + 1)).map fun i => .int (bw n p (m - p) (1 + k) i)))), none, none]) (asg_n (μ1 := μ) (lc_at (c := n - k + 1) ?_ (inl (by omega) (by omega)) (by unfold capN; omega) fun i hi => ?_))
    (seq_nx (ρ1 := [some (.v (.list (ways n p (m - p)))), some (.v (.int ((1 + k : Nat) : Int))), some (.v (.list ((List.range (n - k + 1)).map fun i => .int (bw n p (m - p) (1 + k) i)))), some (.v (.int (bw n p (m - p) (1 + k) (fst (bw n p (m - p) (1 + k)) (n - k))))), none]) (asg_n (s := .v (.int (bw n p (m - p) (1 + k) (fst (bw n p (m - p) (1 + k)) (n - k))))) (μ1 := μ) ?_) (ret_v ?_))) (List.take_length ..)
  · simp only [mCons, mNil, mOp, mVar, mC, mCB, fLen, seqOf, tuOf, rdOf, lsOf, oSub, oInt, oAdd, List.map_cons, List.map_nil, List.cons_append, List.nil_append, List.getElem?_cons_zero, List.getElem?_cons_succ, Res.bind_ok, hw, e1]
  · have e2 : (i : Int) + ((1 + k : Nat) : Int) = ((i + (1 + k) : Nat) : Int) := by omega
    show mCB fSum (mCons (mSl (mVar 0) (mPart (mVar 4)) (mPart (mOp oAdd (mVar 4) (mVar 1)))) mNil) [some (.v (.list (ways n p (m - p)))), some (.v (.int ((1 + k : Nat) : Int))), none, none, some (.v (.int i))] μ = _
    simp only [mCons, mNil, mOp, mVar, mC, mCB, mSl, mPart, oSl, fSum, tuOf, rdOf, lsOf, oAdd, List.getElem?_cons_zero, List.getElem?_cons_succ, Res.bind_ok, e2, cut_at (show i + (1 + k) ≤ (ways n p (m - p)).length by omega), ways_cut (n := n) (p := p) (r := m - p) (show i + (1 + k) ≤ n + 1 by omega), Option.bind_some, ints_map, sum_range]
    rfl
  · have g : 0 < n - k + 1 := by omega
    simp only [mCons, mNil, mVar, mCB, fMax, rdOf, lsOf, List.getElem?_cons_zero, List.getElem?_cons_succ, Res.bind_ok, Option.bind_some, ints_map, maxI_fst, guardR, List.length_map, List.length_range, g, decide_true, if_true]
  · have g : (2 : Nat) ≤ capN := by unfold capN; omega
    simp only [mCons, mNil, mVar, mBM, isLs, fIndex, mTup, dsOf, rdOf, lsOf, List.getElem?_cons_zero, List.getElem?_cons_succ, Res.bind_ok, Option.bind_some, Option.map_some, Option.isSome, ints_map, idx_fst, guardR, List.length_cons, List.length_nil, Nat.zero_add, g, decide_true, if_true]
end Lw
set_option Elab.async false
set_option linter.all false
set_option maxRecDepth 100000
set_option exponentiation.threshold 5000
namespace Lw
open PySem Ly L2
theorem v_is_below {a b c d : Int} (s1 : Sm a = true) (s2 : Sm b = true) (s3 : Sm c = true) (s4 : Sm d = true) (μ : Mem) : sem_is_below [.v (tp a b), .v (tp c d)] μ = .ok (.v (.bool (decide (a * d < c * b)))) μ := by
  refine defF_v rfl (ret_v (μ1 := μ) ?_) (List.take_length ..)
  simp only [mOp, mVar, mC, oIx, tuOf, atI0, atI1, oMul, oMulI, oInt, guardR, oCmp, List.map_cons, List.map_nil, List.cons_append, List.nil_append, List.getElem?_cons_zero, List.getElem?_cons_succ, Res.bind_ok, s1, s2, s3, s4, Bool.and_self, if_true]
structure Wi (u v : Int) : Prop where
  fr : Frac u v
  u0 : 0 < u
  uv : u ≤ v
  vs : v.natAbs ≤ 2 ^ 300
theorem Wi.us {u v : Int} (w : Wi u v) : u.natAbs ≤ 2 ^ 300 := by
  have := w.u0; have := w.uv; have := w.vs
  omega
theorem T_sz {n k : Nat} {p m : Int} (q : Q p m) (hn : n ≤ 60) (hk : k ≤ 60) : (T n p (m - p) k).natAbs ≤ 2 ^ 660 := by
  have q0 := q.p0; have q1 := q.pm; have q2 := q.m1
  exact mul_sz (mul_sz (ch_sz hn) (pow_sz (by omega) (by omega) (by omega))) (pow_sz (by omega) (by omega) (by omega))
theorem bw_sz {n : Nat} {p m : Int} (q : Q p m) (hn : n ≤ 60) : ∀ {len i : Nat}, len + i ≤ 60 → (bw n p (m - p) len i).natAbs ≤ len * 2 ^ 660
  | 0, i, _ => by simp [bw, Steck.sum]
  | len + 1, i, h => by
    have ih := bw_sz q hn (len := len) (i := i) (by omega)
    have t := T_sz (k := i + len) q hn (by omega)
    have e : bw n p (m - p) (len + 1) i = bw n p (m - p) len i + T n p (m - p) (i + len) := rfl
    rw [e, Nat.succ_mul]
    exact Nat.le_trans (Int.natAbs_add_le _ _) (Nat.add_le_add ih t)
theorem bw_sm {n : Nat} {p m : Int} (q : Q p m) (hn : n ≤ 60) {len i : Nat} (h : len + i ≤ 60) : Sm (bw n p (m - p) len i) = true := by
  refine sm_le 666 (Nat.le_trans (bw_sz q hn h) ?_) (by omega)
  rw [show (666 : Nat) = 6 + 660 from rfl, Nat.pow_add]
  exact Nat.mul_le_mul_right _ (by omega)
/-- the surest start of a stretch of 1 + k places, its ways -/
def F (n : Nat) (p r : Int) (k : Nat) : Nat := fst (bw n p r (1 + k)) (n - k)
def B (n : Nat) (p r : Int) (k : Nat) : Int := bw n p r (1 + k) (F n p r k)
def cB (n : Nat) (p m u v : Int) (k : Nat) : Bool := decide (u * m ^ n ≤ B n p (m - p) k * v)
def bestD (n : Nat) (p m u v : Int) : PyData := match (List.range' 0 n).find? (cB n p m u v) with
  | some k => tp (F n p (m - p) k) ((F n p (m - p) k : Int) + ((1 + k : Nat) : Int))
  | none => tp 0 ((n : Int) + 1)
theorem F_le (n : Nat) (p r : Int) (k : Nat) : F n p r k ≤ n - k := fst_le _ _
theorem B_sm {n : Nat} {p m : Int} (q : Q p m) (hn : n ≤ 40) {k : Nat} (hk : k ≤ n) : Sm (B n p (m - p) k) = true := bw_sm q (by omega) (by have := F_le n p (m - p) k; omega)
theorem v_best {p m u v : Int} {n : Nat} (q : Q p m) (w : Wi u v) (h1 : 1 ≤ n) (hn : n ≤ 40) (μ : Mem) :
    sem_best_place [.v (.int n), .v (tp p m), .v (tp u v)] μ = .ok (.v (bestD n p m u v)) μ := by
  have q0 := q.p0; have q1 := q.pm; have q2 := q.m1
  have sM := sm_le 300 (pow_sz (x := m) (j := n) (by omega) (by omega) (by omega)) (by omega)
  have su := sm_le 300 w.us (by omega)
  have sv := sm_le 300 w.vs (by omega)
  have loop := for_ret (i := 5) (body := (sSeq (sAsgG (mCall sem_surest_start (mCons (mVar 3) (mCons (mVar 5) mNil))) (gT 2 (gC (gN 6) (gC (gN 7) gE))))
    (sIf (mNot (mTB (mCall sem_is_below (mCons (mTup (mCons (mVar 7) (mCons (mVar 4) mNil))) (mCons (mVar 2) mNil))))) (sRet (mTup (mCons (mVar 6) (mCons (mOp oAdd (mVar 6) (mVar 5)) mNil)))) sNext)))
    (c := cB n p m u v) (g := fun k => .v (tp (F n p (m - p) k) ((F n p (m - p) k : Int) + ((1 + k : Nat) : Int)))) (μ0 := μ) (intsUp 1 n)
    (fun j ρ => ∃ a b c, ρ = [some (.v (.int n)), some (.v (tp p m)), some (.v (tp u v)), some (.v (.list (ways n p (m - p)))), some (.v (.int (m ^ n))), a, b, c]) 0
    [some (.v (.int n)), some (.v (tp p m)), some (.v (tp u v)), some (.v (.list (ways n p (m - p)))), some (.v (.int (m ^ n))), none, none, none]
    (fun j d ρ hd ⟨a, b, c, e1⟩ => by
      obtain ⟨rfl, hj⟩ := iu_get hd
      subst e1
      rw [Nat.zero_add]
      have e2 : (1 : Int) + (j : Int) = ((1 + j : Nat) : Int) := by omega
      rw [e2]
      have c1 := v_surest q hn hj μ
      have c2 := v_is_below (B_sm q hn (show j ≤ n by omega)) sM su sv μ
      have g : (2 : Nat) ≤ capN := by unfold capN; omega
      have c3 : cB n p m u v j = !decide (B n p (m - p) j * v < u * m ^ n) := by
        unfold cB
        by_cases x : u * m ^ n ≤ B n p (m - p) j * v
        · simp [x, Int.not_lt.mpr x]
        · simp [x, Int.not_le.mp x]
      change sem_surest_start _ _ = .ok (.v (tp (F n p (m - p) j) (B n p (m - p) j))) μ at c1
      cases hc : cB n p m u v j with
      | true =>
        rw [hc] at c3
        simp only [if_true, sSeq, sIf, sRet, sNext, sAsgG, mNot, mTB, oB, gT, gC, gN, gE, mCall, mCons, mNil, mOp, mVar, mC, mTup, dsOf, tuOf, oAdd, guardR, List.set_cons_zero, List.set_cons_succ, List.getElem?_cons_zero, List.getElem?_cons_succ, Res.bind_ok, Res.out_ok, c1, c2, ← c3, Option.map_some, List.length_cons, List.length_nil, Nat.zero_add, g, decide_true]
      | false =>
        rw [hc] at c3
        refine ⟨_, ?_, some (.v (.int ((1 + j : Nat) : Int))), some (.v (.int (F n p (m - p) j))), some (.v (.int (B n p (m - p) j))), rfl⟩
        simp only [if_true, sSeq, sIf, sRet, sNext, sAsgG, mNot, mTB, oB, gT, gC, gN, gE, mCall, mCons, mNil, mOp, mVar, mC, mTup, dsOf, tuOf, oAdd, guardR, List.set_cons_zero, List.set_cons_succ, List.getElem?_cons_zero, List.getElem?_cons_succ, Res.bind_ok, Res.out_ok, c1, c2, ← c3, Option.map_some, List.length_cons, List.length_nil, Nat.zero_add, g, decide_true, Bool.false_eq_true, if_false]) ⟨none, none, none, rfl⟩
  rw [intsUp_len] at loop
  have k1 := v_check_number (n := n) (by omega) (by omega) μ
  have k2 := v_check_inner q.fr q.p0 q.pm μ
  have k3 := v_check_wish w.fr w.u0 w.uv μ
  have k4 := v_hit_ways q hn μ
  have k5 := v_power2 (x := m) (k := n) (by omega) (fun i hi => pow_sz' (by omega) (by omega) (by omega)) μ
  have i2 : (((n : Int) + 1) - 1).toNat = n := by omega
  have li := fun o h => for_2 (a := (mCons (mC (.int 1)) (mCons (mOp oAdd (mVar 0) (mC (.int 1))) mNil))) (i := 5) (k := n) (lo := 1) (hi := (n : Int) + 1) (μ := μ) (o := o)
    (ρ := [some (.v (.int n)), some (.v (tp p m)), some (.v (tp u v)), some (.v (.list (ways n p (m - p)))), some (.v (.int (m ^ n))), none, none, none]) (body := (sSeq (sAsgG (mCall sem_surest_start (mCons (mVar 3) (mCons (mVar 5) mNil))) (gT 2 (gC (gN 6) (gC (gN 7) gE))))
    (sIf (mNot (mTB (mCall sem_is_below (mCons (mTup (mCons (mVar 7) (mCons (mVar 4) mNil))) (mCons (mVar 2) mNil))))) (sRet (mTup (mCons (mVar 6) (mCons (mOp oAdd (mVar 6) (mVar 5)) mNil)))) sNext))) rfl (inl (by omega) (by omega)) (inl (by omega) (by omega)) i2 h
  have g : (2 : Nat) ≤ capN := by unfold capN; omega
  unfold bestD
  cases hf : (List.range' 0 n).find? (cB n p m u v) with
  | some k =>
    rw [hf] at loop
    exact defF_v rfl (seq_nx (drop_nx (μ1 := μ) (s := .v .none) k1) (seq_nx (drop_nx (μ1 := μ) (s := .v .none) k2) (seq_nx (drop_nx (μ1 := μ) (s := .v .none) k3) (seq_nx (asg_n (μ1 := μ) (s := .v (.list (ways n p (m - p)))) k4) (seq_nx (asg_n (μ1 := μ) (s := .v (.int (m ^ n))) k5) (seq_rt (li _ loop))))))) (List.take_length ..)
  | none =>
    rw [hf] at loop
    obtain ⟨ρ', e, a, b, c, rfl⟩ := loop
    refine defF_v rfl (seq_nx (drop_nx (μ1 := μ) (s := .v .none) k1) (seq_nx (drop_nx (μ1 := μ) (s := .v .none) k2) (seq_nx (drop_nx (μ1 := μ) (s := .v .none) k3) (seq_nx (asg_n (μ1 := μ) (s := .v (.list (ways n p (m - p)))) k4) (seq_nx (asg_n (μ1 := μ) (s := .v (.int (m ^ n))) k5) (seq_nx (li _ e) (ret_v (μ1 := μ) (s := .v (tp 0 ((n : Int) + 1))) ?_))))))) (List.take_length ..)
    simp only [mCons, mNil, mOp, mVar, mC, mTup, dsOf, oAdd, guardR, List.getElem?_cons_zero, List.getElem?_cons_succ, Res.bind_ok, Option.map_some, List.length_cons, List.length_nil, Nat.zero_add, g, decide_true, if_true]
end Lw
set_option Elab.async false
set_option linter.all false
set_option maxRecDepth 100000
set_option exponentiation.threshold 5000
namespace Lw
open PySem Ly L2
theorem total (n : Nat) (p m : Int) : bw n p (m - p) (1 + n) 0 = m ^ n := by
  have := Steck.binom p (m - p) n
  rw [show p + (m - p) = m by omega] at this
  rw [this, Nat.add_comm 1 n]
  unfold bw
  refine Steck.sum_congr fun t ht => ?_
  unfold T
  rw [Nat.zero_add]
def rowsOf (f : Nat → Int) (c : Nat) : List (List Int) := (List.range c).map fun i => [0 - f i, (i : Int)]
theorem tups_map (f : Nat → Int) : ∀ l : List Nat, tupsOf (l.map fun i => tp (0 - f i) (i : Int)) = some (l.map fun i => [0 - f i, (i : Int)])
  | [] => rfl
  | a :: l => by simp only [List.map_cons, tupsOf, intsOf, Option.map_some, tups_map f l]
theorem rows_get (f : Nat → Int) {c i : Nat} (h : i < c) : (rowsOf f c).getD i [] = [0 - f i, (i : Int)] := by
  simp [rowsOf, List.getD_eq_getElem?_getD, h]
theorem arg_fst (f : Nat → Int) (c : Nat) : ∀ k, k ≤ c → argBest (fun i j => HT.lexLt ((rowsOf f (c + 1)).getD i []) ((rowsOf f (c + 1)).getD j [])) k = fst f k
  | 0, _ => rfl
  | k + 1, h => by
    have hl := fst_le f k
    unfold argBest fst
    rw [arg_fst f c k (by omega)]
    rw [rows_get f (show k + 1 < c + 1 by omega), rows_get f (show fst f k < c + 1 by omega)]
    simp only [HT.lexLt_cons, HT.lexLt_nil_nil]
    have e1 : ¬ (((k + 1 : Nat) : Int) = ((fst f k : Nat) : Int)) := by omega
    have e2 : ¬ (((k + 1 : Nat) : Int) < ((fst f k : Nat) : Int)) := by omega
    by_cases e : f (fst f k) < f (k + 1)
    · have e3 : ¬ (0 - f (k + 1) = 0 - f (fst f k)) := by omega
      have e4 : 0 - f (k + 1) < 0 - f (fst f k) := by omega
      simp only [if_neg e3, e4, decide_true, if_true, if_pos e]
    · by_cases e3 : 0 - f (k + 1) = 0 - f (fst f k)
      · simp only [if_pos e3, if_neg e1, e2, decide_false, Bool.false_eq_true, if_false, if_neg e]
      · have e4 : ¬ (0 - f (k + 1) < 0 - f (fst f k)) := by omega
        simp only [if_neg e3, e4, decide_false, Bool.false_eq_true, if_false, if_neg e]
theorem minIx_fst (f : Nat → Int) (c : Nat) : minIx (rowsOf f (c + 1)) = fst f c := by
  unfold minIx
  have e : (rowsOf f (c + 1)).length - 1 = c := by simp [rowsOf]
  rw [e]
  exact arg_fst f c c (Nat.le_refl _)
theorem v_min (f : Nat → Int) (c : Nat) (μ : Mem) : fMinT [.v (.list ((List.range (c + 1)).map fun i => tp (0 - f i) (i : Int)))] μ = .ok (.v (tp (0 - f (fst f c)) (fst f c : Nat))) μ := by
  have g : 0 < (rowsOf f (c + 1)).length := by simp [rowsOf]
  have e : ((List.range (c + 1)).map fun i : Nat => [0 - f i, (i : Int)]) = rowsOf f (c + 1) := rfl
  simp only [fMinT, rdOf, lsOf, Option.bind_some, tups_map, e, guardR, g, decide_true, if_true, minIx_fst, rows_get f (show fst f c < c + 1 by have := fst_le f c; omega), List.map_cons, List.map_nil]
theorem cB_last {n : Nat} {p m u v : Int} (q : Q p m) (w : Wi u v) : cB n p m u v n = true := by
  have q0 := q.p0; have q1 := q.pm
  unfold cB B F
  rw [Nat.sub_self]
  show decide (u * m ^ n ≤ bw n p (m - p) (1 + n) 0 * v) = true
  rw [total, Int.mul_comm (m ^ n)]
  exact decide_eq_true (Int.mul_le_mul_of_nonneg_right w.uv (Int.pow_nonneg (by omega)))
theorem v_lbest {p m u v : Int} {n : Nat} (q : Q p m) (w : Wi u v) (h1 : 1 ≤ n) (hn : n ≤ 40) (μ : Mem) :
    sem__law_best [.v (.int n), .v (tp p m), .v (tp u v)] μ = .ok (.v (bestD n p m u v)) μ := by
  have q0 := q.p0; have q1 := q.pm; have q2 := q.m1
  have sM := sm_le 300 (pow_sz (x := m) (j := n) (by omega) (by omega) (by omega)) (by omega)
  have su := sm_le 300 w.us (by omega)
  have sv := sm_le 300 w.vs (by omega)
  have g : (2 : Nat) ≤ capN := by unfold capN; omega
  have loop := for_ret (i := 4) (body := (sSeq (sAsg (mLc (mIR1 (mCons (mOp oSub (mOp oAdd (mVar 0) (mC (.int 2))) (mVar 4)) mNil)) (.n 7) mYes (mTup (mCons (mOp oSub (mC (.int 0)) (mCall sem__law_between (mCons (mVar 0) (mCons (mVar 1) (mCons (mVar 7) (mCons (mOp oAdd (mVar 7) (mVar 4)) mNil)))))) (mCons (mVar 7) mNil))) [7]) (.n 5))
  (sSeq (sAsg (mCB fMinT (mCons (mVar 5) mNil)) (.n 6))
  (sIf (mTB (mOp (oCmp fun i j => decide (j ≤ i)) (mOp oMul (mOp oSub (mC (.int 0)) (mOp oIx (mVar 6) (mC (.int 0)))) (mOp oIx (mVar 2) (mC (.int 1)))) (mOp oMul (mOp oIx (mVar 2) (mC (.int 0))) (mVar 3)))) (sRet (mTup (mCons (mOp oIx (mVar 6) (mC (.int 1))) (mCons (mOp oAdd (mOp oIx (mVar 6) (mC (.int 1))) (mVar 4)) mNil)))) sNext))))
    (c := cB n p m u v) (g := fun k => .v (tp (F n p (m - p) k) ((F n p (m - p) k : Int) + ((1 + k : Nat) : Int)))) (μ0 := μ) (intsUp 1 (n + 1))
    (fun j ρ => ∃ a b c d, ρ = [some (.v (.int n)), some (.v (tp p m)), some (.v (tp u v)), some (.v (.int (m ^ n))), a, b, c, d]) 0
    [some (.v (.int n)), some (.v (tp p m)), some (.v (tp u v)), some (.v (.int (m ^ n))), none, none, none, none]
    (fun j d ρ hd ⟨a, b, c, d', e1⟩ => by
      obtain ⟨rfl, hj⟩ := iu_get hd
      subst e1
      rw [Nat.zero_add]
      have e2 : (1 : Int) + (j : Int) = ((1 + j : Nat) : Int) := by omega
      rw [e2]
      have e3 : (n : Int) + 2 - ((1 + j : Nat) : Int) = ((n - j + 1 : Nat) : Int) := by omega
      have c1 : mLc (mIR1 (mCons (mOp oSub (mOp oAdd (mVar 0) (mC (.int 2))) (mVar 4)) mNil)) (.n 7) mYes (mTup (mCons (mOp oSub (mC (.int 0)) (mCall sem__law_between (mCons (mVar 0) (mCons (mVar 1) (mCons (mVar 7) (mCons (mOp oAdd (mVar 7) (mVar 4)) mNil)))))) (mCons (mVar 7) mNil))) [7]
          [some (.v (.int n)), some (.v (tp p m)), some (.v (tp u v)), some (.v (.int (m ^ n))), some (.v (.int ((1 + j : Nat) : Int))), b, c, d'] μ = .ok (.v (.list ((List.range (n - j + 1)).map fun i => tp (0 - bw n p (m - p) (1 + j) i) (i : Int)))) μ := by
        refine lc_at (c := n - j + 1) ?_ (inl (by omega) (by omega)) (by unfold capN; omega) fun i hi => ?_
        · simp only [mCons, mNil, mOp, mVar, mC, oAdd, oSub, oInt, List.getElem?_cons_zero, List.getElem?_cons_succ, Res.bind_ok, e3]
        · have c2 := v_between (n := n) (a := i) (len := 1 + j) q hn (by omega) μ
          have e4 : (i : Int) + ((1 + j : Nat) : Int) = ((i + (1 + j) : Nat) : Int) := by omega
          show mTup (mCons (mOp oSub (mC (.int 0)) (mCall sem__law_between (mCons (mVar 0) (mCons (mVar 1) (mCons (mVar 7) (mCons (mOp oAdd (mVar 7) (mVar 4)) mNil)))))) (mCons (mVar 7) mNil)) [some (.v (.int n)), some (.v (tp p m)), some (.v (tp u v)), some (.v (.int (m ^ n))), some (.v (.int ((1 + j : Nat) : Int))), b, c, some (.v (.int i))] μ = _
          simp only [mTup, mCons, mNil, mOp, mVar, mC, mCall, oAdd, oSub, oInt, List.getElem?_cons_zero, List.getElem?_cons_succ, Res.bind_ok, e4, c2, dsOf, Option.map_some, guardR, List.length_cons, List.length_nil, Nat.zero_add, g, decide_true, if_true]
          rfl
      have c3 := v_min (bw n p (m - p) (1 + j)) (n - j) μ
      change _ = Res.ok (Sl.v (tp (0 - B n p (m - p) j) (F n p (m - p) j : Nat))) μ at c3
      have e5 : 0 - (0 - B n p (m - p) j) = B n p (m - p) j := by omega
      have sB := B_sm q hn (show j ≤ n by omega)
      cases hc : cB n p m u v j with
      | true =>
        have hc2 := hc
        unfold cB at hc2
        simp only [if_true, sSeq, sIf, sRet, sNext, sAsg, mTB, oB, mCB, mCons, mNil, mOp, mVar, mC, mTup, dsOf, tuOf, tgSet, oIx, atI0, atI1, oAdd, oSub, oMul, oMulI, oInt, oCmp, guardR, List.set_cons_zero, List.set_cons_succ, List.getElem?_cons_zero, List.getElem?_cons_succ, Res.bind_ok, Res.out_ok, c1, c3, e5, sB, su, sv, sM, Bool.and_self, hc2, Option.map_some, List.length_cons, List.length_nil, Nat.zero_add, g, decide_true]
      | false =>
        have hc2 := hc
        unfold cB at hc2
        refine ⟨_, ?_, some (.v (.int ((1 + j : Nat) : Int))), some (.v (.list ((List.range (n - j + 1)).map fun i => tp (0 - bw n p (m - p) (1 + j) i) (i : Int)))), some (.v (tp (0 - B n p (m - p) j) (F n p (m - p) j : Nat))), d', rfl⟩
        simp only [if_true, sSeq, sIf, sRet, sNext, sAsg, mTB, oB, mCB, mCons, mNil, mOp, mVar, mC, mTup, dsOf, tuOf, tgSet, oIx, atI0, atI1, oAdd, oSub, oMul, oMulI, oInt, oCmp, guardR, List.set_cons_zero, List.set_cons_succ, List.getElem?_cons_zero, List.getElem?_cons_succ, Res.bind_ok, Res.out_ok, c1, c3, e5, sB, su, sv, sM, Bool.and_self, hc2, Bool.false_eq_true, if_false]) ⟨none, none, none, none, rfl⟩
  rw [intsUp_len] at loop
  have k5 := v_power (x := m) (k := n) (by omega) (fun i hi => pow_sz' (by omega) (by omega) (by omega)) μ
  have i2 : (((n : Int) + 2) - 1).toNat = n + 1 := by omega
  have hsome : ∃ k, (List.range' 0 (n + 1)).find? (cB n p m u v) = some k ∧ bestD n p m u v = tp (F n p (m - p) k) ((F n p (m - p) k : Int) + ((1 + k : Nat) : Int)) := by
    have er : List.range' 0 (n + 1) = List.range' 0 n ++ [n] := by
      rw [List.range'_concat]
      simp
    rw [er, List.find?_append]
    unfold bestD
    cases hf : (List.range' 0 n).find? (cB n p m u v) with
    | some k => exact ⟨k, rfl, rfl⟩
    | none =>
      refine ⟨n, ?_, ?_⟩
      · simp [cB_last q w]
      · have : F n p (m - p) n = 0 := by unfold F; rw [Nat.sub_self]; rfl
        rw [this]
        show tp 0 ((n : Int) + 1) = tp ((0 : Nat) : Int) (((0 : Nat) : Int) + ((1 + n : Nat) : Int))
        have e9 : (((0 : Nat) : Int) + ((1 + n : Nat) : Int)) = (n : Int) + 1 := by omega
        rw [e9]
        rfl
  obtain ⟨k, hk, hb⟩ := hsome
  rw [hk] at loop
  rw [hb]
  exact defF_v rfl (seq_nx (asg_n (μ1 := μ) (s := .v (.int (m ^ n))) k5) (seq_rt (for_2 (k := n + 1) (lo := 1) (hi := (n : Int) + 2) rfl (inl (by omega) (by omega)) (inl (by omega) (by omega)) i2 loop))) (List.take_length ..)
end Lw
set_option Elab.async false
set_option linter.all false
set_option maxRecDepth 100000
set_option exponentiation.threshold 5000
namespace Lw
open PySem Ly L2
/-- the ways strictly inside -/
def I (n : Nat) (p m : Int) : Int := m ^ n - p ^ n - (m - p) ^ n
theorem inner_eq (k : Nat) (p m : Int) : Steck.sum (1 + k) (fun t => T (2 + k) p (m - p) (1 + t)) = I (2 + k) p m := by
  have h := total (2 + k) p m
  have e0 : bw (2 + k) p (m - p) (1 + (2 + k)) 0 = Steck.sum ((1 + k) + 1 + 1) (fun t => T (2 + k) p (m - p) t) := by
    unfold bw
    rw [show 1 + (2 + k) = (1 + k) + 1 + 1 by omega]
    exact Steck.sum_congr fun t ht => by rw [Nat.zero_add]
  rw [e0, Steck.sum_head] at h
  have e1 : Steck.sum ((1 + k) + 1) (fun i => T (2 + k) p (m - p) (i + 1)) = Steck.sum (1 + k) (fun i => T (2 + k) p (m - p) (i + 1)) + T (2 + k) p (m - p) ((1 + k) + 1) := rfl
  rw [e1] at h
  have e2 : Steck.sum (1 + k) (fun i => T (2 + k) p (m - p) (i + 1)) = Steck.sum (1 + k) (fun t => T (2 + k) p (m - p) (1 + t)) := Steck.sum_congr fun t ht => by rw [Nat.add_comm t 1]
  have t0 : T (2 + k) p (m - p) 0 = (m - p) ^ (2 + k) := by
    unfold T
    rw [Steck.ch_zero, Int.pow_zero, Nat.sub_zero]
    omega
  have t1 : T (2 + k) p (m - p) ((1 + k) + 1) = p ^ (2 + k) := by
    unfold T
    rw [show (1 + k) + 1 = 2 + k by omega, Steck.ch_self, Nat.sub_self, Int.pow_zero]
    omega
  rw [e2, t0, t1] at h
  unfold I
  omega
def cF (p m u v : Int) (k : Nat) : Bool := decide (u * m ^ (2 + k) ≤ I (2 + k) p m * v)
def fewD (p m u v : Int) : PyData := match (List.range' 0 39).find? (cF p m u v) with
  | some k => .int ((2 + k : Nat) : Int)
  | none => .none
theorem I_sm {n : Nat} {p m : Int} (q : Q p m) (hn : n ≤ 60) : Sm (I n p m) = true := by
  have q0 := q.p0; have q1 := q.pm; have q2 := q.m1
  refine sm_le 302 ?_ (by omega)
  have h1 := pow_sz (x := m) (j := n) (by omega) (by omega) hn
  have h2 := pow_sz (x := p) (j := n) (by omega) (by omega) hn
  have h3 := pow_sz (x := m - p) (j := n) (by omega) (by omega) hn
  unfold I
  have e : (2 : Nat) ^ 302 = 4 * 2 ^ 300 := by rw [show (302 : Nat) = 2 + 300 from rfl, Nat.pow_add]
  rw [e]
  generalize m ^ n = a at *
  generalize p ^ n = b at *
  generalize (m - p) ^ n = c at *
  generalize (2 : Nat) ^ 300 = z at *
  omega
theorem cF_not {p m u v : Int} {k : Nat} : cF p m u v k = !decide (I (2 + k) p m * v < u * m ^ (2 + k)) := by
  unfold cF
  by_cases x : u * m ^ (2 + k) ≤ I (2 + k) p m * v
  · simp [x, Int.not_lt.mpr x]
  · simp [x, Int.not_le.mp x]
theorem v_fewest {p m u v : Int} (q : Q p m) (w : Wi u v) (μ : Mem) : sem_fewest_for_place [.v (tp p m), .v (tp u v)] μ = .ok (.v (fewD p m u v)) μ := by
  have q0 := q.p0; have q1 := q.pm; have q2 := q.m1
  have su := sm_le 300 w.us (by omega)
  have sv := sm_le 300 w.vs (by omega)
  have g : (2 : Nat) ≤ capN := by unfold capN; omega
  have loop := for_ret (i := 2) (body := (sSeq (sAsg (mCB fSum (mCons (mSl (mCall sem_hit_ways (mCons (mVar 2) (mCons (mVar 0) mNil))) (mPart (mC (.int 1))) (mPart (mVar 2))) mNil)) (.n 3))
  (sIf (mNot (mTB (mCall sem_is_below (mCons (mTup (mCons (mVar 3) (mCons (mCall sem_power (mCons (mOp oIx (mVar 0) (mC (.int 1))) (mCons (mVar 2) mNil))) mNil))) (mCons (mVar 1) mNil))))) (sRet (mVar 2)) sNext)))
    (c := cF p m u v) (g := fun k => .v (.int ((2 + k : Nat) : Int))) (μ0 := μ) (intsUp 2 39)
    (fun j ρ => ∃ a b, ρ = [some (.v (tp p m)), some (.v (tp u v)), a, b]) 0
    [some (.v (tp p m)), some (.v (tp u v)), none, none]
    (fun j d ρ hd ⟨a, b, e1⟩ => by
      obtain ⟨rfl, hj⟩ := iu_get hd
      subst e1
      rw [Nat.zero_add]
      have e2 : (2 : Int) + (j : Int) = ((2 + j : Nat) : Int) := by omega
      rw [e2]
      have c1 := v_hit_ways (n := 2 + j) q (by omega) μ
      have c2 := v_power2 (x := m) (k := 2 + j) (by omega) (fun i hi => pow_sz' (by omega) (by omega) (by omega)) μ
      have sM := sm_le 300 (pow_sz (x := m) (j := 2 + j) (by omega) (by omega) (by omega)) (by omega)
      have c3 := v_is_below (I_sm (n := 2 + j) q (by omega)) sM su sv μ
      have c4 : cutD (ways (2 + j) p (m - p)) (some 1) (some ((2 + j : Nat) : Int)) = (List.range (1 + j)).map fun t => .int (T (2 + j) p (m - p) (1 + t)) := by
        have h1 := cut_at (ds := ways (2 + j) p (m - p)) (i := 1) (len := 1 + j) (by simp [ways]; omega)
        have h2 := ways_cut (n := 2 + j) (p := p) (r := m - p) (i := 1) (len := 1 + j) (by omega)
        rw [h2, show 1 + (1 + j) = 2 + j by omega] at h1
        exact h1
      have c5 := cF_not (p := p) (m := m) (u := u) (v := v) (k := j)
      cases hc : cF p m u v j with
      | true =>
        rw [hc] at c5
        simp only [if_true, sSeq, sIf, sRet, sNext, sAsg, mNot, mTB, oB, mCB, fSum, mSl, mPart, oSl, mCall, mCons, mNil, mOp, mVar, mC, mTup, dsOf, tuOf, rdOf, lsOf, tgSet, oIx, atI0, atI1, guardR, List.set_cons_zero, List.set_cons_succ, List.getElem?_cons_zero, List.getElem?_cons_succ, Res.bind_ok, Res.out_ok, c1, c2, c4, Option.bind_some, ints_map, sum_range, inner_eq, c3, ← c5, Option.map_some, List.length_cons, List.length_nil, Nat.zero_add, g, decide_true]
      | false =>
        rw [hc] at c5
        refine ⟨_, ?_, some (.v (.int ((2 + j : Nat) : Int))), some (.v (.int (I (2 + j) p m))), rfl⟩
        simp only [if_true, sSeq, sIf, sRet, sNext, sAsg, mNot, mTB, oB, mCB, fSum, mSl, mPart, oSl, mCall, mCons, mNil, mOp, mVar, mC, mTup, dsOf, tuOf, rdOf, lsOf, tgSet, oIx, atI0, atI1, guardR, List.set_cons_zero, List.set_cons_succ, List.getElem?_cons_zero, List.getElem?_cons_succ, Res.bind_ok, Res.out_ok, c1, c2, c4, Option.bind_some, ints_map, sum_range, inner_eq, c3, ← c5, Option.map_some, List.length_cons, List.length_nil, Nat.zero_add, g, decide_true, Bool.false_eq_true, if_false]) ⟨none, none, rfl⟩
  rw [intsUp_len] at loop
  have k2 := v_check_inner q.fr q.p0 q.pm μ
  have k3 := v_check_wish w.fr w.u0 w.uv μ
  unfold fewD
  cases hf : (List.range' 0 39).find? (cF p m u v) with
  | some k =>
    rw [hf] at loop
    exact defF_v rfl (seq_nx (drop_nx (μ1 := μ) (s := .v .none) k2) (seq_nx (drop_nx (μ1 := μ) (s := .v .none) k3) (seq_rt (for_2 (k := 39) (lo := 2) (hi := 41) rfl (inl (by omega) (by omega)) (inl (by omega) (by omega)) rfl loop)))) (List.take_length ..)
  | none =>
    rw [hf] at loop
    obtain ⟨ρ', e, _⟩ := loop
    exact defF_v rfl (seq_nx (drop_nx (μ1 := μ) (s := .v .none) k2) (seq_nx (drop_nx (μ1 := μ) (s := .v .none) k3) (seq_nx (for_2 (k := 39) (lo := 2) (hi := 41) rfl (inl (by omega) (by omega)) (inl (by omega) (by omega)) rfl e) (ret_v rfl)))) (List.take_length ..)
theorem v_lfewest {p m u v : Int} (q : Q p m) (w : Wi u v) (μ : Mem) : sem__law_fewest [.v (tp p m), .v (tp u v)] μ = .ok (.v (fewD p m u v)) μ := by
  have q0 := q.p0; have q1 := q.pm; have q2 := q.m1
  have su := sm_le 300 w.us (by omega)
  have sv := sm_le 300 w.vs (by omega)
  have loop := for_ret (i := 2) (body := (sSeq (sAsg (mCall sem__law_power (mCons (mOp oIx (mVar 0) (mC (.int 1))) (mCons (mVar 2) mNil))) (.n 3))
  (sIf (mTB (mOp (oCmp fun i j => decide (j ≤ i)) (mOp oMul (mOp oSub (mOp oSub (mVar 3) (mCall sem__law_power (mCons (mOp oIx (mVar 0) (mC (.int 0))) (mCons (mVar 2) mNil)))) (mCall sem__law_power (mCons (mOp oSub (mOp oIx (mVar 0) (mC (.int 1))) (mOp oIx (mVar 0) (mC (.int 0)))) (mCons (mVar 2) mNil)))) (mOp oIx (mVar 1) (mC (.int 1)))) (mOp oMul (mOp oIx (mVar 1) (mC (.int 0))) (mVar 3)))) (sRet (mVar 2)) sNext)))
    (c := cF p m u v) (g := fun k => .v (.int ((2 + k : Nat) : Int))) (μ0 := μ) (intsUp 2 39)
    (fun j ρ => ∃ a b, ρ = [some (.v (tp p m)), some (.v (tp u v)), a, b]) 0
    [some (.v (tp p m)), some (.v (tp u v)), none, none]
    (fun j d ρ hd ⟨a, b, e1⟩ => by
      obtain ⟨rfl, hj⟩ := iu_get hd
      subst e1
      rw [Nat.zero_add]
      have e2 : (2 : Int) + (j : Int) = ((2 + j : Nat) : Int) := by omega
      rw [e2]
      have c1 := v_power (x := m) (k := 2 + j) (by omega) (fun i hi => pow_sz' (by omega) (by omega) (by omega)) μ
      have c2 := v_power (x := p) (k := 2 + j) (by omega) (fun i hi => pow_sz' (by omega) (by omega) (by omega)) μ
      have c3 := v_power (x := m - p) (k := 2 + j) (by omega) (fun i hi => pow_sz' (by omega) (by omega) (by omega)) μ
      have sM := sm_le 300 (pow_sz (x := m) (j := 2 + j) (by omega) (by omega) (by omega)) (by omega)
      have sI := I_sm (n := 2 + j) q (by omega)
      unfold I at sI
      cases hc : cF p m u v j with
      | true =>
        have hc2 := hc
        unfold cF I at hc2
        simp only [if_true, sSeq, sIf, sRet, sNext, sAsg, mTB, oB, mCall, mCons, mNil, mOp, mVar, mC, tuOf, tgSet, oIx, atI0, atI1, oSub, oMul, oMulI, oInt, oCmp, guardR, List.set_cons_zero, List.set_cons_succ, List.getElem?_cons_zero, List.getElem?_cons_succ, Res.bind_ok, Res.out_ok, c1, c2, c3, sM, sI, su, sv, Bool.and_self, hc2]
      | false =>
        have hc2 := hc
        unfold cF I at hc2
        refine ⟨_, ?_, some (.v (.int ((2 + j : Nat) : Int))), some (.v (.int (m ^ (2 + j)))), rfl⟩
        simp only [if_true, sSeq, sIf, sRet, sNext, sAsg, mTB, oB, mCall, mCons, mNil, mOp, mVar, mC, tuOf, tgSet, oIx, atI0, atI1, oSub, oMul, oMulI, oInt, oCmp, guardR, List.set_cons_zero, List.set_cons_succ, List.getElem?_cons_zero, List.getElem?_cons_succ, Res.bind_ok, Res.out_ok, c1, c2, c3, sM, sI, su, sv, Bool.and_self, hc2, Bool.false_eq_true, if_false]) ⟨none, none, rfl⟩
  rw [intsUp_len] at loop
  unfold fewD
  cases hf : (List.range' 0 39).find? (cF p m u v) with
  | some k =>
    rw [hf] at loop
    exact defF_v rfl (seq_rt (for_2 (k := 39) (lo := 2) (hi := 41) rfl (inl (by omega) (by omega)) (inl (by omega) (by omega)) rfl loop)) (List.take_length ..)
  | none =>
    rw [hf] at loop
    obtain ⟨ρ', e, _⟩ := loop
    exact defF_v rfl (seq_nx (for_2 (k := 39) (lo := 2) (hi := 41) rfl (inl (by omega) (by omega)) (inl (by omega) (by omega)) rfl e) (ret_v rfl)) (List.take_length ..)
end Lw
set_option Elab.async false
set_option linter.all false
set_option maxRecDepth 100000
set_option exponentiation.threshold 5000
namespace Lw
open PySem Ly L2
theorem defF_same {N np : Nat} {body : MS} {ss : List Sl} {μ μ1 : Mem} {d : PyData} (hl : ss.length = np) (h : body (ss.map some ++ List.replicate (N - ss.length) none) μ = .rt (.v d) μ1) (ht : μ1.length = μ.length) : defF N np body ss μ = .ok (.v d) μ1 := by
  unfold defF
  rw [if_pos hl, h]
  simp only [← ht, List.take_length]
theorem gcd_loop (n m : Sl) (μ : Mem) : ∀ (fuel a b : Nat), b < fuel →
    whileGo (mTB (mOp (oCmp fun i j => decide (j < i)) (mVar 3) (mC (.int 0)))) (sPar 2 3 (mCons (mVar 3) (mCons (mOp oMod (mCB fInt (mCons (mVar 2) mNil)) (mVar 3)) mNil))) fuel [some n, some m, some (.v (.int (a : Int))), some (.v (.int (b : Int)))] μ
    = .nx [some n, some m, some (.v (.int (Nat.gcd a b : Nat))), some (.v (.int 0))] μ
  | 0, a, b, h => absurd h (Nat.not_lt_zero _)
  | fuel + 1, a, b, h => by
    unfold whileGo
    rcases Nat.eq_zero_or_pos b with z | z
    · subst z
      simp [mTB, mOp, mVar, mC, oCmp, oInt, oB]
    · have ih := gcd_loop n m μ fuel b (a % b) (by have := Nat.mod_lt a z; omega)
      have e : Nat.gcd b (a % b) = Nat.gcd a b := by rw [Nat.gcd_comm b, ← Nat.gcd_rec, Nat.gcd_comm]
      have z2 : (0 : Int) < (b : Int) := by omega
      have e2 : (a : Int) % (b : Int) = ((a % b : Nat) : Int) := rfl
      rw [e] at ih
      simp only [mTB, mOp, mVar, mC, mCB, fInt, oCmp, oMod, oInt, oB, sPar, mCons, mNil, guardR, List.getElem?_cons_zero, List.getElem?_cons_succ, List.set_cons_zero, List.set_cons_succ, Res.bind_ok, Res.out_ok, z2, decide_true, if_true, e2]
      exact ih
theorem huge_lt {b : Nat} (h : b ≤ 2 ^ 300) : b < hugeN := by
  unfold hugeN
  exact Nat.lt_of_le_of_lt h (Nat.pow_lt_pow_right (by omega) (by omega))
theorem v_ratio {x y : Nat} (hx : 0 < x) (hxy : x ≤ y) (hy : y ≤ 2 ^ 300) (μ : Mem) : ∃ u v : Int, sem__law_ratio [.v (.int x), .v (.int y)] μ = .ok (.v (tp u v)) μ ∧ Wi u v ∧ (x < y → u < v) ∧ v ≤ y := by
  have gp : 0 < Nat.gcd x y := Nat.gcd_pos_of_pos_left _ hx
  have gx : Nat.gcd x y ≤ x := Nat.le_of_dvd hx (Nat.gcd_dvd_left x y)
  have gy : Nat.gcd x y ∣ y := Nat.gcd_dvd_right x y
  have gx' : Nat.gcd x y ∣ x := Nat.gcd_dvd_left x y
  have g1 : (0 : Int) < ((Nat.gcd x y : Nat) : Int) := by omega
  have g2 : (((Nat.gcd x y : Nat) : Int)).natAbs.log2 < 9000 := by
    rw [Int.natAbs_natCast]
    have : Nat.gcd x y < 2 ^ 4000 := Nat.lt_of_le_of_lt (Nat.le_trans gx (Nat.le_trans hxy hy)) (Nat.pow_lt_pow_right (by omega) (by omega))
    have := (Nat.log2_lt (by omega)).mpr this
    omega
  have g : (2 : Nat) ≤ capN := by unfold capN; omega
  have y0 : (0 : Int) < (y : Int) := by omega
  have x1 : ¬ ((x : Int) < 0) := by omega
  have y1 : ¬ ((y : Int) < 0) := by omega
  refine ⟨((x / Nat.gcd x y : Nat) : Int), ((y / Nat.gcd x y : Nat) : Int), ?_, ⟨⟨?_, ?_⟩, ?_, ?_, ?_⟩, fun h => ?_, ?_⟩
  · refine defF_v rfl (seq_nx (ρ1 := [some (.v (.int x)), some (.v (.int y)), some (.v (.int x)), some (.v (.int y))]) (μ1 := μ) ?_ (seq_nx (gcd_loop _ _ μ hugeN x y (huge_lt hy)) (seq_nx (ρ1 := [some (.v (.int x)), some (.v (.int y)), some (.v (.int (Nat.gcd x y : Nat))), some (.v (.int 0))]) (μ1 := μ) ?_ (ret_v (μ1 := μ) ?_)))) (List.take_length ..)
    · simp only [sPar, mCons, mNil, mVar, mCB, fAbs, List.map_cons, List.map_nil, List.cons_append, List.nil_append, List.getElem?_cons_zero, List.getElem?_cons_succ, Res.bind_ok, Res.out_ok, if_neg x1, if_neg y1]
      rfl
    · simp only [sAsg, mIf, mTB, mOp, mVar, mC, oCmp, oInt, oB, tgSet, List.getElem?_cons_zero, List.getElem?_cons_succ, List.set_cons_zero, List.set_cons_succ, Res.bind_ok, Res.out_ok, y0, decide_true, if_true]
    · simp only [mTup, mCons, mNil, mOp, mVar, oFdiv, oInt, dsOf, guardR, List.getElem?_cons_zero, List.getElem?_cons_succ, Res.bind_ok, g1, g2, decide_true, Bool.and_self, if_true, Option.map_some, List.length_cons, List.length_nil, Nat.zero_add, g]
      rfl
  · have := Nat.div_pos (Nat.le_trans gx hxy) gp
    omega
  · rw [Int.natAbs_natCast, Int.natAbs_natCast]
    rw [Nat.gcd_div gx' gy, Nat.div_self gp]
  · have := Nat.div_pos gx gp
    omega
  · have := Nat.div_le_div_right (c := Nat.gcd x y) hxy
    omega
  · rw [Int.natAbs_natCast]
    exact Nat.le_trans (Nat.div_le_self _ _) hy
  · have := Nat.div_lt_div_of_lt_of_dvd gy h
    omega
  · have := Nat.div_le_self y (Nat.gcd x y)
    omega
/-! the draws -/
def Src (N : Nat) (μ : Mem) (h : Nat) : Prop := ∃ a b c : Int, μ[h]? = some (some [.int a, .int b, .int c]) ∧ 0 ≤ a ∧ 0 ≤ b ∧ b < 2147483549 ∧ 0 ≤ c ∧ c ≤ N
theorem set_get {μ : Mem} {h : Nat} {z x : Option (List PyData)} (e : μ[h]? = some z) : (μ.set h x)[h]? = some x := by
  have := (List.getElem?_eq_some_iff.mp e).1
  simp [this]
theorem set_set (μ : Mem) (h : Nat) (x y : Option (List PyData)) : (μ.set h x).set h y = μ.set h y := by simp
theorem at0 (a b c : PyData) : atI [a, b, c] 0 = some a := rfl
theorem at1 (a b c : PyData) : atI [a, b, c] 1 = some b := rfl
theorem at2 (a b c : PyData) : atI [a, b, c] 2 = some c := rfl
theorem ix0 : ixN 3 0 = some 0 := rfl
theorem ix1 : ixN 3 1 = some 1 := rfl
theorem ix2 : ixN 3 2 = some 2 := rfl
theorem v_draw {N : Nat} {μ : Mem} {h : Nat} {many : Int} (s : Src N μ h) (hN : N ≤ 1000) (h0 : 0 < many) (h1 : many < 1000) :
    ∃ d μ', sem__law_draw [.o h, .v (.int many)] μ = .ok (.v (.int d)) μ' ∧ 0 ≤ d ∧ d < many ∧ Src (N + 1) μ' h ∧ μ'.length = μ.length := by
  obtain ⟨a, b, c, e, a0, b0, b1, c0, c1⟩ := s
  by_cases z : 0 < a
  · have g2 : many.natAbs.log2 < 9000 := by
      have : many.natAbs.log2 ≤ many.natAbs := Nat.log2_le_self _
      omega
    refine ⟨a % many, μ.set h (some [.int (a / many), .int b, .int c]), ?_, Int.emod_nonneg _ (by omega), Int.emod_lt_of_pos _ h0, ⟨a / many, b, c, set_get e, Int.ediv_nonneg a0 (by omega), b0, b1, c0, by omega⟩, by simp⟩
    refine defF_same rfl (seq_rt (s := .v (.int (a % many))) (μ1 := μ.set h (some [.int (a / many), .int b, .int c])) ?_) (by simp)
    simp only [sIf, sSeq, sAsgG, sRet, mTB, oB, mOp, mVar, mC, mCB, mCons, mNil, oCmp, oInt, oIx, tuOf, rdOf, lsOf, e, at0, ix0, fDivmod, guardR, gT, gC, gS, gN, gE, fSet, List.map_cons, List.map_nil, List.cons_append, List.nil_append, List.replicate, List.getElem?_cons_zero, List.getElem?_cons_succ, List.set_cons_zero, List.set_cons_succ, List.length_cons, List.length_nil, Nat.zero_add, Nat.reduceAdd, Nat.reduceSub, Res.bind_ok, Res.out_ok, z, h0, g2, decide_true, Bool.and_self, if_true]
  · have s1 : Sm b = true := sm_le 31 (by omega) (by omega)
    have s2 : Sm (c + 1) = true := sm_le 31 (by omega) (by omega)
    have s3 : Sm 6 = true := sm_le 31 (by omega) (by omega)
    have s4 : Sm 17497 = true := sm_le 31 (by omega) (by omega)
    have s5 : Sm (39709 + 6 * (c + 1)) = true := sm_le 31 (by omega) (by omega)
    have g3 : (307 : Int).natAbs.log2 < 9000 := by decide
    have p0 : (0 : Int) < 2147483549 := by omega
    have p1 : (0 : Int) < 307 := by omega
    generalize hb : (b * (39709 + 6 * (c + 1)) + 17497 * (c + 1) + 3) % 2147483549 = b'
    have b2 : 0 ≤ b' := by rw [← hb]; exact Int.emod_nonneg _ (by omega)
    have b3 : b' < 2147483549 := by rw [← hb]; exact Int.emod_lt_of_pos _ p0
    refine ⟨b' / 307 % many, μ.set h (some [.int a, .int b', .int (c + 1)]), ?_, Int.emod_nonneg _ (by omega), Int.emod_lt_of_pos _ h0, ⟨a, b', c + 1, set_get e, a0, b2, b3, by omega, by omega⟩, by simp⟩
    refine defF_same rfl (seq_nx (ρ1 := [some (.o h), some (.v (.int many)), none]) (μ1 := μ) ?_ (seq_nx (ρ1 := [some (.o h), some (.v (.int many)), none]) (μ1 := μ.set h (some [.int a, .int b, .int (c + 1)])) ?_
      (seq_nx (ρ1 := [some (.o h), some (.v (.int many)), none]) (μ1 := μ.set h (some [.int a, .int b', .int (c + 1)])) ?_ (ret_v (s := .v (.int (b' / 307 % many))) (μ1 := μ.set h (some [.int a, .int b', .int (c + 1)])) ?_)))) (by simp)
    · simp only [sIf, sNext, mTB, oB, mOp, mVar, mC, oCmp, oInt, oIx, tuOf, rdOf, lsOf, e, at0, List.map_cons, List.map_nil, List.cons_append, List.nil_append, List.replicate, List.getElem?_cons_zero, List.getElem?_cons_succ, List.length_cons, List.length_nil, Nat.zero_add, Nat.reduceAdd, Nat.reduceSub, Res.bind_ok, Res.out_ok, z, decide_false, Bool.false_eq_true, if_false]
    · simp only [sSet, fSet, mOp, mVar, mC, oAdd, oIx, tuOf, rdOf, lsOf, e, at2, ix2, List.getElem?_cons_zero, List.getElem?_cons_succ, List.length_cons, List.length_nil, Nat.zero_add, Nat.reduceAdd, Res.bind_ok, Res.out_ok, List.set_cons_zero, List.set_cons_succ]
    · have e2 := set_get (x := some [.int a, .int b, .int (c + 1)]) e
      simp only [sSet, fSet, mOp, mVar, mC, mCB, mCons, mNil, fInt, oAdd, oMul, oMulI, oMod, oInt, oIx, tuOf, rdOf, lsOf, e2, at1, at2, ix1, guardR, s1, s2, s3, s4, s5, p0, decide_true, Bool.and_self, if_true, hb, set_set, List.getElem?_cons_zero, List.getElem?_cons_succ, List.length_cons, List.length_nil, Nat.zero_add, Nat.reduceAdd, Res.bind_ok, Res.out_ok, List.set_cons_zero, List.set_cons_succ]
    · have e3 := set_get (x := some [.int a, .int b', .int (c + 1)]) e
      simp only [mOp, mVar, mC, mCB, mCons, mNil, fInt, oMod, oFdiv, oInt, oIx, tuOf, rdOf, lsOf, e3, at1, guardR, p1, g3, h0, decide_true, Bool.and_self, if_true, List.getElem?_cons_zero, List.getElem?_cons_succ, Res.bind_ok]
end Lw
set_option Elab.async false
set_option linter.all false
set_option maxRecDepth 100000
set_option exponentiation.threshold 5000
namespace Lw
open PySem Ly L2
theorem v_inner {N : Nat} {μ : Mem} {h : Nat} (s : Src N μ h) (hN : N ≤ 900) : ∃ p m μ', sem__law_inner [.o h] μ = .ok (.v (tp p m)) μ' ∧ Q p m ∧ Src (N + 2) μ' h ∧ μ'.length = μ.length := by
  obtain ⟨d, μ1, e1, d0, d1, s1, l1⟩ := v_draw (many := 5) s (by omega) (by omega) (by omega)
  have g : (5 : Nat) ≤ capN := by unfold capN; omega
  obtain ⟨mm, hm, m2, m30⟩ : ∃ mm : Nat, atI [PyData.int 2, .int 3, .int 7, .int 10, .int 30] d = some (.int mm) ∧ 2 ≤ mm ∧ mm ≤ 30 := by
    have : d = 0 ∨ d = 1 ∨ d = 2 ∨ d = 3 ∨ d = 4 := by omega
    rcases this with rfl | rfl | rfl | rfl | rfl
    · exact ⟨2, rfl, by omega, by omega⟩
    · exact ⟨3, rfl, by omega, by omega⟩
    · exact ⟨7, rfl, by omega, by omega⟩
    · exact ⟨10, rfl, by omega, by omega⟩
    · exact ⟨30, rfl, by omega, by omega⟩
  obtain ⟨d2, μ2, e2, d20, d21, s2, l2⟩ := v_draw (many := (mm : Int) - 1) s1 (by omega) (by omega) (by omega)
  obtain ⟨x, rfl⟩ : ∃ x : Nat, d2 = x := ⟨d2.toNat, by omega⟩
  have hx : (1 : Int) + (x : Int) = ((1 + x : Nat) : Int) := by omega
  obtain ⟨u, v, e3, w, lt, vy⟩ := v_ratio (x := 1 + x) (y := mm) (by omega) (by omega) (Nat.le_trans m30 (Nat.le_trans (show 30 ≤ 2 ^ 5 by omega) (Nat.pow_le_pow_right (by omega) (by omega)))) μ2
  refine ⟨u, v, μ2, ?_, ⟨w.fr, w.u0, lt (by omega), by omega⟩, s2, by omega⟩
  refine defF_same rfl (seq_nx (ρ1 := [some (.o h), some (.v (.int mm))]) (μ1 := μ1) ?_ (ret_v (s := .v (tp u v)) (μ1 := μ2) ?_)) (by omega)
  · simp only [sAsg, mOp, mTup, mCons, mNil, mC, mCall, mVar, dsOf, oIx, tuOf, guardR, tgSet, List.map_cons, List.map_nil, List.cons_append, List.nil_append, List.replicate, List.getElem?_cons_zero, List.getElem?_cons_succ, List.set_cons_zero, List.set_cons_succ, List.length_cons, List.length_nil, Nat.zero_add, Nat.reduceAdd, Nat.reduceSub, Res.bind_ok, Res.out_ok, Option.map_some, g, decide_true, if_true, e1, hm]
  · simp only [mCall, mCons, mNil, mOp, mVar, mC, oAdd, oSub, oInt, List.getElem?_cons_zero, List.getElem?_cons_succ, Res.bind_ok, e2, hx, e3]
theorem T_pos {n k : Nat} {p m : Int} (q : Q p m) (h : k ≤ n) : 0 < T n p (m - p) k := by
  have q0 := q.p0; have q1 := q.pm
  unfold T
  have c : 0 < ((Steck.ch n k : Nat) : Int) := by
    have : ∀ (n k : Nat), k ≤ n → 0 < Steck.ch n k := by
      intro n
      induction n with
      | zero => intro k h; rw [show k = 0 by omega, Steck.ch_zero]; omega
      | succ n ih =>
        intro k h
        cases k with
        | zero => rw [Steck.ch_zero]; omega
        | succ k =>
          rw [Steck.ch_succ]
          have := ih k (by omega)
          omega
    have := this n k h
    omega
  exact Int.mul_pos (Int.mul_pos c (Int.pow_pos q0)) (Int.pow_pos (by omega))
theorem sum_mono (f : Nat → Int) (hf : ∀ i, 0 ≤ f i) : ∀ a b, Steck.sum a f ≤ Steck.sum (a + b) f
  | a, 0 => Int.le_refl _
  | a, b + 1 => by
    have := sum_mono f hf a b
    have := hf (a + b)
    show _ ≤ Steck.sum (a + b) f + f (a + b)
    omega
theorem T_nn {n k : Nat} {p m : Int} (q : Q p m) : 0 ≤ T n p (m - p) k := by
  have q0 := q.p0; have q1 := q.pm
  unfold T
  exact Int.mul_nonneg (Int.mul_nonneg (by omega) (Int.pow_nonneg (by omega))) (Int.pow_nonneg (by omega))
theorem bw_pos {n len i : Nat} {p m : Int} (q : Q p m) (h : i ≤ n) : 0 < bw n p (m - p) (1 + len) i := by
  have h1 := T_pos q h
  have h2 := sum_mono (fun t => T n p (m - p) (i + t)) (fun t => T_nn q) 1 len
  have h3 : Steck.sum 1 (fun t => T n p (m - p) (i + t)) = T n p (m - p) i := by
    show 0 + T n p (m - p) (i + 0) = _
    rw [Nat.add_zero]; omega
  unfold bw
  omega
theorem sum_split (f : Nat → Int) (a : Nat) : ∀ b, Steck.sum (a + b) f = Steck.sum a f + Steck.sum b (fun t => f (a + t))
  | 0 => by show Steck.sum a f = Steck.sum a f + 0; omega
  | b + 1 => by
    show Steck.sum (a + b) f + f (a + b) = Steck.sum a f + (Steck.sum b (fun t => f (a + t)) + f (a + b))
    rw [sum_split f a b]
    omega
theorem sum_nn (f : Nat → Int) (hf : ∀ i, 0 ≤ f i) (a : Nat) : 0 ≤ Steck.sum a f := by
  have := sum_mono f hf 0 a
  rw [Nat.zero_add] at this
  exact this
theorem bw_le {n len i : Nat} {p m : Int} (q : Q p m) (h : i + len ≤ n + 1) : bw n p (m - p) len i ≤ m ^ n := by
  have t := total n p m
  have e : bw n p (m - p) (1 + n) 0 = Steck.sum (i + len + (n + 1 - (i + len))) (fun t => T n p (m - p) t) := by
    unfold bw
    rw [show i + len + (n + 1 - (i + len)) = 1 + n by omega]
    exact Steck.sum_congr fun t ht => by rw [Nat.zero_add]
  have h1 := sum_mono (fun t => T n p (m - p) t) (fun t => T_nn q) (i + len) (n + 1 - (i + len))
  have h2 := sum_split (fun t => T n p (m - p) t) i len
  have h3 := sum_nn (fun t => T n p (m - p) t) (fun t => T_nn q) i
  unfold bw at *
  omega
end Lw
set_option Elab.async false
set_option linter.all false
set_option maxRecDepth 100000
set_option exponentiation.threshold 5000
namespace Lw
open PySem Ly L2
theorem if_t {t : MT} {a b : MS} {ρ : Ro} {μ μ1 : Mem} {o : Out} (h : t ρ μ = .ok true μ1) (h2 : a ρ μ1 = o) : sIf t a b ρ μ = o := by
  unfold sIf
  rw [h]
  exact h2
theorem if_f {t : MT} {a b : MS} {ρ : Ro} {μ μ1 : Mem} {o : Out} (h : t ρ μ = .ok false μ1) (h2 : b ρ μ1 = o) : sIf t a b ρ μ = o := by
  unfold sIf
  rw [h]
  exact h2
theorem Src.mono {N M : Nat} {μ : Mem} {h : Nat} (s : Src N μ h) (l : N ≤ M) : Src M μ h := by
  obtain ⟨a, b, c, e, h1, h2, h3, h4, h5⟩ := s
  exact ⟨a, b, c, e, h1, h2, h3, h4, by omega⟩
theorem v_wish {N : Nat} {μ : Mem} {h n : Nat} {p m : Int} (s : Src N μ h) (hN : N ≤ 800) (q : Q p m) (h1 : 1 ≤ n) (hn : n ≤ 40) :
    ∃ u v μ', sem__law_wish [.o h, .v (.int n), .v (tp p m)] μ = .ok (.v (tp u v)) μ' ∧ Wi u v ∧ Src (N + 4) μ' h ∧ μ'.length = μ.length := by
  have q0 := q.p0; have q1 := q.pm; have q2 := q.m1
  obtain ⟨w, μ1, e1, w0, w1, s1, l1⟩ := v_draw (many := 6) s (by omega) (by omega) (by omega)
  obtain ⟨x, μ2, e2, x0, x1, s2, l2⟩ := v_draw (many := 40) s1 (by omega) (by omega) (by omega)
  obtain ⟨x, rfl⟩ : ∃ y : Nat, x = y := ⟨x.toNat, by omega⟩
  have hx : (1 : Int) + (x : Int) = ((1 + x : Nat) : Int) := by omega
  have st : sPar 3 4 (mCons (mCall sem__law_draw (mCons (mVar 0) (mCons (mC (.int 6)) mNil))) (mCons (mOp oAdd (mC (.int 1)) (mCall sem__law_draw (mCons (mVar 0) (mCons (mC (.int 40)) mNil)))) mNil)) [some (.o h), some (.v (.int n)), some (.v (tp p m)), none, none, none] μ
      = .nx [some (.o h), some (.v (.int n)), some (.v (tp p m)), some (.v (.int w)), some (.v (.int ((1 + x : Nat) : Int))), none] μ2 := by
    simp only [sPar, mCall, mCons, mNil, mOp, mVar, mC, oAdd, List.getElem?_cons_zero, List.getElem?_cons_succ, List.set_cons_zero, List.set_cons_succ, Res.bind_ok, Res.out_ok, e1, e2, hx]
  by_cases c2 : w < 2
  · obtain ⟨i, μ3, e3, i0, i1, s3, l3⟩ := v_draw (many := (n : Int) + 1) s2 (by omega) (by omega) (by omega)
    obtain ⟨i, rfl⟩ : ∃ y : Nat, i = y := ⟨i.toNat, by omega⟩
    obtain ⟨d, μ4, e4, d0, d1, s4, l4⟩ := v_draw (many := (n : Int) + 1 - i) s3 (by omega) (by omega) (by omega)
    obtain ⟨d, rfl⟩ : ∃ y : Nat, d = y := ⟨d.toNat, by omega⟩
    have e5 := v_between (n := n) (a := i) (len := 1 + d) q hn (by omega) μ4
    have e6 := v_power (x := m) (k := n) (by omega) (fun i hi => pow_sz' (by omega) (by omega) (by omega)) μ4
    have b0 := bw_pos (n := n) (len := d) (i := i) q (by omega)
    have b1 := bw_le (n := n) (len := 1 + d) (i := i) q (by omega)
    change _ = Res.ok (Sl.v (.int (bw n p (m - p) (1 + d) i))) μ4 at e5
    have m0 := pow_sz (x := m) (j := n) (by omega) (by omega) (by omega)
    obtain ⟨X, hX⟩ : ∃ X : Nat, bw n p (m - p) (1 + d) i = X := ⟨(bw n p (m - p) (1 + d) i).toNat, by omega⟩
    obtain ⟨Y, hY⟩ : ∃ Y : Nat, m ^ n = Y := ⟨(m ^ n).toNat, by omega⟩
    rw [hX] at e5 b0 b1
    rw [hY] at e6 b1 m0
    obtain ⟨u, v, e7, wi, _, _⟩ := v_ratio (x := X) (y := Y) (by omega) (by omega) (by rw [Int.natAbs_natCast] at m0; exact m0) μ4
    refine ⟨u, v, μ4, ?_, wi, s4, by omega⟩
    have ei : (i : Int) + 1 + (d : Int) = ((i + (1 + d) : Nat) : Int) := by omega
    refine defF_same rfl (seq_nx st (seq_rt (if_t (μ1 := μ2) ?_ (seq_nx (ρ1 := [some (.o h), some (.v (.int n)), some (.v (tp p m)), some (.v (.int w)), some (.v (.int ((1 + x : Nat) : Int))), some (.v (.int i))]) (μ1 := μ3) ?_ (ret_v (s := .v (tp u v)) (μ1 := μ4) ?_))))) (by omega)
    · simp only [mTB, oB, mOp, mVar, mC, oCmp, oInt, List.getElem?_cons_zero, List.getElem?_cons_succ, Res.bind_ok, c2, decide_true]
    · simp only [sAsg, mCall, mCons, mNil, mOp, mVar, mC, oAdd, tgSet, List.getElem?_cons_zero, List.getElem?_cons_succ, List.set_cons_zero, List.set_cons_succ, Res.bind_ok, Res.out_ok, e3]
    · simp only [mCall, mCons, mNil, mOp, mVar, mC, oAdd, oSub, oInt, oIx, tuOf, atI1, List.getElem?_cons_zero, List.getElem?_cons_succ, Res.bind_ok, e4, ei, e5, e6, e7]
  · have f2 : mTB (mOp (oCmp fun i j => decide (i < j)) (mVar 3) (mC (.int 2))) [some (.o h), some (.v (.int n)), some (.v (tp p m)), some (.v (.int w)), some (.v (.int ((1 + x : Nat) : Int))), none] μ2 = .ok false μ2 := by
      simp only [mTB, oB, mOp, mVar, mC, oCmp, oInt, List.getElem?_cons_zero, List.getElem?_cons_succ, Res.bind_ok, c2, decide_false]
    by_cases c3 : w = 2
    · refine ⟨1, 1, μ2, ?_, ⟨⟨by omega, rfl⟩, by omega, by omega, Nat.one_le_two_pow⟩, s2.mono (by omega), by omega⟩
      have g : (2 : Nat) ≤ capN := by unfold capN; omega
      refine defF_same rfl (seq_nx st (seq_nx (if_f f2 rfl) (seq_rt (if_t (μ1 := μ2) ?_ (ret_v (s := .v (tp 1 1)) (μ1 := μ2) ?_))))) (by omega)
      · simp only [mTB, oB, mOp, mVar, mC, eqInt, List.getElem?_cons_zero, List.getElem?_cons_succ, Res.bind_ok, c3, decide_true, Bool.false_eq_true, if_false]
      · simp only [mTup, mCons, mNil, mC, dsOf, guardR, Res.bind_ok, Option.map_some, List.length_cons, List.length_nil, Nat.zero_add, g, decide_true, if_true]
    · have f3 : mTB (mOp (oEq false) (mVar 3) (mC (.int 2))) [some (.o h), some (.v (.int n)), some (.v (tp p m)), some (.v (.int w)), some (.v (.int ((1 + x : Nat) : Int))), none] μ2 = .ok false μ2 := by
        simp only [mTB, oB, mOp, mVar, mC, eqInt, List.getElem?_cons_zero, List.getElem?_cons_succ, Res.bind_ok, c3, decide_false, Bool.false_eq_true, if_false]
      by_cases c4 : w = 3
      · have e6 := v_power (x := 10) (k := 1 + x) (by omega) (fun i hi => pow_sz' (by omega) (by omega) (by omega)) μ2
        have m0 := pow_sz (x := 10) (j := 1 + x) (by omega) (by omega) (by omega)
        have eY : (10 : Int) ^ (1 + x) = ((10 ^ (1 + x) : Nat) : Int) := by rw [Int.natCast_pow]; rfl
        have y10 : 10 ≤ 10 ^ (1 + x) := by
          rw [Nat.pow_add, Nat.pow_one]
          exact Nat.le_mul_of_pos_right _ (Nat.pow_pos (by omega))
        rw [eY] at e6 m0
        generalize (10 : Nat) ^ (1 + x) = Y at e6 m0 y10
        have eX : (Y : Int) - 1 = ((Y - 1 : Nat) : Int) := by omega
        obtain ⟨u, v, e7, wi, _, _⟩ := v_ratio (x := Y - 1) (y := Y) (by omega) (by omega) (by rw [Int.natAbs_natCast] at m0; exact m0) μ2
        refine ⟨u, v, μ2, ?_, wi, s2.mono (by omega), by omega⟩
        refine defF_same rfl (seq_nx st (seq_nx (if_f f2 rfl) (seq_nx (if_f f3 rfl) (seq_rt (if_t (μ1 := μ2) ?_ (ret_v (s := .v (tp u v)) (μ1 := μ2) ?_)))))) (by omega)
        · simp only [mTB, oB, mOp, mVar, mC, eqInt, List.getElem?_cons_zero, List.getElem?_cons_succ, Res.bind_ok, c4, decide_true, Bool.false_eq_true, if_false]
        · simp only [mCall, mCons, mNil, mOp, mVar, mC, oSub, oInt, List.getElem?_cons_zero, List.getElem?_cons_succ, Res.bind_ok, e6, eX, e7]
      · have f4 : mTB (mOp (oEq false) (mVar 3) (mC (.int 3))) [some (.o h), some (.v (.int n)), some (.v (tp p m)), some (.v (.int w)), some (.v (.int ((1 + x : Nat) : Int))), none] μ2 = .ok false μ2 := by
          simp only [mTB, oB, mOp, mVar, mC, eqInt, List.getElem?_cons_zero, List.getElem?_cons_succ, Res.bind_ok, c4, decide_false, Bool.false_eq_true, if_false]
        obtain ⟨d, μ3, e3, d0, d1, s3, l3⟩ := v_draw (many := ((1 + x : Nat) : Int)) s2 (by omega) (by omega) (by omega)
        obtain ⟨d, rfl⟩ : ∃ y : Nat, d = y := ⟨d.toNat, by omega⟩
        have hd : (1 : Int) + (d : Int) = ((1 + d : Nat) : Int) := by omega
        obtain ⟨u, v, e7, wi, _, _⟩ := v_ratio (x := 1 + d) (y := 1 + x) (by omega) (by omega) (Nat.le_trans (show 1 + x ≤ 2 ^ 6 by omega) (Nat.pow_le_pow_right (by omega) (by omega))) μ3
        refine ⟨u, v, μ3, ?_, wi, s3.mono (by omega), by omega⟩
        refine defF_same rfl (seq_nx st (seq_nx (if_f f2 rfl) (seq_nx (if_f f3 rfl) (seq_nx (if_f f4 rfl) (ret_v (s := .v (tp u v)) (μ1 := μ3) ?_))))) (by omega)
        simp only [mCall, mCons, mNil, mOp, mVar, mC, oAdd, List.getElem?_cons_zero, List.getElem?_cons_succ, Res.bind_ok, e3, hd, e7]
end Lw
set_option Elab.async false
set_option linter.all false
set_option maxRecDepth 100000
namespace Lw
open PySem Ly L2
structure SOk (s : Str) (n : Nat) : Prop where
  ok : PyData.canLay0 (.str s) = true
  len : s.length ≤ n
theorem SOk.app {a b : Str} {x y : Nat} (h : SOk a x) (g : SOk b y) : SOk (a ++ b) (x + y) := by
  refine ⟨?_, ?_⟩
  · have h1 := h.ok; have h2 := g.ok
    have e : ∀ s : Str, PyData.canLay0 (.str s) = s.cps.all (· < 0x110000) := fun s => by first | rfl | (unfold PyData.canLay0; rfl) | simp [PyData.canLay0, PyData.strOk]
    rw [e] at h1 h2 ⊢
    have e : (a ++ b).cps = a.cps ++ b.cps := rfl
    rw [e, Array.all_append, h1, h2]
    rfl
  · have h1 := h.len; have h2 := g.len
    have e : (a ++ b).length = a.length + b.length := by
      show (a.cps ++ b.cps).size = a.cps.size + b.cps.size
      exact Array.size_append
    omega
theorem num_tab : ((List.range 45).all fun k => PyData.canLay0 (.str (PyData.shown (.int (k : Nat)))) && decide ((PyData.shown (.int (k : Nat))).length ≤ 10)) = true := by decide +kernel
theorem num_ok {k : Nat} (h : k < 45) : SOk (PyData.shown (.int k)) 10 := by
  have := List.all_eq_true.mp num_tab k (by simpa using h)
  obtain ⟨a, b⟩ := Bool.and_eq_true_iff.mp this
  exact ⟨a, of_decide_eq_true b⟩
theorem non_ok : SOk (PyData.shown .none) 10 := ⟨by decide +kernel, by decide +kernel⟩
theorem l1 : SOk ("(" : Str) 2 := ⟨by decide +kernel, by decide +kernel⟩
theorem l2 : SOk (", " : Str) 2 := ⟨by decide +kernel, by decide +kernel⟩
theorem l3 : SOk (")" : Str) 2 := ⟨by decide +kernel, by decide +kernel⟩
theorem l4 : SOk ("[" : Str) 2 := ⟨by decide +kernel, by decide +kernel⟩
theorem l5 : SOk ("]" : Str) 2 := ⟨by decide +kernel, by decide +kernel⟩
theorem l6 : SOk ("" : Str) 2 := ⟨by decide +kernel, by decide +kernel⟩
theorem pair_ok {i j : Nat} (h1 : i < 45) (h2 : j < 45) : SOk (PyData.shown (tp i j)) 30 := by
  have e : PyData.shown (tp i j) = tupleText [PyData.shown (.int i), PyData.shown (.int j)] := by simp only [PyData.shown, PyData.shownAll]
  have e2 : ∀ a b : Str, tupleText [a, b] = (("(" : Str) ++ ((a ++ (", " : Str)) ++ b)) ++ (")" : Str) := fun a b => rfl
  rw [e, e2]
  have z := (l1.app (((num_ok h1).app l2).app (num_ok h2))).app l3
  exact ⟨z.ok, Nat.le_trans z.len (by omega)⟩
theorem list_ok {a b : PyData} {x y : Nat} (h1 : SOk a.shown x) (h2 : SOk b.shown y) : SOk (PyData.shown (.list [a, b])) (x + y + 8) := by
  have e : PyData.shown (.list [a, b]) = listText [a.shown, b.shown] := by simp only [PyData.shown, PyData.shownAll]
  have e2 : ∀ a b : Str, listText [a, b] = (((("[" : Str) ++ ("" : Str) ++ a) ++ (", " : Str)) ++ b) ++ ("]" : Str) := fun a b => rfl
  rw [e, e2]
  have z := ((((l4.app l6).app h1).app l2).app h2).app l5
  exact ⟨z.ok, Nat.le_trans z.len (by omega)⟩
theorem str_eqv (s : Str) : PyData.eqv (.str s) (.str s) = true := by simp [PyData.eqv]
theorem str_shaped {s : Str} {n : Nat} (h : SOk s n) : SeqAt.shaped (.str s) = true := by
  unfold SeqAt.shaped
  rw [h.ok]
  simp [PyData.depth]
/-- two answers with the same datum -/
structure Ans (d : PyData) : Prop where
  sh : SOk d.shown 60
  sq : isSq d = true
  sb : PyData.showable d = true
  nd : d.hasDict = false
  dp : d.depth ≤ 60
theorem num_sb {k : Nat} (h : k < 45) : PyData.showable (.int (k : Nat)) = true := by
  simp only [PyData.showable]
  refine decide_eq_true ?_
  have : ((k : Int)).natAbs.log2 ≤ ((k : Int)).natAbs := Nat.log2_le_self _
  omega
theorem ans_of {i j : Nat} {e : PyData} (hi : i < 45) (hj : j < 45) (he : e = .none ∨ ∃ k : Nat, k < 45 ∧ e = .int k) : Ans (.list [tp i j, e]) := by
  have s1 := pair_ok hi hj
  have s2 : SOk e.shown 10 := by
    rcases he with rfl | ⟨k, hk, rfl⟩
    · exact non_ok
    · exact num_ok hk
  have s3 := list_ok s1 s2
  refine ⟨⟨s3.ok, Nat.le_trans s3.len (by omega)⟩, rfl, ?_, ?_, ?_⟩
  · have lg : ∀ z : Nat, z < 45 → z.log2 < 1920 := fun z hz => by
      have := Nat.log2_le_self z
      omega
    rcases he with rfl | ⟨k, hk, rfl⟩
    · simp [PyData.showable, PyData.showableAll, lg i hi, lg j hj]
    · simp [PyData.showable, PyData.showableAll, lg i hi, lg j hj, lg k hk]
  · rcases he with rfl | ⟨k, hk, rfl⟩ <;> simp [PyData.hasDict, PyData.hasDictAll]
  · rcases he with rfl | ⟨k, hk, rfl⟩ <;> simp [PyData.depth, PyData.depthAll]
theorem ans_repr {d : PyData} (a : Ans d) (μ : Mem) : fReprQ [.v d] μ = .ok (.v (.str d.shown)) μ := by
  have h : d.shown.length ≤ sizeLine := by rw [sizeLine_eq]; exact Nat.le_trans a.sh.len (by omega)
  simp only [fReprQ, daOf, guardR, a.sq, a.sb, a.nd, a.dp, h, Bool.not_false, decide_true, Bool.and_self, if_true]
end Lw
set_option Elab.async false
set_option linter.all false
set_option maxRecDepth 100000
set_option exponentiation.threshold 5000
namespace Lw
open PySem Ly L2
theorem defF_own {N np : Nat} {body : MS} {ss : List Sl} {μ : Mem} {x : Option (List PyData)} (hl : ss.length = np) (h : body (ss.map some ++ List.replicate (N - ss.length) none) μ = .rt (.o μ.length) (μ ++ [x])) : defF N np body ss μ = .ok (.o μ.length) (μ ++ [x]) := by
  unfold defF
  rw [if_pos hl, h]
  show (if μ.length = μ.length then Res.ok (Sl.o μ.length) ((μ ++ [x]).take (μ.length + 1)) else .no) = _
  rw [if_pos rfl, List.take_of_length_le (by simp)]
theorem cons_ok {a : ME} {b : MA} {ρ : Ro} {μ μ1 μ2 : Mem} {x : Sl} {xs : List Sl} (h : a ρ μ = .ok x μ1) (h2 : b ρ μ1 = .ok xs μ2) : mCons a b ρ μ = .ok (x :: xs) μ2 := by
  unfold mCons
  rw [h, Res.bind_ok, h2, Res.bind_ok]
theorem v_source {ns : List Int} {t : Nat} (ht : t ≤ 10) (μ : Mem) : ∃ a b : Int, sem__law_source [.s (ns.map PyData.int), .v (.int t)] μ = .ok (.o μ.length) (μ ++ [some [.int a, .int b, .int 0]]) ∧ 0 ≤ a ∧ 0 ≤ b ∧ b < 2147483549 := by
  obtain ⟨cell, hc⟩ : ∃ cell : Int, mIf (mTB (mOp (oCmp fun i j => decide (i < j)) (mVar 1) (mCB fLen (mCons (mVar 0) mNil)))) (mCB fInt (mCons (mOp oIx (mVar 0) (mVar 1)) mNil)) (mC (.int 0)) [some (.s (ns.map PyData.int)), some (.v (.int t)), none, none, none] μ = .ok (.v (.int cell)) μ := by
    by_cases c : (t : Int) < (ns.length : Int)
    · have hl : t < ns.length := by omega
      have e : atI (ns.map PyData.int) (t : Int) = some (.int ns[t]) := by
        rw [atI_nat (by simpa using hl)]
        simp [hl]
      refine ⟨ns[t], ?_⟩
      simp only [mIf, mTB, oB, mOp, mVar, mC, mCB, mCons, mNil, oCmp, oInt, fLen, fInt, seqOf, tuOf, rdOf, oIx, List.length_map, List.getElem?_cons_zero, List.getElem?_cons_succ, Res.bind_ok, c, decide_true, if_true, e]
    · refine ⟨0, ?_⟩
      simp only [mIf, mTB, oB, mOp, mVar, mC, mCB, mCons, mNil, oCmp, oInt, fLen, seqOf, tuOf, rdOf, List.length_map, List.getElem?_cons_zero, List.getElem?_cons_succ, Res.bind_ok, c, decide_false, Bool.false_eq_true, if_false]
  have p0 : (0 : Int) < 2147483549 := by omega
  have p1 : (0 : Int) < 1999999973 := by omega
  have sK : Sm 52361 = true := sm_le 31 (by omega) (by omega)
  have s3 : Sm 3 = true := sm_le 31 (by omega) (by omega)
  have s211 : Sm 211 = true := sm_le 31 (by omega) (by omega)
  have sT : Sm (t : Int) = true := sm_le 31 (by omega) (by omega)
  have s5231 : Sm 5231 = true := sm_le 31 (by omega) (by omega)
  obtain ⟨ρ', μ', e, z, st, r1, r2, r3, r4⟩ := for_inv (i := 4) (body := (sAsg (mOp oMod (mCB fInt (mCons (mOp oAdd (mOp oAdd (mOp oMul (mVar 3) (mC (.int 52361))) (mOp oMul (mOp oMod (mCB fInt (mCons (mVar 4) mNil)) (mC (.int 2147483549))) (mC (.int 3)))) (mC (.int 11))) mNil)) (mC (.int 2147483549))) (.n 3)))
    (cutD (ns.map PyData.int) none (some 7)) (fun j ρ μ' => ∃ z st, ρ = [some (.s (ns.map PyData.int)), some (.v (.int t)), some (.v (.int cell)), some (.v (.int st)), z] ∧ μ' = μ ∧ 0 ≤ st ∧ st < 2147483549) 0
    [some (.s (ns.map PyData.int)), some (.v (.int t)), some (.v (.int cell)), some (.v (.int (56263 + 5231 * t))), none] μ
    (fun j d ρ μ' hd ⟨z, st, e1, e2, h1, h2⟩ => by
      subst e1 e2
      obtain ⟨x, rfl⟩ : ∃ x : Int, d = .int x := by
        have h := List.mem_of_getElem? hd
        unfold cutD at h
        have h := List.mem_of_mem_drop (List.mem_of_mem_take h)
        obtain ⟨x, _, e⟩ := List.mem_map.mp h
        exact ⟨x, e.symm⟩
      have sS := sm_le 31 (x := st) (by omega) (by omega)
      have x0 : 0 ≤ x % 2147483549 := Int.emod_nonneg _ (by omega)
      have x1 : x % 2147483549 < 2147483549 := Int.emod_lt_of_pos _ p0
      have sX := sm_le 31 (x := x % 2147483549) (by omega) (by omega)
      refine ⟨[some (.s (ns.map PyData.int)), some (.v (.int t)), some (.v (.int cell)), some (.v (.int ((st * 52361 + x % 2147483549 * 3 + 11) % 2147483549))), some (.v (.int x))], μ', ?_, _, _, rfl, rfl, Int.emod_nonneg _ (by omega), Int.emod_lt_of_pos _ p0⟩
      simp only [sAsg, mOp, mVar, mC, mCB, mCons, mNil, fInt, oAdd, oMul, oMulI, oMod, oInt, guardR, tgSet, sS, sX, sK, s3, p0, decide_true, Bool.and_self, if_true, List.getElem?_cons_zero, List.getElem?_cons_succ, List.set_cons_zero, List.set_cons_succ, Res.bind_ok, Res.out_ok]) ⟨none, _, rfl, rfl, by omega, by omega⟩
  subst r1 r2
  have sS := sm_le 31 (x := st) (by omega) (by omega)
  generalize hb : (st * 211 + cell % 1999999973 + 29) % 2147483549 = b
  have b0 : 0 ≤ b := by rw [← hb]; exact Int.emod_nonneg _ (by omega)
  have b1 : b < 2147483549 := by rw [← hb]; exact Int.emod_lt_of_pos _ p0
  have g : (3 : Nat) ≤ capN := by unfold capN; omega
  obtain ⟨a, ha, a0⟩ : ∃ a : Int, mIf (mTB (mOp (oCmp fun i j => decide (j ≤ i)) (mCB fAbs (mCons (mVar 2) mNil)) (mOp oPow (mC (.int 10)) (mC (.int 17))))) (mCB fAbs (mCons (mVar 2) mNil)) (mC (.int 0)) [some (.s (ns.map PyData.int)), some (.v (.int t)), some (.v (.int cell)), some (.v (.int b)), z] μ' = .ok (.v (.int a)) μ' ∧ 0 ≤ a := by
    have q1 : (decide ((0 : Int) ≤ 17) && decide ((17 : Int) ≤ 1000000) && decide ((10 : Int).natAbs < 2 ^ 64)) = true := by decide
    by_cases c : (10 : Int) ^ (17 : Int).toNat ≤ (if cell < 0 then -cell else cell)
    · refine ⟨if cell < 0 then -cell else cell, ?_, by split <;> omega⟩
      simp only [mIf, mTB, oB, mOp, mVar, mC, mCB, mCons, mNil, oCmp, oInt, oPow, fAbs, guardR, q1, List.getElem?_cons_zero, List.getElem?_cons_succ, Res.bind_ok, c, decide_true, if_true]
    · refine ⟨0, ?_, by omega⟩
      simp only [mIf, mTB, oB, mOp, mVar, mC, mCB, mCons, mNil, oCmp, oInt, oPow, fAbs, guardR, q1, List.getElem?_cons_zero, List.getElem?_cons_succ, Res.bind_ok, c, decide_false, Bool.false_eq_true, if_true, if_false]
  refine ⟨a, b, ?_, a0, b0, b1⟩
  refine defF_own rfl (seq_nx (asg_n (μ1 := μ') (s := .v (.int cell)) hc) (seq_nx (ρ1 := [some (.s (ns.map PyData.int)), some (.v (.int t)), some (.v (.int cell)), some (.v (.int (56263 + 5231 * t))), none]) (μ1 := μ') ?_ (seq_nx (ρ1 := [some (.s (ns.map PyData.int)), some (.v (.int t)), some (.v (.int cell)), some (.v (.int st)), z]) (μ1 := μ') ?_ (seq_nx (ρ1 := [some (.s (ns.map PyData.int)), some (.v (.int t)), some (.v (.int cell)), some (.v (.int b)), z]) (μ1 := μ') ?_ (ret_v (s := .o μ'.length) (μ1 := μ' ++ [some [.int a, .int b, .int 0]]) ?_)))))
  · show sAsg (mOp oAdd (mC (.int 56263)) (mOp oMul (mC (.int 5231)) (mVar 1))) (.n 3) [some (.s (ns.map PyData.int)), some (.v (.int t)), some (.v (.int cell)), none, none] μ' = _
    simp only [sAsg, mOp, mVar, mC, oAdd, oMul, oMulI, oInt, guardR, tgSet, s5231, sT, Bool.and_self, if_true, List.getElem?_cons_zero, List.getElem?_cons_succ, List.set_cons_zero, List.set_cons_succ, Res.bind_ok, Res.out_ok]
  · show sFor _ _ _ _ _ = _
    unfold sFor
    have ei : mIL (mSl (mVar 0) mNoP (mPart (mC (.int 7)))) [some (.s (ns.map PyData.int)), some (.v (.int t)), some (.v (.int cell)), some (.v (.int (56263 + 5231 * t))), none] μ' = .ok (cutD (ns.map PyData.int) none (some 7), []) μ' := by
      simp only [mIL, mSl, mVar, mNoP, mPart, mC, oSl, tuOf, rdOf, seqW, List.getElem?_cons_zero, Res.bind_ok]
    rw [ei]
    simp only [Res.out_ok]
    exact e
  · simp only [sAsg, mOp, mVar, mC, mCB, mCons, mNil, fInt, oAdd, oMul, oMulI, oMod, oInt, guardR, tgSet, sS, s211, p0, p1, hb, decide_true, Bool.and_self, if_true, List.getElem?_cons_zero, List.getElem?_cons_succ, List.set_cons_zero, List.set_cons_succ, Res.bind_ok, Res.out_ok]
  · have e7 : mCons (mC (.int 0)) mNil [some (.s (ns.map PyData.int)), some (.v (.int t)), some (.v (.int cell)), some (.v (.int b)), z] μ' = .ok [.v (.int 0)] μ' := rfl
    have e8 : mCons (mVar 3) (mCons (mC (.int 0)) mNil) [some (.s (ns.map PyData.int)), some (.v (.int t)), some (.v (.int cell)), some (.v (.int b)), z] μ' = .ok [.v (.int b), .v (.int 0)] μ' := rfl
    have e9 : mCons (mIf (mTB (mOp (oCmp fun i j => decide (j ≤ i)) (mCB fAbs (mCons (mVar 2) mNil)) (mOp oPow (mC (.int 10)) (mC (.int 17))))) (mCB fAbs (mCons (mVar 2) mNil)) (mC (.int 0))) (mCons (mVar 3) (mCons (mC (.int 0)) mNil)) [some (.s (ns.map PyData.int)), some (.v (.int t)), some (.v (.int cell)), some (.v (.int b)), z] μ' = .ok [.v (.int a), .v (.int b), .v (.int 0)] μ' := cons_ok ha e8
    unfold mNew
    rw [e9]
    simp only [Res.bind_ok, dsOf, Option.map_some, guardR, List.length_cons, List.length_nil, Nat.zero_add, Nat.reduceAdd, g, decide_true, if_true]
end Lw
set_option Elab.async false
set_option linter.all false
set_option maxRecDepth 100000
set_option exponentiation.threshold 5000
namespace Lw
open PySem Ly L2
theorem best_form {n : Nat} {p m u v : Int} (hn : n ≤ 40) : ∃ i j : Nat, i < 45 ∧ j < 45 ∧ bestD n p m u v = tp i j := by
  unfold bestD
  cases hf : (List.range' 0 n).find? (cB n p m u v) with
  | some k =>
    have hk : k < n := by
      have := List.mem_of_find?_eq_some hf
      rw [List.mem_range'_1] at this
      omega
    have := F_le n p (m - p) k
    refine ⟨F n p (m - p) k, F n p (m - p) k + (1 + k), by omega, by omega, ?_⟩
    have e : ((F n p (m - p) k + (1 + k) : Nat) : Int) = (F n p (m - p) k : Int) + ((1 + k : Nat) : Int) := Int.natCast_add _ _
    rw [e]
  | none => exact ⟨0, n + 1, by omega, by omega, rfl⟩
theorem few_form {p m u v : Int} : fewD p m u v = .none ∨ ∃ k : Nat, k < 45 ∧ fewD p m u v = .int k := by
  unfold fewD
  cases hf : (List.range' 0 39).find? (cF p m u v) with
  | some k =>
    have hk : k < 39 := by
      have := List.mem_of_find?_eq_some hf
      rw [List.mem_range'_1] at this
      omega
    exact .inr ⟨2 + k, by omega, rfl⟩
  | none => exact .inl rfl
theorem ans_both {n : Nat} {p m u v : Int} (hn : n ≤ 40) : Ans (.list [bestD n p m u v, fewD p m u v]) := by
  obtain ⟨i, j, hi, hj, e⟩ := best_form (n := n) (p := p) (m := m) (u := u) (v := v) hn
  rw [e]
  exact ans_of hi hj few_form
theorem v_right {N : Nat} {μ : Mem} {h : Nat} (s : Src N μ h) (hN : N ≤ 100) : ∃ μ', sem__law_right [.o h] μ = .ok (.v (.bool true)) μ' := by
  obtain ⟨d, μ1, e1, d0, d1, s1, l1⟩ := v_draw (many := 9) s (by omega) (by omega) (by omega)
  obtain ⟨d, rfl⟩ : ∃ y : Nat, d = y := ⟨d.toNat, by omega⟩
  obtain ⟨p, m, μ2, e2, q, s2, l2⟩ := v_inner s1 (by omega)
  obtain ⟨u, v, μ3, e3, w, s3, l3⟩ := v_wish (n := 1 + d) s2 (by omega) q (by omega) (by omega)
  obtain ⟨z, μ4, e4, z0, z1, s4, l4⟩ := v_draw (many := 2) s3 (by omega) (by omega) (by omega)
  have hd : (1 : Int) + (d : Int) = ((1 + d : Nat) : Int) := by omega
  have b1 := v_best (n := 1 + d) q w (by omega) (by omega) μ4
  have b2 := v_fewest q w μ4
  have b3 := v_lbest (n := 1 + d) q w (by omega) (by omega) μ4
  have b4 := v_lfewest q w μ4
  have an := ans_both (n := 1 + d) (p := p) (m := m) (u := u) (v := v) (by omega)
  have g : (2 : Nat) ≤ capN := by unfold capN; omega
  have re := ans_repr an μ4
  have sh := str_shaped an.sh
  have ev := str_eqv (PyData.shown (.list [bestD (1 + d) p m u v, fewD p m u v]))
  refine ⟨μ4, defF_same rfl (seq_nx (ρ1 := [some (.o h), none, some (.v (.int ((1 + d : Nat) : Int))), some (.v (tp p m)), none]) (μ1 := μ2) ?_ (seq_nx (ρ1 := [some (.o h), some (.v (tp u v)), some (.v (.int ((1 + d : Nat) : Int))), some (.v (tp p m)), none]) (μ1 := μ3) ?_
    (seq_nx (ρ1 := [some (.o h), some (.v (tp u v)), some (.v (.int ((1 + d : Nat) : Int))), some (.v (tp p m)), some (.v (.list [bestD (1 + d) p m u v, fewD p m u v]))]) (μ1 := μ4) ?_ (ret_v (s := .v (.bool true)) (μ1 := μ4) ?_)))) (by omega)⟩
  · show sPar 2 3 _ [some (.o h), none, none, none, none] μ = _
    simp only [sPar, mCall, mCons, mNil, mOp, mVar, mC, oAdd, List.getElem?_cons_zero, List.getElem?_cons_succ, List.set_cons_zero, List.set_cons_succ, Res.bind_ok, Res.out_ok, e1, e2, hd]
  · simp only [sAsg, mCall, mCons, mNil, mVar, tgSet, List.getElem?_cons_zero, List.getElem?_cons_succ, List.set_cons_zero, List.set_cons_succ, Res.bind_ok, Res.out_ok, e3]
  · by_cases c : z = 0
    · refine if_t (μ1 := μ4) ?_ ?_
      · simp only [mTB, oB, mOp, mCall, mCons, mNil, mVar, mC, eqInt, List.getElem?_cons_zero, List.getElem?_cons_succ, Res.bind_ok, e4, c, decide_true, Bool.false_eq_true, if_false]
      · simp only [sAsg, mLst, mCall, mCons, mNil, mVar, dsOf, guardR, tgSet, List.getElem?_cons_zero, List.getElem?_cons_succ, List.set_cons_zero, List.set_cons_succ, Res.bind_ok, Res.out_ok, b1, b2, Option.map_some, List.length_cons, List.length_nil, Nat.zero_add, Nat.reduceAdd, g, decide_true, if_true]
    · refine if_f (μ1 := μ4) ?_ ?_
      · simp only [mTB, oB, mOp, mCall, mCons, mNil, mVar, mC, eqInt, List.getElem?_cons_zero, List.getElem?_cons_succ, Res.bind_ok, e4, c, decide_false, Bool.false_eq_true, if_false]
      · have p1 : pick [2, 1, 0] ([] ++ [Sl.v (tp u v), Sl.v (tp p m), Sl.v (.int ((1 + d : Nat) : Int))]) = [Sl.v (.int ((1 + d : Nat) : Int)), Sl.v (tp p m), Sl.v (tp u v)] := rfl
        have p2 : pick [1, 0] ([] ++ [Sl.v (tp u v), Sl.v (tp p m)]) = [Sl.v (tp p m), Sl.v (tp u v)] := rfl
        simp only [sAsg, mLst, mCallK, mCons, mNil, mVar, dsOf, guardR, tgSet, List.getElem?_cons_zero, List.getElem?_cons_succ, List.set_cons_zero, List.set_cons_succ, Res.bind_ok, Res.out_ok, p1, p2, b1, b2, Option.map_some, List.length_cons, List.length_nil, Nat.zero_add, Nat.reduceAdd, and_self, g, decide_true, if_true]
  · simp only [mOp, mCB, mLst, mCall, mCons, mNil, mVar, dsOf, guardR, oEq, daOf, List.getElem?_cons_zero, List.getElem?_cons_succ, Res.bind_ok, re, b3, b4, Option.map_some, List.length_cons, List.length_nil, Nat.zero_add, Nat.reduceAdd, g, decide_true, if_true, sh, ev, Bool.and_self, Bool.false_eq_true, if_false]
theorem lc_true {i : Nat} {elt : ME} {ρ : Ro} : ∀ (items acc : List PyData) (μ : Mem), (∀ d ∈ items, ∀ μ, ∃ μ', elt (ρ.set i (some (.v d))) μ = .ok (.v (.bool true)) μ') → acc.length + items.length ≤ capN →
    ∃ μ', lcGo (.n i) mYes elt [] ρ items acc μ = .ok (acc ++ items.map fun _ => .bool true) μ'
  | [], acc, μ, _, _ => ⟨μ, by simp [lcGo, watch0]⟩
  | d :: ds, acc, μ, h, hc => by
    obtain ⟨μ1, h1⟩ := h d List.mem_cons_self μ
    obtain ⟨μ2, ih⟩ := lc_true ds (acc ++ [.bool true]) μ1 (fun e he => h e (List.mem_cons_of_mem _ he)) (by simp at hc ⊢; omega)
    have hl : acc.length < capN := by simp at hc; omega
    exact ⟨μ2, by simp [lcGo, watch0, tgSet, mYes, h1, hl, ih]⟩
theorem bools_true : ∀ l : List PyData, boolsOf (l.map fun _ => PyData.bool true) = some (l.map fun _ => true)
  | [] => rfl
  | _ :: l => by simp [boolsOf, bools_true l]
theorem all_true : ∀ l : List PyData, (l.map fun _ => true).all id = true
  | [] => rfl
  | _ :: l => by simp
theorem pure27 (ns : List Int) (hl : ns.length ≤ 63) : sem_law [.s (ns.map PyData.int)] [] = .ok (.v (.bool true)) [] := by
  obtain ⟨c, hc, c3⟩ : ∃ c : Nat, (if (if (3 : Int) < (ns.length : Int) then (3 : Int) else (ns.length : Int)) > 2 then (if (3 : Int) < (ns.length : Int) then (3 : Int) else (ns.length : Int)) else 2) = c ∧ c ≤ 3 := by
    by_cases a : (3 : Int) < (ns.length : Int)
    · exact ⟨3, by rw [if_pos a, if_pos (by omega)]; rfl, by omega⟩
    · rw [if_neg a]
      by_cases b : (ns.length : Int) > 2
      · exact ⟨ns.length, by rw [if_pos b], by omega⟩
      · exact ⟨2, by rw [if_neg b]; rfl, by omega⟩
  have hr : mIR1 (mCons (mCB fMax2 (mCons (mC (.int 2)) (mCons (mCB fMin2 (mCons (mCB fLen (mCons (mVar 0) mNil)) (mCons (mC (.int 3)) mNil))) mNil))) mNil) [some (.s (ns.map PyData.int)), none] [] = .ok (intsUp 0 c, []) [] := by
    refine mIR1_at ?_ (inl (by omega) (by omega))
    simp only [mCons, mNil, mCB, mC, mVar, fMax2, fMin2, fLen, tuOf, rdOf, List.length_map, List.getElem?_cons_zero, Res.bind_ok, hc]
  obtain ⟨μ', e⟩ := lc_true (i := 1) (elt := mCall sem__law_right (mCons (mCall sem__law_source (mCons (mVar 0) (mCons (mVar 1) mNil))) mNil)) (ρ := [some (.s (ns.map PyData.int)), none]) (intsUp 0 c) [] [] (fun d hd μ => by
    obtain ⟨t, ht, rfl⟩ := List.mem_map.mp hd
    have ht := List.mem_range.mp ht
    obtain ⟨a, b, e1, a0, b0, b1⟩ := v_source (ns := ns) (t := t) (by omega) μ
    have s : Src 0 (μ ++ [some [.int a, .int b, .int 0]]) μ.length := ⟨a, b, 0, mem_get _ _, a0, b0, b1, by omega, by omega⟩
    obtain ⟨μ2, e2⟩ := v_right s (by omega)
    refine ⟨μ2, ?_⟩
    have et : (0 : Int) + (t : Int) = (t : Int) := by omega
    rw [et]
    simp only [mCall, mCons, mNil, mVar, List.getElem?_cons_zero, List.getElem?_cons_succ, List.set_cons_zero, List.set_cons_succ, Res.bind_ok, e1, e2]) (by rw [intsUp_len]; unfold capN; simp; omega)
  refine defF_v rfl (ret_v (s := .v (.bool true)) (μ1 := μ') ?_) (by simp)
  have e5 : mLc (mIR1 (mCons (mCB fMax2 (mCons (mC (.int 2)) (mCons (mCB fMin2 (mCons (mCB fLen (mCons (mVar 0) mNil)) (mCons (mC (.int 3)) mNil))) mNil))) mNil)) (.n 1) mYes (mCall sem__law_right (mCons (mCall sem__law_source (mCons (mVar 0) (mCons (mVar 1) mNil))) mNil)) [1] [some (.s (ns.map PyData.int)), none] [] = .ok (.v (.list ((intsUp 0 c).map fun _ => .bool true))) μ' := by
    unfold mLc lcRun
    rw [hr]
    simp only [Res.bind_ok]
    show (lcGo (.n 1) mYes _ [] [some (.s (ns.map PyData.int)), none] (intsUp 0 c) [] []).bind _ = _
    rw [e, List.nil_append]
    rfl
  show mCB fAll (mCons (mLc _ _ _ _ _) mNil) [some (.s (ns.map PyData.int)), none] [] = _
  simp only [mCB, mCons, mNil, e5, Res.bind_ok, fAll, rdOf, lsOf, Option.bind_some, bools_true, all_true]
end Lw
set_option Elab.async false
set_option linter.all false
set_option maxRecDepth 100000
set_option maxHeartbeats 0
open PySem PySem.W PySem.Calls PyProof.Rows
theorem PySem.Challenge.cw_anydraws_k27_whole_best_and_fewest_place_holds : PySem.Challenge.rw_anydraws_k27_whole_best_and_fewest_place.Holds := by
  w_on; o_law
  refine HandSHeadRun.head_imp (r := Lw.R) (q := view Lw.R.prog [0, 39]) (H := Lw.hk) (ob := Lw.ob) (M := 6000) (loose := Lw.looseL) (d := HandSHeadRun.topDef Lw.R.prog 39) (kwd := []) Lw.ob_eq Lw.run
    (by kernel_rfl) (by kernel_rfl) (by kernel_rfl) (by rfl) (by first | assumption | decide +kernel) (by decide +kernel) ⟨rfl, rfl, rfl, rfl, rfl, by decide +kernel⟩ ?hw ?hc
  case hw => w_witness2
  case hc =>
    refine Ly.walkG (l := PySem.Challenge.rw_anydraws_k27_whole_best_and_fewest_place) (n := 63) (k := 7) (x := "script") rfl (by decide) (by kernel_rfl) ⟨rfl, by decide, by decide⟩ ?F
    intro w mg fa h Y G hmg0
    obtain ⟨K, KX, c⟩ := Y
    have hmg : mg ("law" : PySem.Str) = some (.ref fa) := by
      have e : (HandSHeadRun.topDef Lw.R.prog 39).name = ("law" : PySem.Str) := by kernel_rfl
      rw [← e]
      exact hmg0
    obtain ⟨C⟩ := Lw.factsX KX G c
    have ef := hmg.symm.trans C.g_law
    cases ef
    have b := Lw.b_law C
    exact ⟨K, C.fd_law, Lw.sem_law, KX, fun s v => (L2.FunD.bindsA (ps := ["script"]) C.F_law fun _ _ _ _ _ _ us hl => match us, hl with | [_], _ => rfl) s [v] rfl, Lw.pure27, fun base _ _ => Lw.ok_law C⟩
