import PyProof.Rows.All
import Wide.All
import OpenK.AllK
import Wide.FinOn
import HandS.ForMost
import HandS.ForExc
import HandS.IsInst
import HandS.Wide
import HandS.DictEq
import KE.KEqNest
import HandS.DictComp
import HandS.TupAny
import HandS.More
import HandS.Iter
import HandS.Comp
import HandS.CallSlots
import HandS.Text
import HandS.WordsDict
import HandS.Conv
import HandS.Small
import HandS.Finally
import HandS.ExcOwn
import HandS.ExcIs
import HandS.EndBits
import HandS.Ends
import PySem.Challenge.RW_formlens_k01_what_is_a_step
set_option Elab.async false
set_option linter.all false
set_option maxRecDepth 100000
noncomputable section
namespace Fmx
open PySem PySem.Spec PyProof.Rows L2

/-- a value, as a whole -/
inductive D where
  | non | bl (b : Bool) | int (i : Int) | str (x : Str)
  | lst (xs : List D) | tup (xs : List D) | dct (kvs : List (Key × D))
  | obj (k : Nat) | exc (c : Str) | scr (ns : List Int)

/-- shared and never changed; one's own; one's own, locked by a walk; lent by the caller -/
inductive Tg where | shr | own | lck | brw
def Tg.mine : Tg → Bool
  | .own => true
  | .lck => true
  | _ => false
structure R where
  tag : Tg
  d : D
/-- what stands in the store: an instance with its lists, a list, a dict -/
inductive Ob where
  | ins (fs : List (Str × List D)) | lst (xs : List D) | dct (kvs : List (Key × D))
abbrev Bk := List Ob
abbrev Rho := List (Option R)
inductive Res (α : Type) where
  | ok (a : α) | ex (c : Str)
abbrev M (α : Type) := Bk → Option (Res α × Bk)
abbrev FE := Rho → M D
abbrev FT := Rho → M Bool
abbrev FA := Rho → M (List D)
inductive Fl where
  | nx (ρ : Rho) | ret (r : R) | brk (ρ : Rho) | cnt (ρ : Rho) | ex (c : Str) (ρ : Rho)
abbrev FS := Rho → Bk → Option (Fl × Bk)

structure GE where
  cB : Addr
  ca : Str → Value
structure Wd where
  F : Hp
  w : Addr → Option Nat
  m : List Addr
  x : Option (Addr × Str)

mutual
def Rep (K : PySem.W.Frag) (W : Wd) : D → V → Prop
  | .non, v => v = .non
  | .bl b, v => v = .bl b
  | .int i, v => v = .int i
  | .str x, v => v = .str x
  | .lst ds, v => ∃ a xs, v = .ref a ∧ W.F a = some (.lst xs) ∧ Reps K W ds xs
  | .tup ds, v => ∃ a xs, v = .ref a ∧ SqT K W.F a xs ∧ Reps K W ds xs
  | .dct ks, v => ∃ a kvs, v = .ref a ∧ W.F a = some (.dK kvs) ∧ RepK K W ks kvs
  | .obj k, v => ∃ a, v = .ref a ∧ W.m[k]? = some a
  | .exc c, v => ∃ a, v = .ref a ∧ W.x = some (a, c)
  | .scr ns, v => ∃ a, v = .ref a ∧ SqL K W.F a (ns.map V.int)
def Reps (K : PySem.W.Frag) (W : Wd) : List D → List V → Prop
  | [], vs => vs = []
  | d :: ds, vs => ∃ v r, vs = v :: r ∧ Rep K W d v ∧ Reps K W ds r
def RepK (K : PySem.W.Frag) (W : Wd) : List (Key × D) → List (Key × V) → Prop
  | [], kvs => kvs = []
  | (k, d) :: ds, kvs => ∃ v r, kvs = (k, v) :: r ∧ Rep K W d v ∧ RepK K W ds r
end

theorem rd_mono {F F' : Hp} (h : ∀ a u, F a = some u → F' a = some u) {a : Addr} {u : HO} (r : Rd F a u) : Rd F' a u := by
  rcases r with r | ⟨o, r⟩
  · exact .inl (h _ _ r)
  · exact .inr ⟨o, h _ _ r⟩
theorem sql_mono {K : PySem.W.Frag} {F F' : Hp} (h : ∀ a u, Rd F a u → Rd F' a u) {a : Addr} {xs : List V} (r : SqL K F a xs) : SqL K F' a xs := by
  rcases r with r | r
  · exact .inl (h _ _ r)
  · exact .inr r
theorem sqt_mono {K : PySem.W.Frag} {F F' : Hp} (h : ∀ a u, Rd F a u → Rd F' a u) {a : Addr} {xs : List V} (r : SqT K F a xs) : SqT K F' a xs := by
  rcases r with r | r
  · exact .inl (h _ _ r)
  · exact .inr r
structure Le (W W' : Wd) : Prop where
  F : ∀ a u, W.F a = some u → W'.F a = some u
  m : ∀ (k : Nat) (a : Addr), W.m[k]? = some a → W'.m[k]? = some a
  x : ∀ p, W.x = some p → W'.x = some p
mutual
theorem Rep.mono {K : PySem.W.Frag} {W W' : Wd} (h : Le W W') : ∀ {d : D} {v : V}, Rep K W d v → Rep K W' d v
  | .non, _, r => r
  | .bl _, _, r => r
  | .int _, _, r => r
  | .str _, _, r => r
  | .lst _, _, ⟨a, xs, e, s, r⟩ => ⟨a, xs, e, h.F _ _ s, Reps.mono h r⟩
  | .scr _, _, ⟨a, e, s⟩ => ⟨a, e, sql_mono (fun _ _ => rd_mono h.F) s⟩
  | .tup _, _, ⟨a, xs, e, s, r⟩ => ⟨a, xs, e, sqt_mono (fun _ _ => rd_mono h.F) s, Reps.mono h r⟩
  | .dct _, _, ⟨a, xs, e, s, r⟩ => ⟨a, xs, e, h.F _ _ s, RepK.mono h r⟩
  | .obj _, _, ⟨a, e, r⟩ => ⟨a, e, h.m _ _ r⟩
  | .exc _, _, ⟨a, e, r⟩ => ⟨a, e, h.x _ r⟩
theorem Reps.mono {K : PySem.W.Frag} {W W' : Wd} (h : Le W W') : ∀ {ds : List D} {vs : List V}, Reps K W ds vs → Reps K W' ds vs
  | [], _, r => r
  | _ :: _, _, ⟨v, r, e, a, b⟩ => ⟨v, r, e, Rep.mono h a, Reps.mono h b⟩
theorem RepK.mono {K : PySem.W.Frag} {W W' : Wd} (h : Le W W') : ∀ {ds : List (Key × D)} {vs : List (Key × V)}, RepK K W ds vs → RepK K W' ds vs
  | [], _, r => r
  | (_, _) :: _, _, ⟨v, r, e, a, b⟩ => ⟨v, r, e, Rep.mono h a, RepK.mono h b⟩
end

def CellOk (K : PySem.W.Frag) (W : Wd) (H : Hp) (p : Addr) : D → Prop
  | .lst ds => ∃ xs, H p = some (.lst xs) ∧ Reps K W ds xs
  | .dct ks => ∃ kvs, H p = some (.dK kvs) ∧ RepK K W ks kvs
  | _ => False
def SlotOk (K : PySem.W.Frag) (W : Wd) (H : Hp) (v : V) : R → Prop
  | ⟨.shr, d⟩ => Rep K W d v
  | ⟨.own, d⟩ => ∃ p, v = .ref p ∧ W.F p = none ∧ W.w p = none ∧ CellOk K W H p d
  | ⟨.brw, d⟩ => ∃ p, v = .ref p ∧ W.F p = none ∧ W.w p = none ∧ CellOk K W H p d
  | ⟨.lck, d⟩ => ∃ p, v = .ref p ∧ W.F p = none ∧ W.w p = none ∧ ∃ ks kvs o, d = .dct ks ∧ H p = some (.frz o (.dK kvs)) ∧ RepK K W ks kvs
/-- the fields of an instance: each a list of its own -/
def FsOk (K : PySem.W.Frag) (W : Wd) (H : Hp) (k : Nat) (a dx : Addr) : List (Str × List D) → List (Str × V) → Prop
  | [], fs => fs = []
  | (f, ds) :: r, fs => ∃ p xs q, fs = (f, .ref p) :: q ∧ p ≠ a ∧ p ≠ dx ∧ W.w p = some k ∧ H p = some (.lst xs) ∧ Reps K W ds xs ∧ (∀ g v, (g, v) ∈ q → v ≠ .ref p) ∧ FsOk K W H k a dx r q
def ObOk (K : PySem.W.Frag) (G : GE) (W : Wd) (H : Hp) (k : Nat) (a : Addr) : Ob → Prop
  | .ins fs => ∃ dx gs, H a = some (.ins G.cB dx gs) ∧ W.w a = some k ∧ W.w dx = some k ∧ FsOk K W H k a dx fs gs
  | .lst ds => W.w a = some k ∧ CellOk K W H a (.lst ds)
  | .dct ks => W.w a = some k ∧ CellOk K W H a (.dct ks)
structure Ok (K : PySem.W.Frag) (G : GE) (W : Wd) (H : Hp) (B : Bk) : Prop where
  cov : ∀ a u, W.F a = some u → H a = some u ∨ ∃ kvs o, u = .dK kvs ∧ H a = some (.frz o u)
  wf : ∀ a k, W.w a = some k → W.F a = none ∧ H a ≠ none
  len : W.m.length = B.length
  ob : ∀ (k : Nat) (o : Ob), B[k]? = some o → ∃ a : Addr, W.m[k]? = some a ∧ ObOk K G W H k a o
structure Slots (K : PySem.W.Frag) (W : Wd) (H : Hp) (σ : L2.St) (ρ : Rho) : Prop where
  len : σ.length = ρ.length
  ok : ∀ (i : Nat) (r : R), ρ[i]? = some (some r) → ∃ v, σ[i]? = some (some v) ∧ SlotOk K W H v r
  inj : ∀ (i j : Nat) (r q : R) (v : V), ρ[i]? = some (some r) → ρ[j]? = some (some q) → r.tag.mine = true → q.tag.mine = true → σ[i]? = some (some v) → σ[j]? = some (some v) → i = j
structure Stp (W : Wd) (H : Hp) (W' : Wd) (H' : Hp) : Prop where
  F : ∀ a u, W.F a = some u → W'.F a = some u
  Fn : ∀ a, W.F a = none → H a ≠ none → W'.F a = none
  w : ∀ a k, W.w a = some k → W'.w a = some k
  wn : ∀ a, W.w a = none → H a ≠ none → W'.w a = none
  m : ∀ (k : Nat) (a : Addr), W.m[k]? = some a → W'.m[k]? = some a
  x : W'.x = W.x
  th : ∀ a, H a ≠ none → H' a ≠ none
  H : ∀ a o, W.w a = none → H a = some o → H' a = some o
theorem Stp.refl (W : Wd) (H : Hp) : Stp W H W H := ⟨fun _ _ h => h, fun _ h _ => h, fun _ _ h => h, fun _ h _ => h, fun _ _ h => h, rfl, fun _ h => h, fun _ _ _ h => h⟩
theorem Stp.tr {W W1 W2 : Wd} {H H1 H2 : Hp} (a : Stp W H W1 H1) (b : Stp W1 H1 W2 H2) : Stp W H W2 H2 where
  F := fun c u h => b.F c u (a.F c u h)
  Fn := fun c h h2 => b.Fn c (a.Fn c h h2) (a.th c h2)
  w := fun c k h => b.w c k (a.w c k h)
  wn := fun c h h2 => b.wn c (a.wn c h h2) (a.th c h2)
  m := fun k c h => b.m k c (a.m k c h)
  x := b.x.trans a.x
  H := fun c o h h2 => b.H c o (a.wn c h (by rw [h2]; exact fun z => nomatch z)) (a.H c o h h2)
  th := fun c h => b.th c (a.th c h)
theorem Stp.fr {W W' : Wd} {H H' : Hp} (a : Stp W H W' H') {p : Addr} (h : H' p = none) : H p = none := by
  cases q : H p with
  | none => rfl
  | some x => exact absurd h (a.th p (by rw [q]; exact fun z => nomatch z))
theorem Stp.le {W W' : Wd} {H H' : Hp} (s : Stp W H W' H') : Le W W' := ⟨s.F, s.m, fun p h => by rw [s.x]; exact h⟩
theorem CellOk.mono {K : PySem.W.Frag} {W W' : Wd} {H H' : Hp} {p : Addr} {d : D} (l : Le W W') (h : ∀ o, H p = some o → H' p = some o) (c : CellOk K W H p d) : CellOk K W' H' p d := by
  cases d with
  | lst ds => obtain ⟨xs, e, r⟩ := c; exact ⟨xs, h _ e, r.mono l⟩
  | dct ds => obtain ⟨xs, e, r⟩ := c; exact ⟨xs, h _ e, r.mono l⟩
  | _ => exact c.elim
theorem CellOk.there {K : PySem.W.Frag} {W : Wd} {H : Hp} {p : Addr} {d : D} (c : CellOk K W H p d) : H p ≠ none := by
  cases d with
  | lst ds => obtain ⟨xs, e, r⟩ := c; rw [e]; exact fun z => nomatch z
  | dct ds => obtain ⟨xs, e, r⟩ := c; rw [e]; exact fun z => nomatch z
  | _ => exact c.elim
theorem SlotOk.step {K : PySem.W.Frag} {W W' : Wd} {H H' : Hp} {v : V} {r : R} (s : Stp W H W' H') (o : SlotOk K W H v r) : SlotOk K W' H' v r := by
  obtain ⟨t, d⟩ := r
  cases t with
  | shr => exact Rep.mono s.le o
  | own =>
    obtain ⟨p, e, f, w, c⟩ := o
    exact ⟨p, e, s.Fn p f c.there, s.wn p w c.there, c.mono s.le fun o h => s.H p o w h⟩
  | brw =>
    obtain ⟨p, e, f, w, c⟩ := o
    exact ⟨p, e, s.Fn p f c.there, s.wn p w c.there, c.mono s.le fun o h => s.H p o w h⟩
  | lck =>
    obtain ⟨p, e, f, w, ks, kvs, o, ed, c, r⟩ := o
    have th : H p ≠ none := by rw [c]; exact fun z => nomatch z
    exact ⟨p, e, s.Fn p f th, s.wn p w th, ks, kvs, o, ed, s.H p _ w c, r.mono s.le⟩
theorem Slots.step {K : PySem.W.Frag} {W W' : Wd} {H H' : Hp} {σ : L2.St} {ρ : Rho} (s : Stp W H W' H') (o : Slots K W H σ ρ) : Slots K W' H' σ ρ :=
  ⟨o.len, fun i r h => let ⟨v, e, k⟩ := o.ok i r h; ⟨v, e, k.step s⟩, o.inj⟩
theorem Ok.rd {K : PySem.W.Frag} {G : GE} {W : Wd} {H : Hp} {B : Bk} (o : Ok K G W H B) {a : Addr} {u : HO} (h : Rd W.F a u) : Rd H a u := by
  rcases h with h | ⟨q, h⟩
  · rcases o.cov a u h with h | ⟨_, q, _, h⟩
    · exact .inl h
    · exact .inr ⟨q, h⟩
  · rcases o.cov a _ h with h | ⟨_, _, e, _⟩
    · exact .inr ⟨q, h⟩
    · cases e
theorem Ok.lst {K : PySem.W.Frag} {G : GE} {W : Wd} {H : Hp} {B : Bk} (o : Ok K G W H B) {a : Addr} {xs : List V} (h : W.F a = some (.lst xs)) : H a = some (.lst xs) := by
  rcases o.cov a _ h with h | ⟨_, _, e, _⟩
  · exact h
  · cases e
theorem Ok.sql {K : PySem.W.Frag} {G : GE} {W : Wd} {H : Hp} {B : Bk} (o : Ok K G W H B) {a : Addr} {xs : List V} (h : SqL K W.F a xs) : SqL K H a xs := by
  rcases h with h | h
  · exact .inl (o.rd h)
  · exact .inr h
theorem Ok.sqt {K : PySem.W.Frag} {G : GE} {W : Wd} {H : Hp} {B : Bk} (o : Ok K G W H B) {a : Addr} {xs : List V} (h : SqT K W.F a xs) : SqT K H a xs := by
  rcases h with h | h
  · exact .inl (o.rd h)
  · exact .inr h

/-! ### a new thing that never changes -/
def Wd.fz (W : Wd) (p : Addr) (u : HO) : Wd := { W with F := upd W.F p u }
section
variable {K : PySem.W.Frag} {G : GE} {W : Wd} {H : Hp} {B : Bk} {p : Addr} {u : HO}
theorem Ok.wn (o : Ok K G W H B) (hp : H p = none) : W.w p = none := by
  cases q : W.w p with
  | none => rfl
  | some k => exact absurd hp (o.wf p k q).2
theorem Ok.fn (o : Ok K G W H B) (hp : H p = none) : W.F p = none := by
  cases q : W.F p with
  | none => rfl
  | some k => rcases o.cov p k q with h | ⟨_, _, _, h⟩ <;> (rw [hp] at h; cases h)
theorem FsOk.mono {W' : Wd} {H' : Hp} {k : Nat} {a dx : Addr} (l : Le W W') (hw : ∀ b, W.w b = some k → W'.w b = some k) (hh : ∀ b x, W.w b = some k → H b = some x → H' b = some x) :
    ∀ {fs : List (Str × List D)} {gs : List (Str × V)}, FsOk K W H k a dx fs gs → FsOk K W' H' k a dx fs gs
  | [], _, r => r
  | (_, _) :: _, _, ⟨p, xs, q, e, n1, n2, w, h, r, nd, t⟩ => ⟨p, xs, q, e, n1, n2, hw p w, hh p _ w h, r.mono l, nd, FsOk.mono l hw hh t⟩
theorem ObOk.mono {W' : Wd} {H' : Hp} {k : Nat} {a : Addr} {x : Ob} (l : Le W W') (hw : ∀ b, W.w b = some k → W'.w b = some k) (hh : ∀ b y, W.w b = some k → H b = some y → H' b = some y) (o : ObOk K G W H k a x) : ObOk K G W' H' k a x := by
  cases x with
  | ins fs => obtain ⟨dx, gs, e, w1, w2, f⟩ := o; exact ⟨dx, gs, hh _ _ w1 e, hw _ w1, hw _ w2, f.mono l hw hh⟩
  | lst ds => obtain ⟨w1, c⟩ := o; exact ⟨hw _ w1, c.mono l fun o h => hh _ _ w1 h⟩
  | dct ds => obtain ⟨w1, c⟩ := o; exact ⟨hw _ w1, c.mono l fun o h => hh _ _ w1 h⟩
theorem fz_stp (o : Ok K G W H B) (hp : H p = none) : Stp W H (W.fz p u) (upd H p u) where
  F := fun a v h => by
    show upd W.F p u a = _
    rw [upd_ne (fun e => by subst e; rw [o.fn hp] at h; cases h)]; exact h
  Fn := fun a h h2 => by
    show upd W.F p u a = _
    rw [upd_ne (fun e => by subst e; exact h2 hp)]; exact h
  w := fun _ _ h => h
  wn := fun _ h _ => h
  m := fun _ _ h => h
  x := rfl
  H := fun a v _ h => by rw [upd_ne (fun e => by subst e; rw [hp] at h; cases h)]; exact h
  th := fun a h => by rw [upd_ne (fun e => by subst e; exact h hp)]; exact h
theorem fz_ok (o : Ok K G W H B) (hp : H p = none) : Ok K G (W.fz p u) (upd H p u) B where
  cov := fun a v h => by
    by_cases e : a = p
    · subst e
      have h : upd W.F a u a = some v := h
      rw [upd_same] at h; cases h; exact .inl upd_same
    · have h : upd W.F p u a = some v := h
      rw [upd_ne e] at h ⊢; exact o.cov a v h
  wf := fun a k h => by
    have ne : a ≠ p := fun e => by subst e; exact (o.wf a k h).2 hp
    have := o.wf a k h
    refine ⟨?_, by rw [upd_ne ne]; exact this.2⟩
    show upd W.F p u a = _
    rw [upd_ne ne]; exact this.1
  len := o.len
  ob := fun k x h => by
    obtain ⟨a, e, q⟩ := o.ob k x h
    refine ⟨a, e, q.mono (fz_stp o hp).le (fun _ h => h) fun b y h h2 => ?_⟩
    rw [upd_ne (fun e => by subst e; rw [hp] at h2; cases h2)]; exact h2
end
/-- what was laid but belongs to none, is frozen: the abstract heap stays -/
theorem late_fz {K : PySem.W.Frag} {G : GE} {W W' : Wd} {H H' : Hp} {B : Bk} {p : Addr} {u : HO} (s : Stp W H W' H') (o : Ok K G W' H' B) (h0 : H p = none) (hF : W'.F p = none) (hw : W'.w p = none) (hp : H' p = some u) :
    Stp W H (W'.fz p u) H' ∧ Ok K G (W'.fz p u) H' B ∧ Le W' (W'.fz p u) := by
  have F1 : ∀ a v, W'.F a = some v → (W'.fz p u).F a = some v := fun a v h => by
    show upd W'.F p u a = _
    rw [upd_ne (fun e => by subst e; rw [hF] at h; cases h)]; exact h
  have le : Le W' (W'.fz p u) := ⟨F1, fun _ _ h => h, fun _ h => h⟩
  refine ⟨⟨fun a v h => F1 a v (s.F a v h), fun a h h2 => ?_, s.w, s.wn, s.m, s.x, s.th, s.H⟩, ⟨fun a v h => ?_, fun a k h => ?_, o.len, fun k x h => ?_⟩, le⟩
  · show upd W'.F p u a = _
    rw [upd_ne (fun e => by subst e; exact h2 h0)]; exact s.Fn a h h2
  · by_cases e : a = p
    · subst e
      have h : upd W'.F a u a = some v := h
      rw [upd_same] at h; cases h; exact .inl hp
    · have h : upd W'.F p u a = some v := h
      rw [upd_ne e] at h; exact o.cov a v h
  · have := o.wf a k h
    refine ⟨?_, this.2⟩
    show upd W'.F p u a = _
    rw [upd_ne (fun e => by subst e; have h : W'.w a = some k := h; rw [hw] at h; cases h)]; exact this.1
  · obtain ⟨a, e, q⟩ := o.ob k x h
    exact ⟨a, e, q.mono le (fun _ h => h) fun _ _ _ h => h⟩

/-! ### readings -/
variable (K : PySem.W.Frag) (G : GE) (Wx : WX)
def RdE (f : FE) : TE := fun σ H Q => ∃ ρ B W, Ok K G W H B ∧ Slots K W H σ ρ ∧ ∃ o, f ρ B = some o ∧ match o with
  | (.ok d, B') => ∀ W' H' v, Stp W H W' H' → Ok K G W' H' B' → Rep K W' d v → Q v H'
  | (.ex c, B') => ∀ W' H', Stp W H W' H' → Ok K G W' H' B' → Wx (G.ca c) none σ H'
/-- a new list or dict that belongs to none -/
def RdF (f : FE) : TE := fun σ H Q => ∃ ρ B W, Ok K G W H B ∧ Slots K W H σ ρ ∧ ∃ o, f ρ B = some o ∧ match o with
  | (.ok d, B') => ∀ W' H' p, Stp W H W' H' → Ok K G W' H' B' → H p = none → W'.F p = none → W'.w p = none → CellOk K W' H' p d → Q (.ref p) H'
  | (.ex c, B') => ∀ W' H', Stp W H W' H' → Ok K G W' H' B' → Wx (G.ca c) none σ H'
def RdT (f : FT) : TT := fun σ H Q => ∃ ρ B W, Ok K G W H B ∧ Slots K W H σ ρ ∧ ∃ o, f ρ B = some o ∧ match o with
  | (.ok d, B') => ∀ W' H', Stp W H W' H' → Ok K G W' H' B' → Q d H'
  | (.ex c, B') => ∀ W' H', Stp W H W' H' → Ok K G W' H' B' → Wx (G.ca c) none σ H'
def RdA (f : FA) : TA := fun σ H Q => ∃ ρ B W, Ok K G W H B ∧ Slots K W H σ ρ ∧ ∃ o, f ρ B = some o ∧ match o with
  | (.ok ds, B') => ∀ W' H' vs, Stp W H W' H' → Ok K G W' H' B' → Reps K W' ds vs → Q vs H'
  | (.ex c, B') => ∀ W' H', Stp W H W' H' → Ok K G W' H' B' → Wx (G.ca c) none σ H'
/-- from a body's entry on; the dicts at L are locked by its loops -/
structure LStp (L : List Addr) (W : Wd) (H : Hp) (W' : Wd) (H' : Hp) : Prop where
  F : ∀ a u, W.F a = some u → W'.F a = some u
  Fn : ∀ a, W.F a = none → H a ≠ none → W'.F a = none
  w : ∀ a k, W.w a = some k → W'.w a = some k
  wn : ∀ a, W.w a = none → H a ≠ none → W'.w a = none
  m : ∀ (k : Nat) (a : Addr), W.m[k]? = some a → W'.m[k]? = some a
  x : W'.x = W.x
  th : ∀ a, H a ≠ none → H' a ≠ none
  H : ∀ a o, W.w a = none → a ∉ L → H a = some o → H' a = some o
theorem LStp.stp {W W' : Wd} {H H' : Hp} (a : LStp [] W H W' H') : Stp W H W' H' := ⟨a.F, a.Fn, a.w, a.wn, a.m, a.x, a.th, fun b o h h2 => a.H b o h (by simp) h2⟩
theorem LStp.refl (L : List Addr) (W : Wd) (H : Hp) : LStp L W H W H := ⟨fun _ _ h => h, fun _ h _ => h, fun _ _ h => h, fun _ h _ => h, fun _ _ h => h, rfl, fun _ h => h, fun _ _ _ _ h => h⟩
theorem LStp.tr {L : List Addr} {W W1 W2 : Wd} {H H1 H2 : Hp} (a : LStp L W H W1 H1) (b : Stp W1 H1 W2 H2) : LStp L W H W2 H2 where
  F := fun c u h => b.F c u (a.F c u h)
  Fn := fun c h h2 => b.Fn c (a.Fn c h h2) (a.th c h2)
  w := fun c k h => b.w c k (a.w c k h)
  wn := fun c h h2 => b.wn c (a.wn c h h2) (a.th c h2)
  m := fun k c h => b.m k c (a.m k c h)
  x := b.x.trans a.x
  th := fun c h => b.th c (a.th c h)
  H := fun c o h hl h2 => b.H c o (a.wn c h (by rw [h2]; exact fun z => nomatch z)) (a.H c o h hl h2)
theorem LStp.fr {L : List Addr} {W W' : Wd} {H H' : Hp} (a : LStp L W H W' H') {p : Addr} (h : H' p = none) : H p = none := by
  cases q : H p with
  | none => rfl
  | some x => exact absurd h (a.th p (by rw [q]; exact fun z => nomatch z))
/-- the state of a body: W0 H0 the entry -/
structure SOk (W0 : Wd) (H0 : Hp) (L : List Addr) (W : Wd) (H : Hp) (σ : L2.St) (ρ : Rho) (B : Bk) : Prop where
  ok : Ok K G W H B
  sl : Slots K W H σ ρ
  st : LStp L W0 H0 W H
  nw : ∀ (i : Nat) (r : R) (v : V), ρ[i]? = some (some r) → r.tag.mine = true → σ[i]? = some (some v) → ∃ p, v = .ref p ∧ H0 p = none
  bw : ∀ (i : Nat) (r : R) (v : V), ρ[i]? = some (some r) → r.tag = Tg.brw → σ[i]? = some (some v) → ∃ p, v = .ref p ∧ H0 p ≠ none
def RetOk (W0 : Wd) (H0 : Hp) (W : Wd) (H : Hp) (v : V) : R → Prop
  | ⟨.own, d⟩ => ∃ p, v = .ref p ∧ H0 p = none ∧ W.F p = none ∧ W.w p = none ∧ CellOk K W H p d
  | ⟨_, d⟩ => Rep K W d v
/-- between two statements -/
structure SLe (W : Wd) (H : Hp) (W' : Wd) (H' : Hp) : Prop where
  le : Le W W'
  fx : ∀ a o, W.F a ≠ none → H a = some o → H' a = some o
theorem SLe.refl (W : Wd) (H : Hp) : SLe W H W H := ⟨⟨fun _ _ h => h, fun _ _ h => h, fun _ h => h⟩, fun _ _ _ h => h⟩
theorem Le.tr {W W1 W2 : Wd} (a : Le W W1) (b : Le W1 W2) : Le W W2 := ⟨fun c u h => b.F c u (a.F c u h), fun k c h => b.m k c (a.m k c h), fun p h => b.x p (a.x p h)⟩
theorem SLe.tr {W W1 W2 : Wd} {H H1 H2 : Hp} (a : SLe W H W1 H1) (b : SLe W1 H1 W2 H2) : SLe W H W2 H2 := ⟨a.le.tr b.le, fun c o h h2 => b.fx c o (fun z => by
  cases q : W.F c with
  | none => exact h q
  | some u => rw [a.le.F c u q] at z; cases z) (a.fx c o h h2)⟩
theorem Stp.sle {K : PySem.W.Frag} {G : GE} {W W' : Wd} {H H' : Hp} {B : Bk} (s : Stp W H W' H') (o : Ok K G W H B) : SLe W H W' H' := ⟨s.le, fun a x h h2 => s.H a x (by
  cases q : W.w a with
  | none => rfl
  | some k => exact absurd (o.wf a k q).1 h) h2⟩
def RdS (f : FS) : TS := fun D σ H => ∃ W0 H0 L ρ B W, SOk K G W0 H0 L W H σ ρ B ∧ ∃ o, f ρ B = some o ∧ match o with
  | (.nx ρ', B') => ∀ W' H' σ', SOk K G W0 H0 L W' H' σ' ρ' B' → SLe W H W' H' → D.nx σ' H'
  | (.ret r, B') => ∀ W' H' v, LStp L W0 H0 W' H' → Ok K G W' H' B' → SLe W H W' H' → RetOk K W0 H0 W' H' v r → D.rt v H'
  | (.brk ρ', B') => ∀ W' H' σ', SOk K G W0 H0 L W' H' σ' ρ' B' → SLe W H W' H' → D.bk σ' H'
  | (.cnt ρ', B') => ∀ W' H' σ', SOk K G W0 H0 L W' H' σ' ρ' B' → SLe W H W' H' → D.ct σ' H'
  | (.ex c ρ', B') => ∀ W' H' σ', SOk K G W0 H0 L W' H' σ' ρ' B' → SLe W H W' H' → Wx (G.ca c) none σ' H'
variable (X : Cx)
structure PEv (e : Expr) (f : FE) : Prop where run : PE X e (RdE X.K G Wx f)
structure PFv (e : Expr) (f : FE) : Prop where run : PE X e (RdF X.K G Wx f)
structure PTv (e : Expr) (f : FT) : Prop where run : PT X e (RdT X.K G Wx f)
structure PAv (es : List Expr) (f : FA) : Prop where run : PA X es (RdA X.K G Wx f)
structure PSv (s : Stmt) (f : FS) : Prop where run : PS X s (RdS X.K G Wx f)
structure PSsv (ss : List Stmt) (f : FS) : Prop where run : PSs X ss (RdS X.K G Wx f)
theorem pe_weak {X : Cx} {e : Expr} {t t' : TE} (h : PE X e t) (w : ∀ σ H Q, t' σ H Q → t σ H Q) : PE X e t' := ⟨fun pins s σ H Q I q => h.run pins s σ H Q I (w _ _ _ q)⟩
theorem pt_weak {X : Cx} {e : Expr} {t t' : TT} (h : PT X e t) (w : ∀ σ H Q, t' σ H Q → t σ H Q) : PT X e t' := ⟨fun pins s σ H Q I q => h.run pins s σ H Q I (w _ _ _ q)⟩
theorem pa_weak {X : Cx} {e : List Expr} {t t' : TA} (h : PA X e t) (w : ∀ σ H Q, t' σ H Q → t σ H Q) : PA X e t' := ⟨fun po pins s σ H Q I q => h.run po pins s σ H Q I (w _ _ _ q)⟩
theorem ps_weak {X : Cx} {e : Stmt} {t t' : TS} (h : PS X e t) (w : ∀ D σ H, t' D σ H → t D σ H) : PS X e t' := ⟨fun pins s σ H D I q => h.run pins s σ H D I (w _ _ _ q)⟩
theorem pss_weak {X : Cx} {e : List Stmt} {t t' : TS} (h : PSs X e t) (w : ∀ D σ H, t' D σ H → t D σ H) : PSs X e t' := ⟨fun pins s σ H D I q => h.run pins s σ H D I (w _ _ _ q)⟩
end Fmx

namespace Fmx
open PySem PySem.Spec PyProof.Rows L2

/-! ### values as they are seen -/
def Vw (K : PySem.W.Frag) (W : Wd) (H : Hp) : D → V → Prop
  | .lst ds, v => ∃ p xs, v = .ref p ∧ (W.F p = some (.lst xs) ∨ (W.w p = none ∧ H p = some (.lst xs))) ∧ Reps K W ds xs
  | .dct ks, v => ∃ p kvs, v = .ref p ∧ (W.F p = some (.dK kvs) ∨ (W.w p = none ∧ Rd H p (.dK kvs))) ∧ RepK K W ks kvs
  | d, v => Rep K W d v
section
variable {K : PySem.W.Frag} {G : GE} {W W' : Wd} {H H' : Hp} {B : Bk} {d : D} {v : V}
theorem Rep.vw (r : Rep K W d v) : Vw K W H d v := by
  cases d with
  | lst ds => obtain ⟨p, xs, e, s, r⟩ := r; exact ⟨p, xs, e, .inl s, r⟩
  | dct ds => obtain ⟨p, xs, e, s, r⟩ := r; exact ⟨p, xs, e, .inl s, r⟩
  | _ => exact r
theorem Vw.step (s : Stp W H W' H') (r : Vw K W H d v) : Vw K W' H' d v := by
  have hr : ∀ {p u}, W.w p = none → Rd H p u → W'.w p = none ∧ Rd H' p u := fun {p u} w h => by
    rcases h with h | ⟨o, h⟩
    · exact ⟨s.wn p w (by rw [h]; exact fun z => nomatch z), .inl (s.H p _ w h)⟩
    · exact ⟨s.wn p w (by rw [h]; exact fun z => nomatch z), .inr ⟨o, s.H p _ w h⟩⟩
  cases d with
  | lst ds =>
    obtain ⟨p, xs, e, c, r⟩ := r
    refine ⟨p, xs, e, ?_, r.mono s.le⟩
    rcases c with c | ⟨w, c⟩
    · exact .inl (s.F _ _ c)
    · exact .inr ⟨s.wn p w (by rw [c]; exact fun z => nomatch z), s.H p _ w c⟩
  | dct ds =>
    obtain ⟨p, xs, e, c, r⟩ := r
    refine ⟨p, xs, e, ?_, r.mono s.le⟩
    rcases c with c | ⟨w, c⟩
    · exact .inl (s.F _ _ c)
    · exact .inr (hr w c)
  | non => exact Rep.mono s.le r
  | bl _ => exact Rep.mono s.le r
  | int _ => exact Rep.mono s.le r
  | str _ => exact Rep.mono s.le r
  | tup _ => exact Rep.mono s.le r
  | obj _ => exact Rep.mono s.le r
  | exc _ => exact Rep.mono s.le r
  | scr _ => exact Rep.mono s.le r
theorem Vw.lst {ds : List D} (o : Ok K G W H B) (r : Vw K W H (.lst ds) v) : ∃ p xs, v = .ref p ∧ H p = some (.lst xs) ∧ Reps K W ds xs := by
  obtain ⟨p, xs, e, c, r⟩ := r
  refine ⟨p, xs, e, ?_, r⟩
  rcases c with c | ⟨w, c⟩
  · exact o.lst c
  · exact c
theorem Vw.dct {ds : List (Key × D)} (o : Ok K G W H B) (r : Vw K W H (.dct ds) v) : ∃ p xs, v = .ref p ∧ Rd H p (.dK xs) ∧ RepK K W ds xs := by
  obtain ⟨p, xs, e, c, r⟩ := r
  refine ⟨p, xs, e, ?_, r⟩
  rcases c with c | ⟨w, c⟩
  · exact o.rd (.inl c)
  · exact c
theorem Vw.tup {ds : List D} (o : Ok K G W H B) (r : Vw K W H (.tup ds) v) : ∃ p xs, v = .ref p ∧ SqT K H p xs ∧ Reps K W ds xs := by
  obtain ⟨p, xs, e, c, r⟩ := r
  exact ⟨p, xs, e, o.sqt c, r⟩
theorem CellOk.vw {p : Addr} (w : W.w p = none) (c : CellOk K W H p d) : Vw K W H d (.ref p) := by
  cases d with
  | lst ds => obtain ⟨xs, e, r⟩ := c; exact ⟨p, xs, rfl, .inr ⟨w, e⟩, r⟩
  | dct ds => obtain ⟨xs, e, r⟩ := c; exact ⟨p, xs, rfl, .inr ⟨w, .inl e⟩, r⟩
  | _ => exact c.elim
theorem SlotOk.vw {r : R} (s : SlotOk K W H v r) : Vw K W H r.d v := by
  obtain ⟨t, d⟩ := r
  cases t with
  | shr => exact Rep.vw s
  | own => obtain ⟨p, e, f, w, c⟩ := s; subst e; exact c.vw w
  | brw => obtain ⟨p, e, f, w, c⟩ := s; subst e; exact c.vw w
  | lck =>
    obtain ⟨p, e, f, w, ks, kvs, o, ed, c, r⟩ := s
    subst ed e
    exact ⟨p, kvs, rfl, .inr ⟨w, .inr ⟨o, c⟩⟩, r⟩
/-- freezing what has just come -/
theorem CellOk.rep {W0 : Wd} {H0 : Hp} {p : Addr} (s : Stp W0 H0 W H) (o : Ok K G W H B) (h0 : H0 p = none) (hF : W.F p = none) (hw : W.w p = none) (c : CellOk K W H p d) :
    ∃ W1, Stp W0 H0 W1 H ∧ Ok K G W1 H B ∧ Le W W1 ∧ Rep K W1 d (.ref p) := by
  cases d with
  | lst ds =>
    obtain ⟨xs, e, r⟩ := c
    obtain ⟨a, b, l⟩ := late_fz s o h0 hF hw e
    exact ⟨_, a, b, l, p, xs, rfl, upd_same, r.mono l⟩
  | dct ds =>
    obtain ⟨xs, e, r⟩ := c
    obtain ⟨a, b, l⟩ := late_fz s o h0 hF hw e
    exact ⟨_, a, b, l, p, xs, rfl, upd_same, r.mono l⟩
  | _ => exact c.elim
end
def Vws (K : PySem.W.Frag) (W : Wd) (H : Hp) : List D → List V → Prop
  | [], vs => vs = []
  | d :: ds, vs => ∃ v r, vs = v :: r ∧ Vw K W H d v ∧ Vws K W H ds r
theorem Vws.step {K : PySem.W.Frag} {W W' : Wd} {H H' : Hp} (s : Stp W H W' H') : ∀ {ds : List D} {vs : List V}, Vws K W H ds vs → Vws K W' H' ds vs
  | [], _, r => r
  | _ :: _, _, ⟨v, r, e, a, b⟩ => ⟨v, r, e, a.step s, Vws.step s b⟩

def RdV (K : PySem.W.Frag) (G : GE) (Wx : WX) (f : FE) : TE := fun σ H Q => ∃ ρ B W, Ok K G W H B ∧ Slots K W H σ ρ ∧ ∃ o, f ρ B = some o ∧ match o with
  | (.ok d, B') => ∀ W' H' v, Stp W H W' H' → Ok K G W' H' B' → Vw K W' H' d v → Q v H'
  | (.ex c, B') => ∀ W' H', Stp W H W' H' → Ok K G W' H' B' → Wx (G.ca c) none σ H'
def RdVA (K : PySem.W.Frag) (G : GE) (Wx : WX) (f : FA) : TA := fun σ H Q => ∃ ρ B W, Ok K G W H B ∧ Slots K W H σ ρ ∧ ∃ o, f ρ B = some o ∧ match o with
  | (.ok d, B') => ∀ W' H' vs, Stp W H W' H' → Ok K G W' H' B' → Vws K W' H' d vs → Q vs H'
  | (.ex c, B') => ∀ W' H', Stp W H W' H' → Ok K G W' H' B' → Wx (G.ca c) none σ H'
structure PVv (G : GE) (Wx : WX) (X : Cx) (e : Expr) (f : FE) : Prop where run : PE X e (RdV X.K G Wx f)
structure PVAv (G : GE) (Wx : WX) (X : Cx) (e : List Expr) (f : FA) : Prop where run : PA X e (RdVA X.K G Wx f)

/-! ### the readings' pieces -/
def mret {α : Type} (a : α) : M α := fun B => some (.ok a, B)
def mlift {α : Type} (o : Option α) : M α := fun B => match o with
  | some a => some (.ok a, B)
  | none => none
def mbind {α β : Type} (m : M α) (k : α → M β) : M β := fun B => match m B with
  | none => none
  | some (.ex c, B') => some (.ex c, B')
  | some (.ok a, B') => k a B'
theorem mbind_some {α β : Type} {m : M α} {k : α → M β} {B : Bk} {o : Res β × Bk} (h : mbind m k B = some o) : (∃ a B1, m B = some (.ok a, B1) ∧ k a B1 = some o) ∨ ∃ c B1, m B = some (.ex c, B1) ∧ o = (.ex c, B1) := by
  unfold mbind at h
  split at h
  · cases h
  · rename_i c B' e; cases h; exact .inr ⟨c, B', e, rfl⟩
  · rename_i a B' e; exact .inl ⟨a, B', e, h⟩
theorem mlift_some {α : Type} {x : Option α} {B : Bk} {o : Res α × Bk} (h : mlift x B = some o) : ∃ a, x = some a ∧ o = (.ok a, B) := by
  unfold mlift at h
  split at h
  · cases h; exact ⟨_, rfl, rfl⟩
  · cases h
def fVar (i : Nat) : FE := fun ρ B => match ρ[i]? with
  | some (some ⟨.shr, d⟩) => some (.ok d, B)
  | _ => none
def vVar (i : Nat) : FE := fun ρ B => match ρ[i]? with
  | some (some r) => some (.ok r.d, B)
  | _ => none
def fC (d : D) : FE := fun _ B => some (.ok d, B)
def fOp (g : D → D → Option D) (fa fb : FE) : FE := fun ρ => mbind (fa ρ) fun x => mbind (fb ρ) fun y => mlift (g x y)
def fUn (g : D → Option D) (fa : FE) : FE := fun ρ => mbind (fa ρ) fun x => mlift (g x)
def fNil : FA := fun _ B => some (.ok [], B)
def fCons (fa : FE) (fr : FA) : FA := fun ρ => mbind (fa ρ) fun x => mbind (fr ρ) fun xs => mret (x :: xs)
def fFn (g : List D → Option D) (fa : FA) : FE := fun ρ => mbind (fa ρ) fun x => mlift (g x)
def gOr {α : Type} (g g' : D → D → Option α) : D → D → Option α := fun a b => match g a b with
  | some d => some d
  | none => g' a b
def tst : D → Option Bool
  | .bl b => some b
  | _ => none
def fTst (f : FE) : FT := fun ρ => mbind (f ρ) fun d => mlift (tst d)
def fAndT (f g : FT) : FT := fun ρ => mbind (f ρ) fun b => if b then g ρ else mret false
def fOrT (f g : FT) : FT := fun ρ => mbind (f ρ) fun b => if b then mret true else g ρ
def fNotT (f : FT) : FT := fun ρ => mbind (f ρ) fun b => mret (!b)
def fAnd (f g : FE) : FE := fun ρ => mbind (fTst f ρ) fun b => if b then g ρ else mret (.bl false)
def fOr (f g : FE) : FE := fun ρ => mbind (fTst f ρ) fun b => if b then mret (.bl true) else g ρ
def fIf (c : FT) (f g : FE) : FE := fun ρ => mbind (c ρ) fun b => if b then f ρ else g ρ
/-- a op b op' c -/
def fChain (g g' : D → D → Option D) (fa fb fc : FE) : FE := fun ρ => mbind (fa ρ) fun x => mbind (fb ρ) fun y => mbind (mlift ((g x y).bind tst)) fun b => if b then mbind (fc ρ) fun z => mlift (g' y z) else mret (.bl false)

section
variable {G : GE} {Wx : WX} {X : Cx} {e a b c : Expr} {f fa fb fc g : FE} {ft fu : FT} {pos : Pos}
theorem PEv.toV (h : PEv G Wx X e f) : PVv G Wx X e f := ⟨pe_weak h.run fun σ H Q ⟨ρ, B, W, o, s, out, e, q⟩ => by
  refine ⟨ρ, B, W, o, s, out, e, ?_⟩
  obtain ⟨out, B'⟩ := out
  cases out with
  | ok d => exact fun W' H' v st o' r => q W' H' v st o' r.vw
  | ex c => exact q⟩
theorem PFv.toV (h : PFv G Wx X e f) : PVv G Wx X e f := ⟨pe_weak h.run fun σ H Q ⟨ρ, B, W, o, s, out, e, q⟩ => by
  refine ⟨ρ, B, W, o, s, out, e, ?_⟩
  obtain ⟨out, B'⟩ := out
  cases out with
  | ok d => exact fun W' H' p st o' h0 hF hw c => q W' H' _ st o' (c.vw hw)
  | ex c => exact q⟩
theorem PFv.toE (h : PFv G Wx X e f) : PEv G Wx X e f := ⟨pe_weak h.run fun σ H Q ⟨ρ, B, W, o, s, out, e, q⟩ => by
  refine ⟨ρ, B, W, o, s, out, e, ?_⟩
  obtain ⟨out, B'⟩ := out
  cases out with
  | ok d =>
    intro W' H' p st o' h0 hF hw c
    obtain ⟨W1, s1, o1, _, r⟩ := c.rep st o' h0 hF hw
    exact q W1 H' _ s1 o1 r
  | ex c => exact q⟩
theorem PEv.of {t : TE} (h : PE X e t) (w : ∀ σ H Q, RdE X.K G Wx f σ H Q → t σ H Q) : PEv G Wx X e f := ⟨pe_weak h w⟩

/-! names, constants -/
theorem pev_var {x : Str} (i : Nat) (hN : X.N[i]? = some x := by rfl) (hv : Vis X.env.scope x := by first | exact Or.inl rfl | exact Or.inr (Or.inl rfl) | exact Or.inr (Or.inr rfl)) (hd : (x == ("__debug__" : Str)) = false := by decide)
    (hcd : (x == ("__classdict__" : Str)) = false := by decide) : PEv G Wx X (.Name x pos) (fVar i) := ⟨pe_weak (pe_var hN hv hd hcd) fun σ H Q ⟨ρ, B, W, o, s, out, e, q⟩ => by
  unfold fVar at e
  split at e
  · rename_i d hρ
    cases e
    obtain ⟨v, hv, hs⟩ := s.ok i _ hρ
    exact ⟨v, hv, q W H v (.refl W H) o hs⟩
  · cases e⟩
theorem pvv_var {x : Str} (i : Nat) (hN : X.N[i]? = some x := by rfl) (hv : Vis X.env.scope x := by first | exact Or.inl rfl | exact Or.inr (Or.inl rfl) | exact Or.inr (Or.inr rfl)) (hd : (x == ("__debug__" : Str)) = false := by decide)
    (hcd : (x == ("__classdict__" : Str)) = false := by decide) : PVv G Wx X (.Name x pos) (vVar i) := ⟨pe_weak (pe_var hN hv hd hcd) fun σ H Q ⟨ρ, B, W, o, s, out, e, q⟩ => by
  unfold vVar at e
  split at e
  · rename_i r hρ
    cases e
    obtain ⟨v, hv, hs⟩ := s.ok i _ hρ
    exact ⟨v, hv, q W H v (.refl W H) o hs.vw⟩
  · cases e⟩
theorem pev_c {d : D} {v : V} (h : PE X e (tC v)) (r : ∀ W, Rep X.K W d v) : PEv G Wx X e (fC d) := ⟨pe_weak h fun σ H Q ⟨ρ, B, W, o, s, out, e, q⟩ => by
  cases e
  exact q W H v (.refl W H) o (r W)⟩
theorem pev_int {i j} : PEv G Wx X (.Constant (.int i) j pos) (fC (.int i)) := pev_c pe_int fun _ => rfl
theorem pev_str {i j} : PEv G Wx X (.Constant (.str i) j pos) (fC (.str i)) := pev_c pe_str fun _ => rfl
theorem pev_bl {i j} : PEv G Wx X (.Constant (.bool i) j pos) (fC (.bl i)) := pev_c pe_bl fun _ => rfl
theorem pev_non {j} : PEv G Wx X (.Constant .none j pos) (fC .non) := pev_c pe_non fun _ => rfl
theorem pev_globI {x : Str} {i : Int} {t : Tok} (hm : X.mg x = some (.int i t)) (hg : Gl X x := by rfl) (hd : (x == ("__debug__" : Str)) = false := by decide) : PEv G Wx X (.Name x pos) (fC (.int i)) := pev_c (pe_glob (v := .int i) hg hm ⟨t, rfl⟩ hd) fun _ => rfl

/-! operators -/
def OpV (K : PySem.W.Frag) (G : GE) (r : R2) (g : D → D → Option D) : Prop := ∀ W H B d1 d2 v1 v2 d, Ok K G W H B → Vw K W H d1 v1 → Vw K W H d2 v2 → g d1 d2 = some d → ∀ Q : VK, (∀ W' H' v, Stp W H W' H' → Ok K G W' H' B → Rep K W' d v → Q v H') → r v1 v2 H Q
def OpF (K : PySem.W.Frag) (G : GE) (r : R2) (g : D → D → Option D) : Prop := ∀ W H B d1 d2 v1 v2 d, Ok K G W H B → Vw K W H d1 v1 → Vw K W H d2 v2 → g d1 d2 = some d → ∀ Q : VK,
  (∀ W' H' p, Stp W H W' H' → Ok K G W' H' B → H p = none → W'.F p = none → W'.w p = none → CellOk K W' H' p d → Q (.ref p) H') → r v1 v2 H Q
theorem OpF.toV {K : PySem.W.Frag} {r : R2} {g : D → D → Option D} (h : OpF K G r g) : OpV K G r g := fun W H B d1 d2 v1 v2 d o h1 h2 hg Q q => h W H B d1 d2 v1 v2 d o h1 h2 hg Q fun W' H' p st o' h0 hF hw c => by
  obtain ⟨W1, s1, o1, _, r⟩ := c.rep st o' h0 hF hw
  exact q W1 H' _ s1 o1 r
theorem OpV.or {K : PySem.W.Frag} {r r' : R2} {g g' : D → D → Option D} (h : OpV K G r g) (h' : OpV K G r' g') : OpV K G (fun x y H Q => r x y H Q ∨ r' x y H Q) (gOr g g') := fun W H B d1 d2 v1 v2 d o h1 h2 hg Q q => by
  unfold gOr at hg
  split at hg
  · rename_i z hz; cases hg; exact .inl (h W H B d1 d2 v1 v2 d o h1 h2 hz Q q)
  · exact .inr (h' W H B d1 d2 v1 v2 d o h1 h2 hg Q q)
theorem pev_op2 {r : R2} {g : D → D → Option D} (hpe : PE X a (RdV X.K G Wx fa) → PE X b (RdV X.K G Wx fb) → PE X e (tOp r (RdV X.K G Wx fa) (RdV X.K G Wx fb))) (hr : OpV X.K G r g) (ha : PVv G Wx X a fa) (hb : PVv G Wx X b fb) : PEv G Wx X e (fOp g fa fb) :=
  ⟨pe_weak (hpe ha.run hb.run) fun σ H Q ⟨ρ, B, W, o, s, out, e, q⟩ => by
    rcases mbind_some e with ⟨d1, B1, e1, e'⟩ | ⟨c, B1, e1, rfl⟩
    · refine ⟨ρ, B, W, o, s, _, e1, fun W1 H1 v1 st1 o1 v1r => ?_⟩
      rcases mbind_some e' with ⟨d2, B2, e2, e''⟩ | ⟨c, B2, e2, rfl⟩
      · refine ⟨ρ, B1, W1, o1, s.step st1, _, e2, fun W2 H2 v2 st2 o2 v2r => ?_⟩
        obtain ⟨d, hd, rfl⟩ := mlift_some e''
        exact hr W2 H2 B2 d1 d2 v1 v2 d o2 (v1r.step st2) v2r hd Q fun W' H' v st o' r' => q W' H' v ((st1.tr st2).tr st) o' r'
      · exact ⟨ρ, B1, W1, o1, s.step st1, _, e2, fun W' H' st o' => q W' H' (st1.tr st) o'⟩
    · exact ⟨ρ, B, W, o, s, _, e1, q⟩⟩
theorem pfv_op2 {r : R2} {g : D → D → Option D} (hpe : PE X a (RdV X.K G Wx fa) → PE X b (RdV X.K G Wx fb) → PE X e (tOp r (RdV X.K G Wx fa) (RdV X.K G Wx fb))) (hr : OpF X.K G r g) (ha : PVv G Wx X a fa) (hb : PVv G Wx X b fb) : PFv G Wx X e (fOp g fa fb) :=
  ⟨pe_weak (hpe ha.run hb.run) fun σ H Q ⟨ρ, B, W, o, s, out, e, q⟩ => by
    rcases mbind_some e with ⟨d1, B1, e1, e'⟩ | ⟨c, B1, e1, rfl⟩
    · refine ⟨ρ, B, W, o, s, _, e1, fun W1 H1 v1 st1 o1 v1r => ?_⟩
      rcases mbind_some e' with ⟨d2, B2, e2, e''⟩ | ⟨c, B2, e2, rfl⟩
      · refine ⟨ρ, B1, W1, o1, s.step st1, _, e2, fun W2 H2 v2 st2 o2 v2r => ?_⟩
        obtain ⟨d, hd, rfl⟩ := mlift_some e''
        exact hr W2 H2 B2 d1 d2 v1 v2 d o2 (v1r.step st2) v2r hd Q fun W' H' v st o' h0 => q W' H' v ((st1.tr st2).tr st) o' ((st1.tr st2).fr h0)
      · exact ⟨ρ, B1, W1, o1, s.step st1, _, e2, fun W' H' st o' => q W' H' (st1.tr st) o'⟩
    · exact ⟨ρ, B, W, o, s, _, e1, q⟩⟩
end
end Fmx

namespace Fmx
open PySem PySem.Spec PyProof.Rows L2

/-! ### dicts -/
def kget (ks : List (Key × D)) (k : Key) : Option D := match ks with
  | [] => none
  | (j, d) :: r => if j = k then some d else kget r k
def khas (ks : List (Key × D)) (k : Key) : Bool := (kget ks k).isSome
def kput (ks : List (Key × D)) (k : Key) (d : D) : List (Key × D) := if khas ks k then ks.map (fun p => if p.1 = k then (p.1, d) else p) else ks ++ [(k, d)]
def keyOf : D → Option Key
  | .int i => some (.inl i)
  | .str x => some (.inr x)
  | _ => none
theorem keyOf_rep {K : PySem.W.Frag} {W : Wd} {d : D} {k : Key} {v : V} (h : keyOf d = some k) (r : Rep K W d v) : v = kV k := by
  cases d with
  | int i => cases h; exact r
  | str x => cases h; exact r
  | _ => cases h
theorem keyOf_vw {K : PySem.W.Frag} {W : Wd} {H : Hp} {d : D} {k : Key} {v : V} (h : keyOf d = some k) (r : Vw K W H d v) : v = kV k := by
  cases d with
  | int i => cases h; exact r
  | str x => cases h; exact r
  | _ => cases h
section
variable {K : PySem.W.Frag} {W : Wd}
theorem RepK.len : ∀ {ks : List (Key × D)} {kvs : List (Key × V)}, RepK K W ks kvs → kvs.length = ks.length
  | [], _, r => by have r : _ = [] := r; subst r; rfl
  | (_, _) :: _, _, ⟨v, r, e, _, b⟩ => by subst e; simp [b.len]
theorem Reps.len : ∀ {ks : List D} {kvs : List V}, Reps K W ks kvs → kvs.length = ks.length
  | [], _, r => by have r : _ = [] := r; subst r; rfl
  | _ :: _, _, ⟨v, r, e, _, b⟩ => by subst e; simp [b.len]
theorem RepK.none : ∀ {ks : List (Key × D)} {kvs : List (Key × V)} {k : Key}, RepK K W ks kvs → kget ks k = none → valV kvs k = none
  | [], _, _, r, _ => by have r : _ = [] := r; subst r; rfl
  | (j, d) :: ks, _, k, ⟨v, r, e, _, b⟩, h => by
    subst e
    unfold kget at h
    split at h
    · cases h
    · rename_i hj
      rw [valV_neg (by exact hj)]
      exact b.none h
theorem RepK.some : ∀ {ks : List (Key × D)} {kvs : List (Key × V)} {k : Key} {d : D}, RepK K W ks kvs → kget ks k = some d → ∃ v, valV kvs k = some v ∧ Rep K W d v
  | [], _, _, _, _, h => by cases h
  | (j, d) :: ks, _, k, d', ⟨v, r, e, a, b⟩, h => by
    subst e
    unfold kget at h
    split at h
    · rename_i hj
      cases h
      exact ⟨v, valV_pos hj, a⟩
    · rename_i hj
      rw [valV_neg (by exact hj)]
      exact b.some h
theorem RepK.keys : ∀ {ks : List (Key × D)} {kvs : List (Key × V)}, RepK K W ks kvs → kvs.map (·.1) = ks.map (·.1)
  | [], _, r => by have r : _ = [] := r; subst r; rfl
  | (_, _) :: _, _, ⟨v, r, e, _, b⟩ => by subst e; simp [b.keys]
theorem RepK.any : ∀ {ks : List (Key × D)} {kvs : List (Key × V)} {k : Key}, RepK K W ks kvs → (kvs.any fun kv => decide (kv.1 = k)) = khas ks k
  | [], _, _, r => by have r : _ = [] := r; subst r; rfl
  | (j, d) :: ks, _, k, ⟨v, r, e, _, b⟩ => by
    subst e
    rw [List.any_cons, b.any]
    unfold khas
    by_cases h : j = k
    · subst h; simp [kget]
    · simp [kget, h]
theorem RepK.map {k : Key} {d : D} {v : V} (rd : Rep K W d v) : ∀ {ks : List (Key × D)} {kvs : List (Key × V)}, RepK K W ks kvs → RepK K W (ks.map fun p => if p.1 = k then (p.1, d) else p) (kvs.map fun kv => if kv.1 = k then (kv.1, v) else kv)
  | [], _, r => by have r : _ = [] := r; subst r; exact rfl
  | (j, e) :: ks, _, ⟨w, r, eq, a, b⟩ => by
    subst eq
    by_cases h : j = k
    · simp only [List.map_cons, h, if_true]
      exact ⟨v, _, rfl, rd, b.map rd⟩
    · simp only [List.map_cons, h, if_false]
      exact ⟨w, _, rfl, a, b.map rd⟩
theorem RepK.append : ∀ {ks ls : List (Key × D)} {kvs lvs : List (Key × V)}, RepK K W ks kvs → RepK K W ls lvs → RepK K W (ks ++ ls) (kvs ++ lvs)
  | [], _, _, _, r, s => by have r : _ = [] := r; subst r; exact s
  | (_, _) :: _, _, _, _, ⟨v, r, e, a, b⟩, s => by subst e; exact ⟨v, _, rfl, a, b.append s⟩
theorem RepK.put {k : Key} {d : D} {v : V} (rd : Rep K W d v) {ks : List (Key × D)} {kvs : List (Key × V)} (r : RepK K W ks kvs) : RepK K W (kput ks k d) (putK kvs k v) := by
  unfold kput putK
  rw [r.any]
  split
  · exact r.map rd
  · exact r.append ⟨v, [], rfl, rd, rfl⟩
theorem kput_len (ks : List (Key × D)) (k : Key) (d : D) : (kput ks k d).length ≤ ks.length + 1 := by
  unfold kput
  split
  · rw [List.length_map]; omega
  · rw [List.length_append]; simp
theorem Reps.get : ∀ {ds : List D} {vs : List V} {i : Nat} {d : D}, Reps K W ds vs → ds[i]? = some d → ∃ v, vs[i]? = some v ∧ Rep K W d v
  | [], _, _, _, _, h => by simp at h
  | d :: ds, _, 0, d', ⟨v, r, e, a, _⟩, h => by subst e; simp at h; subst h; exact ⟨v, rfl, a⟩
  | d :: ds, _, i + 1, d', ⟨v, r, e, _, b⟩, h => by
    subst e
    obtain ⟨v', e', r'⟩ := b.get (i := i) (d := d') (by simpa using h)
    exact ⟨v', by simpa using e', r'⟩
theorem Reps.append : ∀ {ds es : List D} {vs ws : List V}, Reps K W ds vs → Reps K W es ws → Reps K W (ds ++ es) (vs ++ ws)
  | [], _, _, _, r, s => by have r : _ = [] := r; subst r; exact s
  | _ :: _, _, _, _, ⟨v, r, e, a, b⟩, s => by subst e; exact ⟨v, _, rfl, a, b.append s⟩
theorem Reps.drop : ∀ {ds : List D} {vs : List V} (n : Nat), Reps K W ds vs → Reps K W (ds.drop n) (vs.drop n)
  | _, _, 0, r => r
  | [], _, n + 1, r => by have r : _ = [] := r; subst r; exact rfl
  | _ :: _, _, n + 1, ⟨v, r, e, a, b⟩ => by subst e; exact b.drop n
theorem Reps.take : ∀ {ds : List D} {vs : List V} (n : Nat), Reps K W ds vs → Reps K W (ds.take n) (vs.take n)
  | _, _, 0, r => rfl
  | [], _, n + 1, r => by have r : _ = [] := r; subst r; exact rfl
  | _ :: _, _, n + 1, ⟨v, r, e, a, b⟩ => by subst e; exact ⟨v, _, rfl, a, b.take n⟩
theorem Reps.set {d : D} {v : V} (rd : Rep K W d v) : ∀ {ds : List D} {vs : List V} (i : Nat), Reps K W ds vs → Reps K W (ds.set i d) (vs.set i v)
  | [], _, _, r => by have r : _ = [] := r; subst r; exact rfl
  | _ :: _, _, 0, ⟨w, r, e, a, b⟩ => by subst e; exact ⟨v, r, rfl, rd, b⟩
  | _ :: _, _, i + 1, ⟨w, r, e, a, b⟩ => by subst e; exact ⟨w, _, rfl, a, b.set rd i⟩
theorem Reps.strs : ∀ {xs : List Str} {vs : List V}, Reps K W (xs.map D.str) vs → vs = xs.map V.str
  | [], _, r => r
  | _ :: _, _, ⟨v, r, e, a, b⟩ => by have a : v = _ := a; subst e a; rw [Reps.strs b]; rfl
theorem Reps.ofStrs : ∀ (xs : List Str), Reps K W (xs.map D.str) (xs.map V.str)
  | [] => rfl
  | x :: xs => ⟨.str x, _, rfl, rfl, Reps.ofStrs xs⟩
theorem Reps.bls : ∀ {xs : List Bool} {vs : List V}, Reps K W (xs.map D.bl) vs → vs = xs.map V.bl
  | [], _, r => r
  | _ :: _, _, ⟨v, r, e, a, b⟩ => by have a : v = _ := a; subst e a; rw [Reps.bls b]; rfl
theorem Reps.ofInts : ∀ (xs : List Int), Reps K W (xs.map D.int) (xs.map V.int)
  | [] => rfl
  | x :: xs => ⟨.int x, _, rfl, rfl, Reps.ofInts xs⟩
end

/-! ### flat values -/
def flatD : D → Bool
  | .non | .bl _ | .int _ | .str _ => true
  | _ => false
def vOf : D → V
  | .non => .non
  | .bl b => .bl b
  | .int i => .int i
  | .str x => .str x
  | _ => .non
theorem flat_rep {K : PySem.W.Frag} {W : Wd} {d : D} {v : V} (h : flatD d = true) (r : Rep K W d v) : v = vOf d ∧ flatV v = true := by
  cases d with
  | non => cases r; exact ⟨rfl, rfl⟩
  | bl b => cases r; exact ⟨rfl, rfl⟩
  | int b => cases r; exact ⟨rfl, rfl⟩
  | str b => cases r; exact ⟨rfl, rfl⟩
  | _ => cases h
theorem flat_vw {K : PySem.W.Frag} {W : Wd} {H : Hp} {d : D} {v : V} (h : flatD d = true) (r : Vw K W H d v) : v = vOf d ∧ flatV v = true := by
  cases d with
  | non => cases r; exact ⟨rfl, rfl⟩
  | bl b => cases r; exact ⟨rfl, rfl⟩
  | int b => cases r; exact ⟨rfl, rfl⟩
  | str b => cases r; exact ⟨rfl, rfl⟩
  | _ => cases h
theorem flat_reps {K : PySem.W.Frag} {W : Wd} : ∀ {ds : List D} {vs : List V}, ds.all flatD = true → Reps K W ds vs → vs = ds.map vOf ∧ vs.all flatV = true
  | [], _, _, r => by have r : _ = [] := r; subst r; exact ⟨rfl, rfl⟩
  | d :: ds, _, h, ⟨v, r, e, a, b⟩ => by
    have h : flatD d = true ∧ ds.all flatD = true := by simpa using h
    obtain ⟨e1, f1⟩ := flat_rep h.1 a
    obtain ⟨e2, f2⟩ := flat_reps h.2 b
    subst e e1 e2
    exact ⟨rfl, by rw [List.all_cons, f1, f2]; rfl⟩
/-- == of flat values -/
def eqF (a b : D) : Bool := eqV (vOf a) (vOf b)
def inF (x : D) (xs : List D) : Bool := xs.any fun y => eqF y x
theorem inF_eq (x : D) (xs : List D) : inV (vOf x) (xs.map vOf) = inF x xs := by
  unfold inV inF eqF
  rw [List.any_map]; rfl

/-! ### == of data -/
mutual
def toPy : D → Option PyData
  | .non => some .none
  | .bl b => some (.bool b)
  | .int i => some (.int i)
  | .str x => some (.str x)
  | .lst xs => (toPys xs).map .list
  | .tup xs => (toPys xs).map .tuple
  | .dct _ => none
  | .obj _ => none
  | .exc _ => none
  | .scr _ => none
def toPys : List D → Option (List PyData)
  | [] => some []
  | d :: ds => match toPy d, toPys ds with
    | some p, some ps => some (p :: ps)
    | _, _ => none
end
section
variable {K : PySem.W.Frag} {G : GE} {W : Wd} {H : Hp} {B : Bk} (o : Ok K G W H B)
include o
mutual
theorem toPy_dp : ∀ {d : D} {v : V} {p : PyData}, Rep K W d v → toPy d = some p → Dp K H v p
  | .non, _, _, r, h => by cases r; cases h; exact .non
  | .bl _, _, _, r, h => by cases r; cases h; exact .bl _
  | .int _, _, _, r, h => by cases r; cases h; exact .int _
  | .str _, _, _, r, h => by cases r; cases h; exact .str _
  | .lst xs, _, _, ⟨a, vs, e, s, r⟩, h => by
    unfold toPy at h
    cases q : toPys xs with
    | none => rw [q] at h; cases h
    | some ps => rw [q] at h; cases h; subst e; exact .lst (.inl (.inl (o.lst s))) (toPys_dp r q)
  | .tup xs, _, _, ⟨a, vs, e, s, r⟩, h => by
    unfold toPy at h
    cases q : toPys xs with
    | none => rw [q] at h; cases h
    | some ps => rw [q] at h; cases h; subst e; exact .tup (o.sqt s) (toPys_dp r q)
  | .dct _, _, _, _, h => by cases h
  | .obj _, _, _, _, h => by cases h
  | .exc _, _, _, _, h => by cases h
  | .scr _, _, _, _, h => by cases h
theorem toPys_dp : ∀ {ds : List D} {vs : List V} {ps : List PyData}, Reps K W ds vs → toPys ds = some ps → DpAll K H vs ps
  | [], _, _, r, h => by have r : _ = [] := r; subst r; cases h; exact .nil
  | d :: ds, _, _, ⟨v, r, e, a, b⟩, h => by
    unfold toPys at h
    split at h
    · rename_i p ps h1 h2
      cases h; subst e
      exact .cons (toPy_dp a h1) (toPys_dp b h2)
    · cases h
end
theorem toPy_vw {d : D} {v : V} {p : PyData} (r : Vw K W H d v) (h : toPy d = some p) : Dp K H v p := by
  cases d with
  | lst xs =>
    obtain ⟨a, vs, e, s, r2⟩ := Vw.lst o r
    unfold toPy at h
    cases q : toPys xs with
    | none => rw [q] at h; cases h
    | some ps => rw [q] at h; cases h; subst e; exact .lst (.inl (.inl s)) (toPys_dp o r2 q)
  | dct xs => cases h
  | non => exact toPy_dp o r h
  | bl _ => exact toPy_dp o r h
  | int _ => exact toPy_dp o r h
  | str _ => exact toPy_dp o r h
  | tup _ => exact toPy_dp o (d := .tup _) r h
  | obj _ => cases h
  | exc _ => cases h
  | scr _ => cases h
end
def eqKs (ks ls : List (Key × D)) : Bool := ks.all fun p => match kget ls p.1 with
  | some d => eqF p.2 d
  | none => false
def eqD (a b : D) : Option Bool := match a, b with
  | .dct ks, .dct ls => if (ks.all fun p => flatD p.2) && (ls.all fun p => flatD p.2) then some (ks.length == ls.length && eqKs ks ls) else none
  | a, b => match toPy a, toPy b with
    | some p, some q => if SeqAt.shaped p && SeqAt.shaped q then some (PyData.eqv p q) else none
    | _, _ => none
def gEq (a b : D) : Option D := (eqD a b).map .bl
def gNe (a b : D) : Option D := (eqD a b).map fun c => .bl (!c)
/-- dicts of flat values compared -/
def rEqK (neg : Bool) : R2 := fun x y H Q => ∃ a b ks ls, x = .ref a ∧ y = .ref b ∧ Rd H a (.dK ks) ∧ Rd H b (.dK ls) ∧ (∀ p ∈ ks, flatV p.2 = true) ∧ (∀ p ∈ ls, flatV p.2 = true) ∧
  Q (.bl ((ks.length == ls.length && ks.all fun p => match valV ls p.1 with | some v => eqV p.2 v | none => false) != neg)) H
theorem kv_valueAt {ks : List (Key × V)} {va : List (Key × Value)} (r : KV ks va) (k : Key) : RelO (valV ks k) (valueAt va k) := by
  exact r.val k
theorem hits_flat {A : Around} {s : Shared} {kvs : List (Key × V)} {vb : List (Key × Value)} (rb : KV kvs vb) (fb : ∀ p ∈ kvs, flatV p.2 = true) {ks : List (Key × V)} {va : List (Key × Value)} (ra : KV ks va) :
    (∀ p ∈ ks, flatV p.2 = true) → PySem.W.KeqHits A s vb va (ks.all fun p => match valV kvs p.1 with | some v => eqV p.2 v | none => false) := by
  unfold KV at ra
  induction ra with
  | nil => intro _; exact .nil
  | @cons p q ps qs h t ih =>
    intro hp
    obtain ⟨k, v⟩ := p
    obtain ⟨k', u⟩ := q
    obtain ⟨h1, h2⟩ := h
    have h1 : k = k' := h1
    have h2 : RelV v u := h2
    subst h1
    have ih := ih fun p hp' => hp p (List.mem_cons_of_mem _ hp')
    have rv := rb.val k
    rw [List.all_cons]
    cases e : valV kvs k with
    | none =>
      rw [e] at rv
      simp only [Bool.false_and]
      exact .miss (RelO.none_of rv)
    | some y =>
      rw [e] at rv
      obtain ⟨uy, e2, ry⟩ := RelO.some_of rv
      have fy : flatV y = true := by
        have hm : (k, y) ∈ kvs := by
          unfold valV at e
          cases hf : kvs.find? fun kv => decide (kv.1 = k) with
          | none => rw [hf] at e; cases e
          | some z =>
            rw [hf] at e
            have e : z.2 = y := Option.some.inj e
            have hz := List.mem_of_find?_eq_some hf
            have hk : z.1 = k := by simpa using List.find?_some hf
            obtain ⟨z1, z2⟩ := z
            have hk : z1 = k := hk
            have e : z2 = y := e
            subst hk e
            exact hz
        exact fb _ hm
      exact .hit e2 (eqAt_V h2 ry (hp _ List.mem_cons_self) fy) ih
section
variable {X : Cx}
theorem op_eqK (hu : X.A.units + 64 < cLine) : OpR X (compareOp .Eq) (rEqK false) := by
  intro pins s σ H x y v u Q I rx ry h
  obtain ⟨a, b, ks, ls, rfl, rfl, ea, eb, fa, fb, q⟩ := h
  obtain rfl : v = Value.ref a := rx
  obtain rfl : u = Value.ref b := ry
  obtain ⟨_, ya, va, ra, da⟩ := dk_rd I.hok ea
  obtain ⟨_, yb, vb, rb, db⟩ := dk_rd I.hok eb
  refine PySem.W.keq_eq (knd := mixKind X.prog X.w) ya yb da db (by omega) (fun _ => hits_flat rb fb ra fa) (fin_bl I q ?_)
  rw [Bool.bne_false, Paired.length ra, Paired.length rb]
theorem op_neK (hu : X.A.units + 64 < cLine) : OpR X (compareOp .NotEq) (rEqK true) := by
  intro pins s σ H x y v u Q I rx ry h
  obtain ⟨a, b, ks, ls, rfl, rfl, ea, eb, fa, fb, q⟩ := h
  obtain rfl : v = Value.ref a := rx
  obtain rfl : u = Value.ref b := ry
  obtain ⟨_, ya, va, ra, da⟩ := dk_rd I.hok ea
  obtain ⟨_, yb, vb, rb, db⟩ := dk_rd I.hok eb
  refine PySem.W.keq_ne (knd := mixKind X.prog X.w) ya yb da db (by omega) (fun _ => hits_flat rb fb ra fa) (fin_bl I q ?_)
  rw [Bool.bne_true, Paired.length ra, Paired.length rb]
end
theorem repK_flat {K : PySem.W.Frag} {W : Wd} : ∀ {ks : List (Key × D)} {kvs : List (Key × V)}, (ks.all fun p => flatD p.2) = true → RepK K W ks kvs → kvs = ks.map (fun p => (p.1, vOf p.2)) ∧ ∀ p ∈ kvs, flatV p.2 = true
  | [], _, _, r => by have r : _ = [] := r; subst r; exact ⟨rfl, fun _ h => nomatch h⟩
  | (k, d) :: ks, _, h, ⟨v, r, e, a, b⟩ => by
    have h : flatD d = true ∧ (ks.all fun p => flatD p.2) = true := by
      rw [List.all_cons, Bool.and_eq_true] at h; exact h
    obtain ⟨e1, f1⟩ := flat_rep h.1 a
    obtain ⟨e2, f2⟩ := repK_flat h.2 b
    subst e e1 e2
    refine ⟨rfl, fun p hp => ?_⟩
    rcases List.mem_cons.mp hp with rfl | hp
    · exact f1
    · exact f2 p hp
theorem eqKs_eq {K : PySem.W.Frag} {W : Wd} {ks ls : List (Key × D)} {kvs lvs : List (Key × V)} (hk : (ks.all fun p => flatD p.2) = true) (hl : (ls.all fun p => flatD p.2) = true) (rk : RepK K W ks kvs) (rl : RepK K W ls lvs) :
    (kvs.length == lvs.length && kvs.all fun p => match valV lvs p.1 with | some v => eqV p.2 v | none => false) = (ks.length == ls.length && eqKs ks ls) := by
  rw [rk.len, rl.len]
  congr 1
  obtain ⟨e1, _⟩ := repK_flat hk rk
  subst e1
  unfold eqKs
  rw [List.all_map]
  congr 1
  funext p
  show (match valV lvs p.1 with | some v => eqV (vOf p.2) v | none => false) = _
  cases h : kget ls p.1 with
  | none => rw [rl.none h]
  | some d =>
    obtain ⟨v, e, r⟩ := rl.some h
    rw [e]
    have fd : flatD d = true := by
      clear e r rl
      induction ls with
      | nil => cases h
      | cons q r ih =>
        obtain ⟨j, x⟩ := q
        have hl : flatD x = true ∧ (r.all fun p => flatD p.2) = true := by
          rw [List.all_cons, Bool.and_eq_true] at hl; exact hl
        unfold kget at h
        split at h
        · cases h; exact hl.1
        · exact ih hl.2 h
    rw [(flat_rep fd r).1]; rfl
section
variable {K : PySem.W.Frag} {G : GE}
theorem opv_of_rep {r : R2} {g : D → D → Option D} (h : ∀ W H B d1 d2 v1 v2 d, Ok K G W H B → Vw K W H d1 v1 → Vw K W H d2 v2 → g d1 d2 = some d → ∃ v, (∀ W, Rep K W d v) ∧ ∀ Q : VK, Q v H → r v1 v2 H Q) : OpV K G r g :=
  fun W H B d1 d2 v1 v2 d o h1 h2 hg Q q => by
    obtain ⟨v, rv, k⟩ := h W H B d1 d2 v1 v2 d o h1 h2 hg
    exact k Q (q W H v (.refl W H) o (rv W))
theorem opv_eqD : OpV K G (fun x y H Q => rEqD K x y H Q ∨ rEqK false x y H Q) gEq := opv_of_rep fun W H B d1 d2 v1 v2 d o h1 h2 hg => by
  unfold gEq at hg
  cases he : eqD d1 d2 with
  | none => rw [he] at hg; cases hg
  | some c =>
    rw [he] at hg; cases hg
    refine ⟨.bl c, fun _ => rfl, fun Q q => ?_⟩
    unfold eqD at he
    split at he
    · rename_i ks ls
      split at he
      · rename_i hf
        cases he
        rw [Bool.and_eq_true] at hf
        obtain ⟨a, kvs, rfl, ea, ra⟩ := h1.dct o
        obtain ⟨b, lvs, rfl, eb, rb⟩ := h2.dct o
        refine .inr ⟨a, b, kvs, lvs, rfl, rfl, ea, eb, (repK_flat hf.1 ra).2, (repK_flat hf.2 rb).2, ?_⟩
        rw [eqKs_eq hf.1 hf.2 ra rb, Bool.bne_false]; exact q
      · cases he
    · split at he
      · rename_i p q' hp hq
        split at he
        · rename_i hs
          cases he
          rw [Bool.and_eq_true] at hs
          exact .inl ⟨p, q', toPy_vw o h1 hp, toPy_vw o h2 hq, hs.1, hs.2, q⟩
        · cases he
      · cases he
theorem opv_neD : OpV K G (fun x y H Q => rNeD K x y H Q ∨ rEqK true x y H Q) gNe := opv_of_rep fun W H B d1 d2 v1 v2 d o h1 h2 hg => by
  unfold gNe at hg
  cases he : eqD d1 d2 with
  | none => rw [he] at hg; cases hg
  | some c =>
    rw [he] at hg; cases hg
    refine ⟨.bl (!c), fun _ => rfl, fun Q q => ?_⟩
    unfold eqD at he
    split at he
    · rename_i ks ls
      split at he
      · rename_i hf
        cases he
        rw [Bool.and_eq_true] at hf
        obtain ⟨a, kvs, rfl, ea, ra⟩ := h1.dct o
        obtain ⟨b, lvs, rfl, eb, rb⟩ := h2.dct o
        refine .inr ⟨a, b, kvs, lvs, rfl, rfl, ea, eb, (repK_flat hf.1 ra).2, (repK_flat hf.2 rb).2, ?_⟩
        rw [eqKs_eq hf.1 hf.2 ra rb, Bool.bne_true]; exact q
      · cases he
    · split at he
      · rename_i p q' hp hq
        split at he
        · rename_i hs
          cases he
          rw [Bool.and_eq_true] at hs
          exact .inl ⟨p, q', toPy_vw o h1 hp, toPy_vw o h2 hq, hs.1, hs.2, q⟩
        · cases he
      · cases he
end
end Fmx

namespace Fmx
open PySem PySem.Spec PyProof.Rows L2

/-! ### operators by values -/
def gI (C : Int → Int → Bool) (f : Int → Int → Int) : D → D → Option D
  | .int i, .int j => if C i j then some (.int (f i j)) else none
  | _, _ => none
def gB (f : Int → Int → Bool) : D → D → Option D
  | .int i, .int j => some (.bl (f i j))
  | _, _ => none
def gAddS : D → D → Option D
  | .str x, .str y => if x.length + y.length ≤ sizeLine then some (.str (x ++ y)) else none
  | _, _ => none
def gCatL : D → D → Option D
  | .lst x, .lst y => if x.length + y.length ≤ sizeLine then some (.lst (x ++ y)) else none
  | _, _ => none
def gCatT : D → D → Option D
  | .tup x, .tup y => if x.length + y.length ≤ sizeLine ∧ x ≠ [] ∧ y ≠ [] then some (.tup (x ++ y)) else none
  | _, _ => none
def repS (x : Str) (n : Int) : Str := ⟨(List.replicate n.toNat x.cps).foldl (· ++ ·) #[]⟩
def gMulS : D → D → Option D
  | .str x, .int n => if 0 ≤ n ∧ n ≤ 1000 ∧ x.length ≤ 1000 then some (.str (repS x n)) else none
  | _, _ => none
def gLeS : D → D → Option D
  | .str i, .str j => some (.bl (!decide (j.cps.toList < i.cps.toList)))
  | _, _ => none
def gAdd := gOr (gI (fun _ _ => true) (· + ·)) (gOr gAddS (gOr gCatL gCatT))
def gSub := gI (fun _ _ => true) (· - ·)
/-- told, never reckoned -/
def cd (p : Prop) : Bool := @decide p (Classical.propDecidable p)
theorem cd_of {p : Prop} (h : cd p = true) : p := @of_decide_eq_true p (Classical.propDecidable p) h
theorem cd_t {p : Prop} (h : p) : cd p = true := @decide_eq_true p (Classical.propDecidable p) h
def cMul (i j : Int) : Bool := cd ((-(2 ^ 64) < i ∧ i < 2 ^ 64) ∨ (-(2 ^ 64) < j ∧ j < 2 ^ 64))
def gMul := gOr (gI cMul (· * ·)) gMulS
def cDiv (_ j : Int) : Bool := cd (0 < j ∧ j < 1073741824)
def gDiv := gI cDiv (· / ·)
def gMod := gI (fun _ j => cd (0 < j)) (· % ·)
def cPow (i j : Int) : Bool := cd (0 ≤ j ∧ j ≤ 1000000 ∧ i.natAbs < 2 ^ 64)
def gPow := gI cPow (fun i j => i ^ j.toNat)
def gLt := gB fun i j => decide (i < j)
def gLe := gOr (gB fun i j => decide (i ≤ j)) gLeS
def gGt := gB fun i j => decide (j < i)
def gGe := gB fun i j => decide (j ≤ i)
/-- in -/
def gInL (neg : Bool) : D → D → Option D
  | x, .lst ys => if flatD x && ys.all flatD then some (.bl (inF x ys != neg)) else none
  | x, .tup ys => if flatD x && ys.all flatD then some (.bl (inF x ys != neg)) else none
  | _, _ => none
def gInK (neg : Bool) : D → D → Option D
  | x, .dct ks => (keyOf x).map fun k => .bl (khas ks k != neg)
  | _, _ => none
def gInS (neg : Bool) : D → D → Option D
  | .str x, .str z => if x.length = 1 then some (.bl (decide (x.cps.getD 0 0 ∈ z.cps.toList) != neg)) else none
  | _, _ => none
def gIn (neg : Bool) := gOr (gInL neg) (gOr (gInK neg) (gInS neg))
def gIsN (neg : Bool) : D → D → Option D
  | x, .non => match x with
    | .obj _ => none
    | .exc _ => none
    | .non => some (.bl (!neg))
    | _ => some (.bl neg)
  | _, _ => none

section
variable {X : Cx}
def rCatQ : R2 := fun x y H Q => ∃ l b xs zs, x = .ref l ∧ y = .ref b ∧ Rd H l (.lst xs) ∧ Rd H b (.lst zs) ∧ xs.length + zs.length ≤ sizeLine ∧ ∀ p, H p = none → Q (.ref p) (upd H p (.lst (xs ++ zs)))
theorem lst_rd {pins : List (Addr × Obj)} {σ : L2.St} {H : Hp} {s : Shared} {l : Addr} {xs : List V} (I : L2.Inv X pins σ H s) (h : Rd H l (.lst xs)) :
    ∃ (its : List Value) (n : Nat), Vals xs its ∧ s.heap.get? l = some { cls := .type "list", data := .seq its.toArray n } ∧ xs.length ≤ sizeLine := by
  obtain ⟨z, its, n, r, e⟩ := h.ok I.hok
  exact ⟨its, n, r, e, z⟩
theorem op_catQ : OpR X (binaryOp .Add) rCatQ := by
  intro pins s σ H x y v u Q I rx ry h
  obtain ⟨l, b, xs, zs, rfl, rfl, hH, hB, hz, q⟩ := h
  cases rx
  cases ry
  obtain ⟨its, n, r, e, hl⟩ := lst_rd I hH
  obtain ⟨its2, n2, r2, e2, hl2⟩ := lst_rd I hB
  have z1 := r.length
  have z2 := r2.length
  have hsz : its.toArray.size + its2.toArray.size ≤ sizeLine := by rw [List.size_toArray, List.size_toArray]; omega
  refine PySem.P.add_list e e2 ?_ hsz
  have ea : its.toArray ++ its2.toArray = (its ++ its2).toArray := by simp
  rw [ea]
  exact ⟨.ref _, _, I.lnew (t' := s.toks) (r.append r2) (by rw [List.length_append]; omega), rfl, q _ I.fresh⟩
def rMulS : R2 := fun x y H Q => ∃ z n, x = .str z ∧ y = .int n ∧ 0 ≤ n ∧ n ≤ 1000 ∧ z.length ≤ 1000 ∧ Q (.str (repS z n)) H
theorem repS_0 (z : Str) {n : Int} (h : n < 1) : repS z n = Str.empty := by
  unfold repS
  have : n.toNat = 0 := by omega
  rw [this]; rfl
theorem repS_1 (z : Str) : repS z 1 = z := by
  obtain ⟨c⟩ := z
  simp [repS]
theorem foldl_empty : ∀ (m : Nat), (List.replicate m (#[] : Array Nat)).foldl (· ++ ·) #[] = #[]
  | 0 => rfl
  | m + 1 => by rw [List.replicate_succ, List.foldl_cons]; exact foldl_empty m
theorem op_mulS : OpR X (binaryOp .Mult) rMulS := by
  intro pins s σ H x y v u Q I rx ry h
  obtain ⟨z, n, rfl, rfl, h0, h1, hz, q⟩ := h
  obtain ⟨t, rfl⟩ := rx
  obtain ⟨t', rfl⟩ := ry
  have hs : sizeLine = 16777216 := sizeLine_eq
  have hm : z.length * n.toNat ≤ 1000000 := Nat.le_trans (Nat.mul_le_mul hz (show n.toNat ≤ 1000 by omega)) (by decide)
  refine PySem.P.mul_str ?_ (fun a b => ?_) (fun a b => ?_) ?_
  · have h2 : ¬ n < -(2 ^ 63) := by omega
    have h3 : ¬ n ≥ 2 ^ 63 := by omega
    rw [decide_eq_false h2, decide_eq_false h3]; rfl
  · have hn : (0 : Int) < n := by omega
    have h4 : (1000 : Int) ≤ (2 ^ 63 - 1) / n := (Int.le_ediv_iff_mul_le hn).mpr (by omega)
    omega
  · show decide (z.length * n.toNat > sizeLine) = false
    exact decide_eq_false (by omega)
  · by_cases c1 : n < 1
    · rw [if_pos c1]
      refine ⟨by first | decide | (simp [Str.empty]), ?_⟩
      refine ⟨.str (repS z n), H, I.tok _, ⟨_, by rw [repS_0 z c1]⟩, q⟩
    · rw [if_neg c1]
      by_cases c2 : (n == 1 || z.length == 0) = true
      · rw [if_pos c2]
        refine ⟨.str (repS z n), H, I, ⟨t, ?_⟩, q⟩
        rw [Bool.or_eq_true] at c2
        rcases c2 with c2 | c2
        · have : n = 1 := by simpa using c2
          rw [this, repS_1]
        · have c2 : z.length = 0 := by simpa using c2
          obtain ⟨c⟩ := z
          have c2 : c.size = 0 := c2
          have : c = #[] := Array.eq_empty_of_size_eq_zero c2
          subst this
          unfold repS
          rw [foldl_empty]
      · rw [if_neg c2]
        refine ⟨?_, ⟨.str (repS z n), H, I.tok _, ⟨_, rfl⟩, q⟩⟩
        have hl : ∀ (m : Nat) (acc : Array Nat), ((List.replicate m z.cps).foldl (· ++ ·) acc).size = acc.size + m * z.cps.size := by
          intro m
          induction m with
          | zero => intro acc; simp
          | succ m ih => intro acc; rw [List.replicate_succ, List.foldl_cons, ih, Array.size_append, Nat.succ_mul]; omega
        have e : (⟨(List.replicate n.toNat z.cps).foldl (· ++ ·) #[]⟩ : Str).length = n.toNat * z.length := by
          show ((List.replicate n.toNat z.cps).foldl (· ++ ·) #[]).size = _
          rw [hl]; simp; rfl
        rw [Nat.mul_comm] at hm
        first
          | (rw [e]; omega)
          | (simp only [e]; omega)
          | exact Nat.le_trans (Nat.le_of_eq e) (by omega)
end
end Fmx

namespace Fmx
open PySem PySem.Spec PyProof.Rows L2

/-! ### operators: values and data -/
section
variable {K : PySem.W.Frag} {G : GE}
theorem ov_I {C : Int → Int → Prop} {c : Int → Int → Bool} {f : Int → Int → Int} (h : ∀ i j, c i j = true → C i j) : OpV K G (rI C fun i j => .int (f i j)) (gI c f) := opv_of_rep fun W H B d1 d2 v1 v2 d o h1 h2 hg => by
  unfold gI at hg
  split at hg
  · split at hg
    · rename_i i j hc
      cases hg; cases h1; cases h2
      exact ⟨.int (f i j), fun _ => rfl, fun Q q => ⟨i, j, rfl, rfl, h i j hc, q⟩⟩
    · cases hg
  · cases hg
theorem ov_I0 {f : Int → Int → Int} : OpV K G (rI0 fun i j => .int (f i j)) (gI (fun _ _ => true) f) := opv_of_rep fun W H B d1 d2 v1 v2 d o h1 h2 hg => by
  unfold gI at hg
  split at hg
  · rename_i i j
    cases hg; cases h1; cases h2
    exact ⟨.int (f i j), fun _ => rfl, fun Q q => ⟨i, j, rfl, rfl, q⟩⟩
  · cases hg
theorem ov_B {f : Int → Int → Bool} : OpV K G (rI0 fun i j => .bl (f i j)) (gB f) := opv_of_rep fun W H B d1 d2 v1 v2 d o h1 h2 hg => by
  unfold gB at hg
  split at hg
  · rename_i i j
    cases hg; cases h1; cases h2
    exact ⟨.bl (f i j), fun _ => rfl, fun Q q => ⟨i, j, rfl, rfl, q⟩⟩
  · cases hg
theorem ov_addS : OpV K G (fun x y H Q => ∃ i j, x = .str i ∧ y = .str j ∧ i.length + j.length ≤ sizeLine ∧ Q (.str (i ++ j)) H) gAddS := opv_of_rep fun W H B d1 d2 v1 v2 d o h1 h2 hg => by
  unfold gAddS at hg
  split at hg
  · split at hg
    · rename_i i j hc
      cases hg; cases h1; cases h2
      exact ⟨.str (i ++ j), fun _ => rfl, fun Q q => ⟨i, j, rfl, rfl, hc, q⟩⟩
    · cases hg
  · cases hg
theorem ov_mulS : OpV K G rMulS gMulS := opv_of_rep fun W H B d1 d2 v1 v2 d o h1 h2 hg => by
  unfold gMulS at hg
  split at hg
  · split at hg
    · rename_i i j hc
      cases hg; cases h1; cases h2
      exact ⟨.str _, fun _ => rfl, fun Q q => ⟨i, j, rfl, rfl, hc.1, hc.2.1, hc.2.2, q⟩⟩
    · cases hg
  · cases hg
theorem ov_leS : OpV K G (fun x y H Q => ∃ i j, x = .str i ∧ y = .str j ∧ Q (.bl (!decide (j.cps.toList < i.cps.toList))) H) gLeS := opv_of_rep fun W H B d1 d2 v1 v2 d o h1 h2 hg => by
  unfold gLeS at hg
  split at hg
  · rename_i i j
    cases hg; cases h1; cases h2
    exact ⟨.bl _, fun _ => rfl, fun Q q => ⟨i, j, rfl, rfl, q⟩⟩
  · cases hg
/-- a new thing, laid: fresh for all -/
theorem laid_q {W : Wd} {H : Hp} {B : Bk} {p : Addr} {u : HO} {d : D} (o : Ok K G W H B) (hp : H p = none) (c : CellOk K W (upd H p u) p d) :
    Stp W H W (upd H p u) ∧ Ok K G W (upd H p u) B ∧ W.F p = none ∧ W.w p = none := by
  have k : ∀ a x, H a = some x → upd H p u a = some x := fun a x h => by rw [upd_ne (fun e => by subst e; rw [hp] at h; cases h)]; exact h
  refine ⟨⟨fun _ _ h => h, fun _ h _ => h, fun _ _ h => h, fun _ h _ => h, fun _ _ h => h, rfl, fun a h z => ?_, fun a x _ h => k a x h⟩, ⟨fun a x h => ?_, fun a x h => ⟨(o.wf a x h).1, fun z => ?_⟩, o.len, fun i x h => ?_⟩, o.fn hp, o.wn hp⟩
  · cases q : H a with
    | none => exact h q
    | some x => rw [k a x q] at z; cases z
  · rcases o.cov a x h with h | ⟨m, q, e, h⟩
    · exact .inl (k a x h)
    · exact .inr ⟨m, q, e, k a _ h⟩
  · cases q : H a with
    | none => exact (o.wf a x h).2 q
    | some x => rw [k a x q] at z; cases z
  · obtain ⟨a, e, q⟩ := o.ob i x h
    exact ⟨a, e, q.mono ⟨fun _ _ h => h, fun _ _ h => h, fun _ h => h⟩ (fun _ h => h) fun b y _ h2 => k b y h2⟩
/-- a new list's end -/
theorem lst_q {W : Wd} {H : Hp} {B : Bk} {ds : List D} {vs : List V} (o : Ok K G W H B) (r : Reps K W ds vs) {Q : VK}
    (q : ∀ W' H' p, Stp W H W' H' → Ok K G W' H' B → H p = none → W'.F p = none → W'.w p = none → CellOk K W' H' p (.lst ds) → Q (.ref p) H') : ∀ p, H p = none → Q (.ref p) (upd H p (.lst vs)) := fun p hp => by
  have c : CellOk K W (upd H p (.lst vs)) p (.lst ds) := ⟨vs, upd_same, r⟩
  obtain ⟨a, b, c1, c2⟩ := laid_q o hp c
  exact q W _ p a b hp c1 c2 c
theorem dct_q {W : Wd} {H : Hp} {B : Bk} {ds : List (Key × D)} {vs : List (Key × V)} (o : Ok K G W H B) (r : RepK K W ds vs) {Q : VK}
    (q : ∀ W' H' p, Stp W H W' H' → Ok K G W' H' B → H p = none → W'.F p = none → W'.w p = none → CellOk K W' H' p (.dct ds) → Q (.ref p) H') : ∀ p, H p = none → Q (.ref p) (upd H p (.dK vs)) := fun p hp => by
  have c : CellOk K W (upd H p (.dK vs)) p (.dct ds) := ⟨vs, upd_same, r⟩
  obtain ⟨a, b, c1, c2⟩ := laid_q o hp c
  exact q W _ p a b hp c1 c2 c
/-- a new tuple's end -/
theorem tup_q {W : Wd} {H : Hp} {B : Bk} {ds : List D} {vs : List V} (o : Ok K G W H B) (r : Reps K W ds vs) {Q : VK}
    (q : ∀ W' H' v, Stp W H W' H' → Ok K G W' H' B → Rep K W' (.tup ds) v → Q v H') : ∀ p, H p = none → Q (.ref p) (upd H p (.tup vs)) := fun p hp =>
  q _ _ _ (fz_stp o hp) (fz_ok o hp) ⟨p, vs, rfl, .inl (.inl upd_same), r.mono (fz_stp o hp).le⟩
theorem of_catL : OpF K G rCatQ gCatL := fun W H B d1 d2 v1 v2 d o h1 h2 hg Q q => by
  unfold gCatL at hg
  split at hg
  · split at hg
    · rename_i x y hc
      cases hg
      obtain ⟨a, xs, rfl, sa, ra⟩ := h1.lst o
      obtain ⟨b, ys, rfl, sb, rb⟩ := h2.lst o
      exact ⟨a, b, xs, ys, rfl, rfl, .inl sa, .inl sb, by rw [ra.len, rb.len]; exact hc, lst_q o (ra.append rb) q⟩
    · cases hg
  · cases hg
theorem ov_catT : OpV K G (rCatT K) gCatT := fun W H B d1 d2 v1 v2 d o h1 h2 hg Q q => by
  unfold gCatT at hg
  split at hg
  · split at hg
    · rename_i x y hc
      cases hg
      obtain ⟨a, xs, rfl, sa, ra⟩ := h1.tup o
      obtain ⟨b, ys, rfl, sb, rb⟩ := h2.tup o
      have nx : xs ≠ [] := fun z => hc.2.1 (List.length_eq_zero_iff.mp (by rw [← ra.len, z]; rfl))
      have ny : ys ≠ [] := fun z => hc.2.2 (List.length_eq_zero_iff.mp (by rw [← rb.len, z]; rfl))
      exact ⟨a, b, xs, ys, rfl, rfl, sa, sb, nx, by rw [ra.len, rb.len]; exact hc.1, fun z => absurd z ny, fun _ => tup_q o (ra.append rb) q⟩
    · cases hg
  · cases hg
theorem ov_inL (neg : Bool) : OpV K G (rIn K neg) (gInL neg) := opv_of_rep fun W H B d1 d2 v1 v2 d o h1 h2 hg => by
  unfold gInL at hg
  split at hg
  · split at hg
    · rename_i x ys hc
      cases hg
      rw [Bool.and_eq_true] at hc
      obtain ⟨e1, f1⟩ := flat_vw hc.1 h1
      obtain ⟨b, vs, rfl, sb, rb⟩ := h2.lst o
      obtain ⟨e2, f2⟩ := flat_reps hc.2 rb
      refine ⟨.bl _, fun _ => rfl, fun Q q => ⟨b, vs, rfl, .inl (.inl (.inl sb)), f1, f2, ?_⟩⟩
      subst e1 e2
      rw [inF_eq]
      cases neg <;> simpa using q
    · cases hg
  · split at hg
    · rename_i x ys hc
      cases hg
      rw [Bool.and_eq_true] at hc
      obtain ⟨e1, f1⟩ := flat_vw hc.1 h1
      obtain ⟨b, vs, rfl, sb, rb⟩ := h2.tup o
      obtain ⟨e2, f2⟩ := flat_reps hc.2 rb
      refine ⟨.bl _, fun _ => rfl, fun Q q => ⟨b, vs, rfl, .inr sb, f1, f2, ?_⟩⟩
      subst e1 e2
      rw [inF_eq]
      cases neg <;> simpa using q
    · cases hg
  · cases hg
def rInK (neg : Bool) : R2 := fun x y H Q => ∃ a kvs k, x = kV k ∧ y = .ref a ∧ Rd H a (.dK kvs) ∧ Q (.bl ((valV kvs k).isSome != neg)) H
theorem ov_inK (neg : Bool) : OpV K G (rInK neg) (gInK neg) := opv_of_rep fun W H B d1 d2 v1 v2 d o h1 h2 hg => by
  unfold gInK at hg
  split at hg
  · rename_i ks
    cases hk : keyOf d1 with
    | none => rw [hk] at hg; cases hg
    | some k =>
      rw [hk] at hg; cases hg
      obtain ⟨b, kvs, rfl, sb, rb⟩ := h2.dct o
      refine ⟨.bl _, fun _ => rfl, fun Q q => ⟨b, kvs, k, keyOf_vw hk h1, rfl, sb, ?_⟩⟩
      have e : (valV kvs k).isSome = khas ks k := by
        unfold khas
        cases h : kget ks k with
        | none => rw [rb.none h]; rfl
        | some d => obtain ⟨v, e, _⟩ := rb.some h; rw [e]; rfl
      rw [e]; exact q
  · cases hg
def rInC (neg : Bool) : R2 := fun x y H Q => ∃ (c : Nat) (z : Str), x = .str ⟨#[c]⟩ ∧ y = .str z ∧ Q (.bl (decide (c ∈ z.cps.toList) != neg)) H
theorem ov_inS (neg : Bool) : OpV K G (rInC neg) (gInS neg) := opv_of_rep fun W H B d1 d2 v1 v2 d o h1 h2 hg => by
  unfold gInS at hg
  split at hg
  · split at hg
    · rename_i x z hc
      cases hg; cases h1; cases h2
      refine ⟨.bl _, fun _ => rfl, fun Q q => ⟨x.cps.getD 0 0, z, ?_, rfl, q⟩⟩
      obtain ⟨c⟩ := x
      have hc : c.size = 1 := hc
      obtain ⟨l⟩ := c
      match l, hc with
      | [a], _ => rfl
    · cases hg
  · cases hg
def rIsNN (neg : Bool) : R2 := fun x y H Q => y = .non ∧ Q (.bl (decide (x = .non) != neg)) H
theorem ov_isN (neg : Bool) : OpV K G (rIsNN neg) (gIsN neg) := opv_of_rep fun W H B d1 d2 v1 v2 d o h1 h2 hg => by
  unfold gIsN at hg
  split at hg
  · cases h2
    have ne : ∀ {x : V}, x ≠ .non → (decide (x = .non) != neg) = neg := fun {x} h => by rw [decide_eq_false h]; cases neg <;> rfl
    split at hg
    · cases hg
    · cases hg
    · cases hg; cases h1; exact ⟨.bl _, fun _ => rfl, fun Q q => ⟨rfl, by cases neg <;> exact q⟩⟩
    · rename_i n1 n2 n3
      cases hg
      refine ⟨.bl _, fun _ => rfl, fun Q q => ⟨rfl, ?_⟩⟩
      rw [ne]; exact q
      intro z; subst z
      cases d1 with
      | non => exact n3 rfl
      | bl _ => cases h1
      | int _ => cases h1
      | str _ => cases h1
      | lst _ => obtain ⟨_, _, e, _⟩ := h1; cases e
      | tup _ => obtain ⟨_, _, e, _⟩ := h1; cases e
      | dct _ => obtain ⟨_, _, e, _⟩ := h1; cases e
      | obj k => exact n1 k rfl
      | exc k => exact n2 k rfl
      | scr _ => obtain ⟨_, e, _⟩ := h1; cases e
  · cases hg
end
section
variable {X : Cx}
theorem op_inK (hu : X.A.units + 64 < cLine) : OpR X (compareOp .In) (rInK false) := by
  intro pins s σ H x y v u Q I rx ry h
  obtain ⟨a, kvs, k, rfl, rfl, hd, q⟩ := h
  obtain rfl : u = Value.ref a := ry
  exact d_in (by omega) I (.inl ⟨kvs, k, hd, rfl, rfl⟩) rx fun s' I' => ⟨.bl _, H, I', rfl, by simpa using q⟩
theorem op_notinK (hu : X.A.units + 64 < cLine) : OpR X (compareOp .NotIn) (rInK true) := by
  intro pins s σ H x y v u Q I rx ry h
  obtain ⟨a, kvs, k, rfl, rfl, hd, q⟩ := h
  obtain rfl : u = Value.ref a := ry
  exact d_notIn (by omega) I (.inl ⟨kvs, k, hd, rfl, rfl⟩) rx fun s' I' => ⟨.bl _, H, I', rfl, by simpa using q⟩
theorem op_inC : OpR X (compareOp .In) (rInC false) := by
  intro pins s σ H x y v u Q I rx ry h
  obtain ⟨c, z, e1, e2, q⟩ := h
  exact op_in_sign pins s σ H x y v u Q I rx ry ⟨c, z, e1, e2, by simpa using q⟩
theorem op_notinC : OpR X (compareOp .NotIn) (rInC true) := by
  intro pins s σ H x y v u Q I rx ry h
  obtain ⟨c, z, e1, e2, q⟩ := h
  exact op_notIn_sign pins s σ H x y v u Q I rx ry ⟨c, z, e1, e2, by simpa using q⟩
theorem op_isNN : OpR X (compareOp .Is) (rIsNN false) := by
  intro pins s σ H x y v u Q I rx ry h
  exact op_isN pins s σ H x y v u Q I rx ry ⟨h.1, by simpa using h.2⟩
theorem op_isnotNN : OpR X (compareOp .IsNot) (rIsNN true) := by
  intro pins s σ H x y v u Q I rx ry h
  exact op_notN pins s σ H x y v u Q I rx ry ⟨h.1, by simpa using h.2⟩
end

/-! ### the rules for operators -/
section
variable {G : GE} {Wx : WX} {X : Cx} {e a b c : Expr} {f fa fb fc g : FE} {ft fu : FT} {pos : Pos}
theorem pev_bin {op : Operator} {r : R2} {g : D → D → Option D} (h : OpR X (binaryOp op) r) (k : OpV X.K G r g) (ha : PVv G Wx X a fa) (hb : PVv G Wx X b fb) : PEv G Wx X (.BinOp a op b pos) (fOp g fa fb) := pev_op2 (pe_op h) k ha hb
theorem pev_cmpR {op : CmpOp} {r : R2} {g : D → D → Option D} (h : OpR X (compareOp op) r) (k : OpV X.K G r g) (hm : behindInMarks op b = false) (ha : PVv G Wx X a fa) (hb : PVv G Wx X b fb) : PEv G Wx X (.Compare a [op] [b] pos) (fOp g fa fb) := pev_op2 (fun x y => pe_cmpR h x y hm) k ha hb
theorem ptv_cmpR {op : CmpOp} {r : R2} {g : D → D → Option D} (h : OpR X (compareOp op) r) (k : OpV X.K G r g) (hm : behindInMarks op b = false) (ha : PVv G Wx X a fa) (hb : PVv G Wx X b fb) : PTv G Wx X (.Compare a [op] [b] pos) (fTst (fOp g fa fb)) :=
  ⟨pt_weak (pt_cmpR h ha.run hb.run hm) fun σ H Q ⟨ρ, B, W, o, s, out, e, q⟩ => by
    rcases mbind_some e with ⟨d0, B0, e0, e'⟩ | ⟨c, B0, e0, rfl⟩
    · rcases mbind_some e0 with ⟨d1, B1, e1, e0⟩ | ⟨c, B1, e1, h⟩
      · refine ⟨ρ, B, W, o, s, _, e1, fun W1 H1 v1 st1 o1 v1r => ?_⟩
        rcases mbind_some e0 with ⟨d2, B2, e2, e''⟩ | ⟨c, B2, e2, h⟩
        · refine ⟨ρ, B1, W1, o1, s.step st1, _, e2, fun W2 H2 v2 st2 o2 v2r => ?_⟩
          obtain ⟨d, hd, h⟩ := mlift_some e''
          cases h
          obtain ⟨k', hk, rfl⟩ := mlift_some e'
          refine k W2 H2 _ d1 d2 v1 v2 _ o2 (v1r.step st2) v2r hd _ fun W' H' v st o' r' => ?_
          cases d0 with
          | bl b' => cases hk; cases r'; exact ⟨_, rfl, q W' H' ((st1.tr st2).tr st) o'⟩
          | _ => cases hk
        · cases h
      · cases h
    · rcases mbind_some e0 with ⟨d1, B1, e1, e0⟩ | ⟨c, B1, e1, h⟩
      · refine ⟨ρ, B, W, o, s, _, e1, fun W1 H1 v1 st1 o1 v1r => ?_⟩
        rcases mbind_some e0 with ⟨d2, B2, e2, e''⟩ | ⟨c, B2, e2, h⟩
        · obtain ⟨d, hd, h⟩ := mlift_some e''
          cases h
        · cases h
          exact ⟨ρ, B1, W1, o1, s.step st1, _, e2, fun W' H' st o' => q W' H' (st1.tr st) o'⟩
      · cases h
        exact ⟨ρ, B, W, o, s, _, e1, q⟩⟩
theorem cMul_ok (i j : Int) (h : cMul i j = true) : CMul i j := by unfold cMul at h; unfold CMul; exact cd_of h
theorem cDiv_ok (i j : Int) (h : cDiv i j = true) : CDiv i j := by unfold cDiv at h; unfold CDiv; exact cd_of h
theorem cPow_ok (i j : Int) (h : cPow i j = true) : CPow i j := by unfold cPow at h; unfold CPow; exact cd_of h
theorem pev_add (ha : PVv G Wx X a fa) (hb : PVv G Wx X b fb) : PEv G Wx X (.BinOp a .Add b pos) (fOp gAdd fa fb) :=
  pev_bin (op_add.or (op_add_str.or (op_catQ.or op_catT))) (ov_I0.or (ov_addS.or (of_catL.toV.or ov_catT))) ha hb
theorem pfv_cat (ha : PVv G Wx X a fa) (hb : PVv G Wx X b fb) : PFv G Wx X (.BinOp a .Add b pos) (fOp gCatL fa fb) := pfv_op2 (pe_op op_catQ) of_catL ha hb
theorem pev_sub (ha : PVv G Wx X a fa) (hb : PVv G Wx X b fb) : PEv G Wx X (.BinOp a .Sub b pos) (fOp gSub fa fb) := pev_bin op_sub ov_I0 ha hb
theorem pev_mul (ha : PVv G Wx X a fa) (hb : PVv G Wx X b fb) : PEv G Wx X (.BinOp a .Mult b pos) (fOp gMul fa fb) :=
  pev_bin (op_mul.or op_mulS) ((ov_I cMul_ok).or ov_mulS) ha hb
theorem pev_div (ha : PVv G Wx X a fa) (hb : PVv G Wx X b fb) : PEv G Wx X (.BinOp a .FloorDiv b pos) (fOp gDiv fa fb) := pev_bin op_fdiv (ov_I cDiv_ok) ha hb
theorem pev_mod (ha : PVv G Wx X a fa) (hb : PVv G Wx X b fb) : PEv G Wx X (.BinOp a .Mod b pos) (fOp gMod fa fb) := pev_bin op_mod (ov_I fun i j h => cd_of h) ha hb
theorem pev_pow (ha : PVv G Wx X a fa) (hb : PVv G Wx X b fb) : PEv G Wx X (.BinOp a .Pow b pos) (fOp gPow fa fb) := pev_bin op_pow (ov_I cPow_ok) ha hb
variable (hu : X.A.units + 64 < cLine)
include hu
theorem pev_eq (ha : PVv G Wx X a fa) (hb : PVv G Wx X b fb) : PEv G Wx X (.Compare a [.Eq] [b] pos) (fOp gEq fa fb) := pev_cmpR ((op_eqD hu).or (op_eqK hu)) opv_eqD (nomark _) ha hb
theorem ptv_eq (ha : PVv G Wx X a fa) (hb : PVv G Wx X b fb) : PTv G Wx X (.Compare a [.Eq] [b] pos) (fTst (fOp gEq fa fb)) := ptv_cmpR ((op_eqD hu).or (op_eqK hu)) opv_eqD (nomark _) ha hb
theorem pev_ne (ha : PVv G Wx X a fa) (hb : PVv G Wx X b fb) : PEv G Wx X (.Compare a [.NotEq] [b] pos) (fOp gNe fa fb) := pev_cmpR ((op_neD hu).or (op_neK hu)) opv_neD (nomark _) ha hb
theorem ptv_ne (ha : PVv G Wx X a fa) (hb : PVv G Wx X b fb) : PTv G Wx X (.Compare a [.NotEq] [b] pos) (fTst (fOp gNe fa fb)) := ptv_cmpR ((op_neD hu).or (op_neK hu)) opv_neD (nomark _) ha hb
theorem pev_in (ha : PVv G Wx X a fa) (hb : PVv G Wx X b fb) (hm : behindInMarks .In b = false := by rfl) : PEv G Wx X (.Compare a [.In] [b] pos) (fOp (gIn false) fa fb) :=
  pev_cmpR (op_in_seq.or ((op_inK hu).or op_inC)) ((ov_inL false).or ((ov_inK false).or (ov_inS false))) hm ha hb
theorem ptv_in (ha : PVv G Wx X a fa) (hb : PVv G Wx X b fb) (hm : behindInMarks .In b = false := by rfl) : PTv G Wx X (.Compare a [.In] [b] pos) (fTst (fOp (gIn false) fa fb)) :=
  ptv_cmpR (op_in_seq.or ((op_inK hu).or op_inC)) ((ov_inL false).or ((ov_inK false).or (ov_inS false))) hm ha hb
theorem pev_notin (ha : PVv G Wx X a fa) (hb : PVv G Wx X b fb) (hm : behindInMarks .NotIn b = false := by rfl) : PEv G Wx X (.Compare a [.NotIn] [b] pos) (fOp (gIn true) fa fb) :=
  pev_cmpR (op_notIn_seq.or ((op_notinK hu).or op_notinC)) ((ov_inL true).or ((ov_inK true).or (ov_inS true))) hm ha hb
theorem ptv_notin (ha : PVv G Wx X a fa) (hb : PVv G Wx X b fb) (hm : behindInMarks .NotIn b = false := by rfl) : PTv G Wx X (.Compare a [.NotIn] [b] pos) (fTst (fOp (gIn true) fa fb)) :=
  ptv_cmpR (op_notIn_seq.or ((op_notinK hu).or op_notinC)) ((ov_inL true).or ((ov_inK true).or (ov_inS true))) hm ha hb
omit hu
theorem pev_lt (ha : PVv G Wx X a fa) (hb : PVv G Wx X b fb) : PEv G Wx X (.Compare a [.Lt] [b] pos) (fOp gLt fa fb) := pev_cmpR op_lt ov_B (nomark _) ha hb
theorem ptv_lt (ha : PVv G Wx X a fa) (hb : PVv G Wx X b fb) : PTv G Wx X (.Compare a [.Lt] [b] pos) (fTst (fOp gLt fa fb)) := ptv_cmpR op_lt ov_B (nomark _) ha hb
theorem pev_gt (ha : PVv G Wx X a fa) (hb : PVv G Wx X b fb) : PEv G Wx X (.Compare a [.Gt] [b] pos) (fOp gGt fa fb) := pev_cmpR op_gt ov_B (nomark _) ha hb
theorem ptv_gt (ha : PVv G Wx X a fa) (hb : PVv G Wx X b fb) : PTv G Wx X (.Compare a [.Gt] [b] pos) (fTst (fOp gGt fa fb)) := ptv_cmpR op_gt ov_B (nomark _) ha hb
theorem pev_ge (ha : PVv G Wx X a fa) (hb : PVv G Wx X b fb) : PEv G Wx X (.Compare a [.GtE] [b] pos) (fOp gGe fa fb) := pev_cmpR op_ge ov_B (nomark _) ha hb
theorem ptv_ge (ha : PVv G Wx X a fa) (hb : PVv G Wx X b fb) : PTv G Wx X (.Compare a [.GtE] [b] pos) (fTst (fOp gGe fa fb)) := ptv_cmpR op_ge ov_B (nomark _) ha hb
theorem pev_is (ha : PVv G Wx X a fa) (hb : PVv G Wx X b fb) : PEv G Wx X (.Compare a [.Is] [b] pos) (fOp (gIsN false) fa fb) := pev_cmpR op_isNN (ov_isN false) (nomark _) ha hb
theorem ptv_is (ha : PVv G Wx X a fa) (hb : PVv G Wx X b fb) : PTv G Wx X (.Compare a [.Is] [b] pos) (fTst (fOp (gIsN false) fa fb)) := ptv_cmpR op_isNN (ov_isN false) (nomark _) ha hb
theorem pev_isnot (ha : PVv G Wx X a fa) (hb : PVv G Wx X b fb) : PEv G Wx X (.Compare a [.IsNot] [b] pos) (fOp (gIsN true) fa fb) := pev_cmpR op_isnotNN (ov_isN true) (nomark _) ha hb
theorem ptv_isnot (ha : PVv G Wx X a fa) (hb : PVv G Wx X b fb) : PTv G Wx X (.Compare a [.IsNot] [b] pos) (fTst (fOp (gIsN true) fa fb)) := ptv_cmpR op_isnotNN (ov_isN true) (nomark _) ha hb
/-! one operand -/
def UnV (K : PySem.W.Frag) (G : GE) (r : V → Hp → VK → Prop) (g : D → Option D) : Prop := ∀ W H B d1 v1 d, Ok K G W H B → Vw K W H d1 v1 → g d1 = some d → ∀ Q : VK, (∀ W' H' v, Stp W H W' H' → Ok K G W' H' B → Rep K W' d v → Q v H') → r v1 H Q
def gNeg : D → Option D
  | .int i => some (.int (-i))
  | _ => none
theorem pev_un {op : UnaryOp} {r : V → Hp → VK → Prop} {g : D → Option D} (h : UnR X (unaryOp op) r) (k : UnV X.K G r g) (ha : PVv G Wx X a fa) : PEv G Wx X (.UnaryOp op a pos) (fUn g fa) :=
  ⟨pe_weak (pe_un h ha.run) fun σ H Q ⟨ρ, B, W, o, s, out, e, q⟩ => by
    rcases mbind_some e with ⟨d1, B1, e1, e'⟩ | ⟨c, B1, e1, rfl⟩
    · refine ⟨ρ, B, W, o, s, _, e1, fun W1 H1 v1 st1 o1 v1r => ?_⟩
      obtain ⟨d, hd, rfl⟩ := mlift_some e'
      exact k W1 H1 B1 d1 v1 d o1 v1r hd Q fun W' H' v st o' r' => q W' H' v (st1.tr st) o' r'
    · exact ⟨ρ, B, W, o, s, _, e1, q⟩⟩
theorem pev_neg (ha : PVv G Wx X a fa) : PEv G Wx X (.UnaryOp .USub a pos) (fUn gNeg fa) := pev_un un_neg (fun W H B d1 v1 d o r hg Q q => by
  cases d1 with
  | int i => cases hg; cases r; exact ⟨i, rfl, q W H _ (.refl W H) o rfl⟩
  | _ => cases hg) ha

/-! tests -/
theorem ptv_val (h : PEv G Wx X e f) (he : ∀ whole, isTrue e X.env whole = (do let v ← whole; standAt e.pos; holding [v] (truthy v)) := by intro _; rfl) : PTv G Wx X e (fTst f) :=
  ⟨pt_weak (pt_val h.run he) fun σ H Q ⟨ρ, B, W, o, s, out, e, q⟩ => by
    rcases mbind_some e with ⟨d1, B1, e1, e'⟩ | ⟨c, B1, e1, rfl⟩
    · refine ⟨ρ, B, W, o, s, _, e1, fun W1 H1 v1 st1 o1 v1r => ?_⟩
      obtain ⟨k', hk, rfl⟩ := mlift_some e'
      cases d1 with
      | bl b' => cases hk; cases v1r; exact ⟨_, rfl, q W1 H1 st1 o1⟩
      | _ => cases hk
    · exact ⟨ρ, B, W, o, s, _, e1, q⟩⟩
theorem ptv_not (h : PTv G Wx X e ft) : PTv G Wx X (.UnaryOp .Not e pos) (fNotT ft) :=
  ⟨pt_weak (pt_not h.run) fun σ H Q ⟨ρ, B, W, o, s, out, e, q⟩ => by
    rcases mbind_some e with ⟨d1, B1, e1, e'⟩ | ⟨c, B1, e1, rfl⟩
    · cases e'
      exact ⟨ρ, B, W, o, s, _, e1, q⟩
    · exact ⟨ρ, B, W, o, s, _, e1, q⟩⟩
structure PWv (G : GE) (Wx : WX) (X : Cx) (e : Expr) (f : FT) : Prop where run : PW X e (RdT X.K G Wx f)
theorem PWv.pt (h : PWv G Wx X e ft) : PTv G Wx X e ft := ⟨h.run.pt⟩
theorem pw_weak {t t' : TT} (h : PW X e t) (w : ∀ σ H Q, t' σ H Q → t σ H Q) : PW X e t' := ⟨fun wh pins s σ H Q I q => h.run wh pins s σ H Q I (w _ _ _ q)⟩
theorem pwv_and1 (h : PTv G Wx X a ft) : PWv G Wx X (.BoolOp .And [a] pos) ft := ⟨pw_and1 h.run⟩
theorem pwv_or1 (h : PTv G Wx X a ft) : PWv G Wx X (.BoolOp .Or [a] pos) ft := ⟨pw_or1 h.run⟩
theorem pwv_and {rest : List Expr} (h : PTv G Wx X a ft) (h2 : PWv G Wx X (.BoolOp .And (b :: rest) pos) fu) : PWv G Wx X (.BoolOp .And (a :: b :: rest) pos) (fAndT ft fu) :=
  ⟨pw_weak (pw_and h.run h2.run) fun σ H Q ⟨ρ, B, W, o, s, out, e, q⟩ => by
    rcases mbind_some e with ⟨d1, B1, e1, e'⟩ | ⟨c, B1, e1, rfl⟩
    · refine ⟨ρ, B, W, o, s, _, e1, fun W1 H1 st1 o1 => ?_⟩
      cases d1 with
      | false => cases e'; exact iteF (q W1 H1 st1 o1)
      | true =>
        refine iteT ⟨ρ, B1, W1, o1, s.step st1, _, e', ?_⟩
        obtain ⟨out, B'⟩ := out
        cases out with
        | ok d => exact fun W' H' st o' => q W' H' (st1.tr st) o'
        | ex c => exact fun W' H' st o' => q W' H' (st1.tr st) o'
    · exact ⟨ρ, B, W, o, s, _, e1, q⟩⟩
theorem pwv_or {rest : List Expr} (h : PTv G Wx X a ft) (h2 : PWv G Wx X (.BoolOp .Or (b :: rest) pos) fu) : PWv G Wx X (.BoolOp .Or (a :: b :: rest) pos) (fOrT ft fu) :=
  ⟨pw_weak (pw_or h.run h2.run) fun σ H Q ⟨ρ, B, W, o, s, out, e, q⟩ => by
    rcases mbind_some e with ⟨d1, B1, e1, e'⟩ | ⟨c, B1, e1, rfl⟩
    · refine ⟨ρ, B, W, o, s, _, e1, fun W1 H1 st1 o1 => ?_⟩
      cases d1 with
      | true => cases e'; exact iteT (q W1 H1 st1 o1)
      | false =>
        refine iteF ⟨ρ, B1, W1, o1, s.step st1, _, e', ?_⟩
        obtain ⟨out, B'⟩ := out
        cases out with
        | ok d => exact fun W' H' st o' => q W' H' (st1.tr st) o'
        | ex c => exact fun W' H' st o' => q W' H' (st1.tr st) o'
    · exact ⟨ρ, B, W, o, s, _, e1, q⟩⟩
/-! and, or, not as values -/
theorem pev_one {op} (h : PEv G Wx X a fa) : PEv G Wx X (.BoolOp op [a] pos) fa := ⟨pe_one h.run⟩
theorem pev_and {rest : List Expr} (h : PEv G Wx X a fa) (h2 : PEv G Wx X (.BoolOp .And (b :: rest) pos) fb) : PEv G Wx X (.BoolOp .And (a :: b :: rest) pos) (fAnd fa fb) :=
  ⟨pe_weak (pe_and h.run h2.run) fun σ H Q ⟨ρ, B, W, o, s, out, e, q⟩ => by
    rcases mbind_some e with ⟨d1, B1, e1, e'⟩ | ⟨c, B1, e1, rfl⟩
    · rcases mbind_some e1 with ⟨d0, B0, e0, e1⟩ | ⟨c, B0, e0, h⟩
      · obtain ⟨k', hk, h⟩ := mlift_some e1
        cases h
        refine ⟨ρ, B, W, o, s, _, e0, fun W1 H1 v1 st1 o1 v1r => ?_⟩
        cases d0 with
        | bl b' =>
          cases hk; cases v1r
          refine ⟨_, rfl, ?_⟩
          cases d1 with
          | false => cases e'; exact iteF (q W1 H1 _ st1 o1 rfl)
          | true =>
            refine iteT ⟨ρ, _, W1, o1, s.step st1, _, e', ?_⟩
            obtain ⟨out, B'⟩ := out
            cases out with
            | ok d => exact fun W' H' v st o' => q W' H' v (st1.tr st) o'
            | ex c => exact fun W' H' st o' => q W' H' (st1.tr st) o'
        | _ => cases hk
      · cases h
    · rcases mbind_some e1 with ⟨d0, B0, e0, e1⟩ | ⟨c, B0, e0, h⟩
      · obtain ⟨k', hk, h⟩ := mlift_some e1
        cases h
      · cases h; exact ⟨ρ, B, W, o, s, _, e0, q⟩⟩
theorem pev_or {rest : List Expr} (h : PEv G Wx X a fa) (h2 : PEv G Wx X (.BoolOp .Or (b :: rest) pos) fb) : PEv G Wx X (.BoolOp .Or (a :: b :: rest) pos) (fOr fa fb) :=
  ⟨pe_weak (pe_or h.run h2.run) fun σ H Q ⟨ρ, B, W, o, s, out, e, q⟩ => by
    rcases mbind_some e with ⟨d1, B1, e1, e'⟩ | ⟨c, B1, e1, rfl⟩
    · rcases mbind_some e1 with ⟨d0, B0, e0, e1⟩ | ⟨c, B0, e0, h⟩
      · obtain ⟨k', hk, h⟩ := mlift_some e1
        cases h
        refine ⟨ρ, B, W, o, s, _, e0, fun W1 H1 v1 st1 o1 v1r => ?_⟩
        cases d0 with
        | bl b' =>
          cases hk; cases v1r
          refine ⟨_, rfl, ?_⟩
          cases d1 with
          | true => cases e'; exact iteT (q W1 H1 _ st1 o1 rfl)
          | false =>
            refine iteF ⟨ρ, _, W1, o1, s.step st1, _, e', ?_⟩
            obtain ⟨out, B'⟩ := out
            cases out with
            | ok d => exact fun W' H' v st o' => q W' H' v (st1.tr st) o'
            | ex c => exact fun W' H' st o' => q W' H' (st1.tr st) o'
        | _ => cases hk
      · cases h
    · rcases mbind_some e1 with ⟨d0, B0, e0, e1⟩ | ⟨c, B0, e0, h⟩
      · obtain ⟨k', hk, h⟩ := mlift_some e1
        cases h
      · cases h; exact ⟨ρ, B, W, o, s, _, e0, q⟩⟩
def gNot : D → Option D
  | .bl b => some (.bl (!b))
  | _ => none
theorem pev_not (h : PEv G Wx X a fa) : PEv G Wx X (.UnaryOp .Not a pos) (fUn gNot fa) :=
  ⟨pe_weak (pe_not h.run) fun σ H Q ⟨ρ, B, W, o, s, out, e, q⟩ => by
    rcases mbind_some e with ⟨d1, B1, e1, e'⟩ | ⟨c, B1, e1, rfl⟩
    · refine ⟨ρ, B, W, o, s, _, e1, fun W1 H1 v1 st1 o1 v1r => ?_⟩
      obtain ⟨d, hd, rfl⟩ := mlift_some e'
      cases d1 with
      | bl b' => cases hd; cases v1r; exact ⟨_, rfl, q W1 H1 _ st1 o1 rfl⟩
      | _ => cases hd
    · exact ⟨ρ, B, W, o, s, _, e1, q⟩⟩
theorem pev_if (hc : PTv G Wx X c ft) (ha : PEv G Wx X a fa) (hb : PEv G Wx X b fb) : PEv G Wx X (.IfExp c a b pos) (fIf ft fa fb) :=
  ⟨pe_weak (pe_ifExp hc.run ha.run hb.run) fun σ H Q ⟨ρ, B, W, o, s, out, e, q⟩ => by
    rcases mbind_some e with ⟨d1, B1, e1, e'⟩ | ⟨c, B1, e1, rfl⟩
    · refine ⟨ρ, B, W, o, s, _, e1, fun W1 H1 st1 o1 => ?_⟩
      have fin : ∀ {f : FE}, f ρ B1 = some out → RdE X.K G Wx f σ H1 Q := fun {f} e' => by
        refine ⟨ρ, B1, W1, o1, s.step st1, _, e', ?_⟩
        obtain ⟨out, B'⟩ := out
        cases out with
        | ok d => exact fun W' H' v st o' => q W' H' v (st1.tr st) o'
        | ex c => exact fun W' H' st o' => q W' H' (st1.tr st) o'
      cases d1 with
      | true => exact iteT (fin e')
      | false => exact iteF (fin e')
    · exact ⟨ρ, B, W, o, s, _, e1, q⟩⟩
/-! chains -/
theorem chain_rd {r r' : R2} {g g' : D → D → Option D} (h : OpV X.K G r g) (h' : OpV X.K G r' g') {σ : L2.St} {H : Hp} {Q : VK} (q : RdE X.K G Wx (fChain g g' fa fb fc) σ H Q) : tChain r r' (RdV X.K G Wx fa) (RdV X.K G Wx fb) (RdV X.K G Wx fc) σ H Q := by
  obtain ⟨ρ, B, W, o, s, out, e, q⟩ := q
  rcases mbind_some e with ⟨d1, B1, e1, e'⟩ | ⟨c, B1, e1, rfl⟩
  · refine ⟨ρ, B, W, o, s, _, e1, fun W1 H1 v1 st1 o1 v1r => ?_⟩
    rcases mbind_some e' with ⟨d2, B2, e2, e3⟩ | ⟨c, B2, e2, rfl⟩
    · refine ⟨ρ, B1, W1, o1, s.step st1, _, e2, fun W2 H2 v2 st2 o2 v2r => ?_⟩
      rcases mbind_some e3 with ⟨k', B3, e4, e5⟩ | ⟨c, B2, e4, h⟩
      · obtain ⟨k2, hk2, h2⟩ := mlift_some e4
        cases h2
        cases hg : g d1 d2 with
        | none => rw [hg] at hk2; cases hk2
        | some dd =>
          rw [hg] at hk2
          refine h W2 H2 B2 d1 d2 v1 v2 dd o2 (v1r.step st2) v2r hg _ fun W3 H3 v3 st3 o3 r3 => ?_
          cases dd with
          | bl b' =>
            cases hk2; cases r3
            refine ⟨_, rfl, ?_⟩
            cases k' with
            | false => cases e5; exact iteF (q W3 H3 _ ((st1.tr st2).tr st3) o3 rfl)
            | true =>
              refine iteT ?_
              rcases mbind_some e5 with ⟨d4, B4, e6, e7⟩ | ⟨c, B4, e6, rfl⟩
              · refine ⟨ρ, _, W3, o3, s.step ((st1.tr st2).tr st3), _, e6, fun W4 H4 v4 st4 o4 r4 => ?_⟩
                obtain ⟨d5, hd5, rfl⟩ := mlift_some e7
                exact h' W4 H4 _ d2 d4 v2 v4 d5 o4 (v2r.step (st3.tr st4)) r4 hd5 Q fun W' H' v st o' r' => q W' H' v (((st1.tr st2).tr (st3.tr st4)).tr st) o' r'
              · exact ⟨ρ, _, W3, o3, s.step ((st1.tr st2).tr st3), _, e6, fun W' H' st o' => q W' H' (((st1.tr st2).tr st3).tr st) o'⟩
          | _ => cases hk2
      · obtain ⟨k2, hk2, h2⟩ := mlift_some e4
        cases h2
    · exact ⟨ρ, B1, W1, o1, s.step st1, _, e2, fun W' H' st o' => q W' H' (st1.tr st) o'⟩
  · exact ⟨ρ, B, W, o, s, _, e1, q⟩
theorem pev_chain {op op' : CmpOp} {r r' : R2} {g g' : D → D → Option D} (ho : OpR X (compareOp op) r) (ho' : OpR X (compareOp op') r') (h : OpV X.K G r g) (h' : OpV X.K G r' g') (ha : PVv G Wx X a fa) (hb : PVv G Wx X b fb) (hc : PVv G Wx X c fc)
    (hm : lastMarks [op, op'] [b, c] = false := by with_unfolding_all rfl) : PEv G Wx X (.Compare a [op, op'] [b, c] pos) (fChain g g' fa fb fc) := ⟨pe_weak (pe_chain ho ho' ha.run hb.run hc.run hm) fun σ H Q q => chain_rd h h' q⟩
theorem ptv_chain {op op' : CmpOp} {r r' : R2} {g g' : D → D → Option D} (ho : OpR X (compareOp op) r) (ho' : OpR X (compareOp op') r') (h : OpV X.K G r g) (h' : OpV X.K G r' g') (ha : PVv G Wx X a fa) (hb : PVv G Wx X b fb) (hc : PVv G Wx X c fc)
    (hm : lastMarks [op, op'] [b, c] = false := by with_unfolding_all rfl) : PTv G Wx X (.Compare a [op, op'] [b, c] pos) (fTst (fChain g g' fa fb fc)) := ⟨pt_weak (pt_chain ho ho' ha.run hb.run hc.run hm) fun σ H Q ⟨ρ, B, W, o, s, out, e, q⟩ => by
  show tChain r r' (RdV X.K G Wx fa) (RdV X.K G Wx fb) (RdV X.K G Wx fc) σ H _
  refine chain_rd h h' ⟨ρ, B, W, o, s, ?_⟩
  rcases mbind_some e with ⟨d1, B1, e1, e'⟩ | ⟨c, B1, e1, rfl⟩
  · refine ⟨_, e1, fun W1 H1 v1 st1 o1 v1r => ?_⟩
    obtain ⟨k', hk, rfl⟩ := mlift_some e'
    cases d1 with
    | bl b' => cases hk; cases v1r; exact ⟨_, rfl, q W1 H1 st1 o1⟩
    | _ => cases hk
  · exact ⟨_, e1, q⟩⟩
theorem pev_lelt (ha : PVv G Wx X a fa) (hb : PVv G Wx X b fb) (hc : PVv G Wx X c fc) (hm : lastMarks [.LtE, .Lt] [b, c] = false := by with_unfolding_all rfl) : PEv G Wx X (.Compare a [.LtE, .Lt] [b, c] pos) (fChain gLe gLt fa fb fc) :=
  pev_chain (op_le.or op_le_str) op_lt (ov_B.or ov_leS) ov_B ha hb hc hm
theorem ptv_lelt (ha : PVv G Wx X a fa) (hb : PVv G Wx X b fb) (hc : PVv G Wx X c fc) (hm : lastMarks [.LtE, .Lt] [b, c] = false := by with_unfolding_all rfl) : PTv G Wx X (.Compare a [.LtE, .Lt] [b, c] pos) (fTst (fChain gLe gLt fa fb fc)) :=
  ptv_chain (op_le.or op_le_str) op_lt (ov_B.or ov_leS) ov_B ha hb hc hm
theorem pev_lele (ha : PVv G Wx X a fa) (hb : PVv G Wx X b fb) (hc : PVv G Wx X c fc) (hm : lastMarks [.LtE, .LtE] [b, c] = false := by with_unfolding_all rfl) : PEv G Wx X (.Compare a [.LtE, .LtE] [b, c] pos) (fChain gLe gLe fa fb fc) :=
  pev_chain (op_le.or op_le_str) (op_le.or op_le_str) (ov_B.or ov_leS) (ov_B.or ov_leS) ha hb hc hm
theorem ptv_lele (ha : PVv G Wx X a fa) (hb : PVv G Wx X b fb) (hc : PVv G Wx X c fc) (hm : lastMarks [.LtE, .LtE] [b, c] = false := by with_unfolding_all rfl) : PTv G Wx X (.Compare a [.LtE, .LtE] [b, c] pos) (fTst (fChain gLe gLe fa fb fc)) :=
  ptv_chain (op_le.or op_le_str) (op_le.or op_le_str) (ov_B.or ov_leS) (ov_B.or ov_leS) ha hb hc hm
end
end Fmx

namespace Fmx
open PySem PySem.Spec PyProof.Rows L2

theorem pe_or2 {X : Cx} {e : Expr} {t1 t2 : TE} (h1 : PE X e t1) (h2 : PE X e t2) : PE X e (fun σ H Q => t1 σ H Q ∨ t2 σ H Q) :=
  ⟨fun pins s σ H Q I q => q.elim (h1.run pins s σ H Q I) (h2.run pins s σ H Q I)⟩
/-! ### items -/
def gIx : D → D → Option D
  | .lst xs, .int i => atI xs i
  | .tup xs, .int i => atI xs i
  | .scr ns, .int i => (atI ns i).map .int
  | .str x, .int i => if x.length ≤ sizeLine then (atI x.cps.toList i).map fun c => .str ⟨#[c]⟩ else none
  | .dct ks, k => (keyOf k).bind (kget ks)
  | _, _ => none
theorem atI_reps {K : PySem.W.Frag} {W : Wd} {ds : List D} {vs : List V} {i : Int} {d : D} (r : Reps K W ds vs) (h : atI ds i = some d) : ∃ v, atI vs i = some v ∧ Rep K W d v := by
  unfold atI at h ⊢
  rw [r.len]
  cases q : ixN ds.length i with
  | none => rw [q] at h; cases h
  | some j =>
    rw [q] at h
    exact r.get h
theorem atI_map {α β : Type} (f : α → β) (xs : List α) (i : Int) : atI (xs.map f) i = (atI xs i).map f := by
  unfold atI
  rw [List.length_map]
  cases ixN xs.length i with
  | none => rfl
  | some j => simp
section
variable {G : GE} {Wx : WX} {X : Cx} {e a b c : Expr} {f fa fb fc g : FE} {ft fu : FT} {pos : Pos} {es : List Expr} {fs fr : FA}
theorem pev_ix (hu : X.A.units + 64 < cLine) (ha : PVv G Wx X a fa) (hb : PVv G Wx X b fb) (hs : PlainIx b := by intro _ _; rfl) : PEv G Wx X (.Subscript a b pos) (fOp gIx fa fb) :=
  ⟨pe_weak (pe_or2 (pe_ix ix_seq ha.run hb.run hs) (pe_dget (by omega) ha.run hb.run hs)) fun σ H Q ⟨ρ, B, W, o, s, out, e, q⟩ => by
    rcases mbind_some e with ⟨d1, B1, e1, e'⟩ | ⟨c, B1, e1, rfl⟩
    · by_cases hd : ∃ ks, d1 = .dct ks
      · obtain ⟨ks, rfl⟩ := hd
        refine .inr ⟨ρ, B, W, o, s, _, e1, fun W1 H1 v1 st1 o1 v1r => ?_⟩
        rcases mbind_some e' with ⟨d2, B2, e2, e''⟩ | ⟨c, B2, e2, rfl⟩
        · refine ⟨ρ, B1, W1, o1, s.step st1, _, e2, fun W2 H2 v2 st2 o2 v2r => ?_⟩
          obtain ⟨d, hd, rfl⟩ := mlift_some e''
          obtain ⟨p, kvs, rfl, rd, rk⟩ := (v1r.step st2).dct o2
          have hd : (keyOf d2).bind (kget ks) = some d := hd
          cases hk : keyOf d2 with
          | none => rw [hk] at hd; cases hd
          | some k =>
            rw [hk] at hd
            obtain ⟨v, ev, rv⟩ := rk.some hd
            exact ⟨p, v, rfl, .inl ⟨kvs, k, rd, keyOf_vw hk v2r, ev.symm⟩, q W2 H2 v (st1.tr st2) o2 rv⟩
        · exact ⟨ρ, B1, W1, o1, s.step st1, _, e2, fun W' H' st o' => q W' H' (st1.tr st) o'⟩
      · refine .inl ⟨ρ, B, W, o, s, _, e1, fun W1 H1 v1 st1 o1 v1r => ?_⟩
        rcases mbind_some e' with ⟨d2, B2, e2, e''⟩ | ⟨c, B2, e2, rfl⟩
        · refine ⟨ρ, B1, W1, o1, s.step st1, _, e2, fun W2 H2 v2 st2 o2 v2r => ?_⟩
          obtain ⟨d, hg, rfl⟩ := mlift_some e''
          have v1r := v1r.step st2
          have q : ∀ v, Rep X.K W2 d v → Q v H2 := fun v r => q W2 H2 v (st1.tr st2) o2 r
          unfold gIx at hg
          split at hg
          · cases v2r
            obtain ⟨p, xs, rfl, rd, rk⟩ := v1r.lst o2
            obtain ⟨v, ev, rv⟩ := atI_reps rk hg
            exact .inl ⟨p, xs, _, v, rfl, rfl, .inl (.inl rd), ev, q v rv⟩
          · cases v2r
            obtain ⟨p, xs, rfl, rd, rk⟩ := v1r.tup o2
            obtain ⟨v, ev, rv⟩ := atI_reps rk hg
            exact .inr (.inl ⟨p, xs, _, v, rfl, rfl, rd, ev, q v rv⟩)
          · cases v2r
            obtain ⟨p, rfl, rd⟩ := v1r
            rename_i ns i
            cases hn : atI ns i with
            | none => rw [hn] at hg; cases hg
            | some n =>
              rw [hn] at hg; cases hg
              exact .inl ⟨p, _, _, .int n, rfl, rfl, o2.sql rd, by rw [atI_map, hn]; rfl, q _ rfl⟩
          · split at hg
            · rename_i x i _ hl
              cases v2r; cases v1r
              cases hn : atI x.cps.toList i with
              | none => rw [hn] at hg; cases hg
              | some n =>
                rw [hn] at hg; cases hg
                exact .inr (.inr ⟨x, i, n, rfl, rfl, hl, hn, q _ rfl⟩)
            · cases hg
          · exact absurd ⟨_, rfl⟩ hd
          · cases hg
        · exact ⟨ρ, B1, W1, o1, s.step st1, _, e2, fun W' H' st o' => q W' H' (st1.tr st) o'⟩
    · exact .inl ⟨ρ, B, W, o, s, _, e1, q⟩⟩

/-! ### argument lists, displays -/
theorem pav_nil : PAv G Wx X [] fNil := ⟨pa_weak pa_nil fun σ H Q ⟨ρ, B, W, o, s, out, e, q⟩ => by cases e; exact q W H [] (.refl W H) o rfl⟩
theorem pav_cons (ha : PEv G Wx X e f) (hr : PAv G Wx X es fs) (hs : starEach (e :: es) X.env = (false, eval e X.env) :: starEach es X.env := by rfl) : PAv G Wx X (e :: es) (fCons f fs) :=
  ⟨pa_weak (pa_cons ha.run hr.run hs) fun σ H Q ⟨ρ, B, W, o, s, out, e, q⟩ => by
    rcases mbind_some e with ⟨d1, B1, e1, e'⟩ | ⟨c, B1, e1, rfl⟩
    · refine ⟨ρ, B, W, o, s, _, e1, fun W1 H1 v1 st1 o1 v1r => ?_⟩
      rcases mbind_some e' with ⟨d2, B2, e2, e''⟩ | ⟨c, B2, e2, rfl⟩
      · refine ⟨ρ, B1, W1, o1, s.step st1, _, e2, fun W2 H2 v2 st2 o2 v2r => ?_⟩
        cases e''
        exact q W2 H2 _ (st1.tr st2) o2 ⟨v1, v2, rfl, v1r.mono st2.le, v2r⟩
      · exact ⟨ρ, B1, W1, o1, s.step st1, _, e2, fun W' H' st o' => q W' H' (st1.tr st) o'⟩
    · exact ⟨ρ, B, W, o, s, _, e1, q⟩⟩
theorem pvav_nil : PVAv G Wx X [] fNil := ⟨pa_weak pa_nil fun σ H Q ⟨ρ, B, W, o, s, out, e, q⟩ => by cases e; exact q W H [] (.refl W H) o rfl⟩
theorem pvav_cons (ha : PVv G Wx X e f) (hr : PVAv G Wx X es fs) (hs : starEach (e :: es) X.env = (false, eval e X.env) :: starEach es X.env := by rfl) : PVAv G Wx X (e :: es) (fCons f fs) :=
  ⟨pa_weak (pa_cons ha.run hr.run hs) fun σ H Q ⟨ρ, B, W, o, s, out, e, q⟩ => by
    rcases mbind_some e with ⟨d1, B1, e1, e'⟩ | ⟨c, B1, e1, rfl⟩
    · refine ⟨ρ, B, W, o, s, _, e1, fun W1 H1 v1 st1 o1 v1r => ?_⟩
      rcases mbind_some e' with ⟨d2, B2, e2, e''⟩ | ⟨c, B2, e2, rfl⟩
      · refine ⟨ρ, B1, W1, o1, s.step st1, _, e2, fun W2 H2 v2 st2 o2 v2r => ?_⟩
        cases e''
        exact q W2 H2 _ (st1.tr st2) o2 ⟨v1, v2, rfl, v1r.step st2, v2r⟩
      · exact ⟨ρ, B1, W1, o1, s.step st1, _, e2, fun W' H' st o' => q W' H' (st1.tr st) o'⟩
    · exact ⟨ρ, B, W, o, s, _, e1, q⟩⟩
def gLst (xs : List D) : Option D := if xs.length ≤ sizeLine then some (.lst xs) else none
def gTup (xs : List D) : Option D := if xs.length ≤ sizeLine then some (.tup xs) else none
theorem pfv_lst (h : PAv G Wx X es fs) : PFv G Wx X (.List es pos) (fFn gLst fs) :=
  ⟨pe_weak (pe_lst h.run) fun σ H Q ⟨ρ, B, W, o, s, out, e, q⟩ => by
    rcases mbind_some e with ⟨d1, B1, e1, e'⟩ | ⟨c, B1, e1, rfl⟩
    · refine ⟨ρ, B, W, o, s, _, e1, fun W1 H1 v1 st1 o1 v1r => ?_⟩
      obtain ⟨d, hd, rfl⟩ := mlift_some e'
      unfold gLst at hd
      split at hd
      · rename_i hl
        cases hd
        exact ⟨by rw [v1r.len]; exact hl, lst_q o1 v1r fun W' H' p st o' h0 => q W' H' p (st1.tr st) o' (st1.fr h0)⟩
      · cases hd
    · exact ⟨ρ, B, W, o, s, _, e1, q⟩⟩
theorem pev_tup {k} (h : PAv G Wx X es fs) : PEv G Wx X (.Tuple es k pos) (fFn gTup fs) :=
  ⟨pe_weak (pe_tup h.run) fun σ H Q ⟨ρ, B, W, o, s, out, e, q⟩ => by
    rcases mbind_some e with ⟨d1, B1, e1, e'⟩ | ⟨c, B1, e1, rfl⟩
    · refine ⟨ρ, B, W, o, s, _, e1, fun W1 H1 v1 st1 o1 v1r => ?_⟩
      obtain ⟨d, hd, rfl⟩ := mlift_some e'
      unfold gTup at hd
      split at hd
      · rename_i hl
        cases hd
        exact ⟨by rw [v1r.len]; exact hl, tup_q o1 v1r fun W' H' p st o' => q W' H' p (st1.tr st) o'⟩
      · cases hd
    · exact ⟨ρ, B, W, o, s, _, e1, q⟩⟩

/-! ### slices -/
def cutD {α : Type} (xs : List α) (lo hi : Option Int) : List α := (xs.drop (HT.sIx xs.length 0 lo)).take (HT.sIx xs.length xs.length hi - HT.sIx xs.length 0 lo)
def gSl (lo hi : Option Int) : D → Option D
  | .lst xs => some (.lst (cutD xs lo hi))
  | .scr ns => some (.lst ((cutD ns lo hi).map .int))
  | _ => none
def gSlT (lo hi : Option Int) : D → Option D
  | .tup xs => some (.tup (cutD xs lo hi))
  | _ => none
theorem Reps.cut {K : PySem.W.Frag} {W : Wd} {ds : List D} {vs : List V} (r : Reps K W ds vs) (lo hi : Option Int) : Reps K W (cutD ds lo hi) (cutV vs lo hi) := by
  unfold cutD cutV
  rw [r.len]
  exact (r.drop _).take _
abbrev FO := Rho → M (Option Int)
def fNo : FO := fun _ B => some (.ok none, B)
def intOf : D → Option Int
  | .int i => some i
  | _ => none
def fPart (f : FE) : FO := fun ρ => mbind (f ρ) fun d => mlift ((intOf d).map some)
def fSl (g : Option Int → Option Int → D → Option D) (fe : FE) (fl fh : FO) : FE := fun ρ => mbind (fe ρ) fun x => mbind (fl ρ) fun l => mbind (fh ρ) fun h => mlift (g l h x)
def RdO (K : PySem.W.Frag) (G : GE) (Wx : WX) (f : FO) : TO := fun σ H Q => ∃ ρ B W, Ok K G W H B ∧ Slots K W H σ ρ ∧ ∃ o, f ρ B = some o ∧ match o with
  | (.ok d, B') => ∀ W' H', Stp W H W' H' → Ok K G W' H' B' → Q d H'
  | (.ex c, B') => ∀ W' H', Stp W H W' H' → Ok K G W' H' B' → Wx (G.ca c) none σ H'
structure POv (G : GE) (Wx : WX) (X : Cx) (e : Option Expr) (f : FO) : Prop where run : PO X e (RdO X.K G Wx f)
theorem po_weak {X : Cx} {e : Option Expr} {t t' : TO} (h : PO X e t) (w : ∀ σ H Q, t' σ H Q → t σ H Q) : PO X e t' := ⟨fun pins s σ H Q I q => h.run pins s σ H Q I (w _ _ _ q)⟩
theorem pov_none : POv G Wx X none fNo := ⟨po_weak po_none fun σ H Q ⟨ρ, B, W, o, s, out, e, q⟩ => by cases e; exact q W H (.refl W H) o⟩
theorem pov_some (h : PVv G Wx X e f) : POv G Wx X (some e) (fPart f) := ⟨po_weak (po_some h.run) fun σ H Q ⟨ρ, B, W, o, s, out, e, q⟩ => by
  rcases mbind_some e with ⟨d1, B1, e1, e'⟩ | ⟨c, B1, e1, rfl⟩
  · refine ⟨ρ, B, W, o, s, _, e1, fun W1 H1 v1 st1 o1 v1r => ?_⟩
    obtain ⟨d, hd, rfl⟩ := mlift_some e'
    cases d1 with
    | int i => cases hd; cases v1r; exact ⟨i, rfl, q W1 H1 st1 o1⟩
    | _ => cases hd
  · exact ⟨ρ, B, W, o, s, _, e1, q⟩⟩
theorem sl_rd {r : V → Option Int → Option Int → Hp → VK → Prop} {gg : Option Int → Option Int → D → Option D} {fl fh : FO} {F : Wd → Hp → Wd → Hp → Bk → D → V → Prop} {σ : L2.St} {H : Hp} {Q : VK} {ρ : Rho} {B : Bk} {W : Wd} {out : Res D × Bk}
    (o : Ok X.K G W H B) (s : Slots X.K W H σ ρ) (e : fSl gg fa fl fh ρ B = some out)
    (qok : ∀ d B', out = (.ok d, B') → ∀ x l h W3 H3 v, gg l h x = some d → Stp W H W3 H3 → Ok X.K G W3 H3 B' → Vw X.K W3 H3 x v → r v l h H3 Q)
    (qex : ∀ c B', out = (.ex c, B') → ∀ W' H', Stp W H W' H' → Ok X.K G W' H' B' → Wx (G.ca c) none σ H') :
    tSl r (RdV X.K G Wx fa) (RdO X.K G Wx fl) (RdO X.K G Wx fh) σ H Q := by
  rcases mbind_some e with ⟨d1, B1, e1, e'⟩ | ⟨c, B1, e1, rfl⟩
  · refine ⟨ρ, B, W, o, s, _, e1, fun W1 H1 v1 st1 o1 v1r => ?_⟩
    rcases mbind_some e' with ⟨l, B2, e2, e3⟩ | ⟨c, B2, e2, rfl⟩
    · refine ⟨ρ, B1, W1, o1, s.step st1, _, e2, fun W2 H2 st2 o2 => ?_⟩
      rcases mbind_some e3 with ⟨h, B3, e4, e5⟩ | ⟨c, B9, e4, rfl⟩
      · refine ⟨ρ, B2, W2, o2, s.step (st1.tr st2), _, e4, fun W3 H3 st3 o3 => ?_⟩
        obtain ⟨d, hd, rfl⟩ := mlift_some e5
        exact qok d _ rfl d1 l h W3 H3 v1 hd ((st1.tr st2).tr st3) o3 (v1r.step (st2.tr st3))
      · exact ⟨ρ, B2, W2, o2, s.step (st1.tr st2), _, e4, fun W' H' st o' => qex _ _ rfl W' H' ((st1.tr st2).tr st) o'⟩
    · exact ⟨ρ, B1, W1, o1, s.step st1, _, e2, fun W' H' st o' => qex _ _ rfl W' H' (st1.tr st) o'⟩
  · exact ⟨ρ, B, W, o, s, _, e1, qex _ _ rfl⟩
theorem pfv_slice {lo hi : Option Expr} {p2 : Pos} {fl fh : FO} (he : PVv G Wx X a fa) (hl : POv G Wx X lo fl) (hh : POv G Wx X hi fh) : PFv G Wx X (.Subscript a (.Slice lo hi none p2) pos) (fSl gSl fa fl fh) :=
  ⟨pe_weak (pe_slice sl_list he.run hl.run hh.run) fun σ H Q ⟨ρ, B, W, o, s, out, e, q⟩ => by
    refine sl_rd (F := fun _ _ _ _ _ _ _ => True) o s e (fun d B' he x l h W3 H3 v hg st o3 r => ?_) (fun c B' he => ?_)
    · subst he
      unfold gSl at hg
      split at hg
      · cases hg
        obtain ⟨p, xs, rfl, rd, rk⟩ := r.lst o3
        exact ⟨p, xs, rfl, .inl (.inl rd), lst_q o3 (rk.cut l h) fun W' H' p st' o' h0 => q W' H' p (st.tr st') o' (st.fr h0)⟩
      · cases hg
        rename_i ns
        obtain ⟨p, rfl, rd⟩ := r
        refine ⟨p, _, rfl, o3.sql rd, lst_q o3 ?_ fun W' H' p st' o' h0 => q W' H' p (st.tr st') o' (st.fr h0)⟩
        have e : cutV (ns.map V.int) l h = (cutD ns l h).map V.int := by
          unfold cutV cutD
          rw [List.length_map, ← List.map_drop, ← List.map_take]
        rw [e]
        exact Reps.ofInts _
      · cases hg
    · subst he; exact q⟩
theorem pev_sliceT {lo hi : Option Expr} {p2 : Pos} {fl fh : FO} (he : PVv G Wx X a fa) (hl : POv G Wx X lo fl) (hh : POv G Wx X hi fh) : PEv G Wx X (.Subscript a (.Slice lo hi none p2) pos) (fSl gSlT fa fl fh) :=
  ⟨pe_weak (pe_slice sl_tupA he.run hl.run hh.run) fun σ H Q ⟨ρ, B, W, o, s, out, e, q⟩ => by
    refine sl_rd (F := fun _ _ _ _ _ _ _ => True) o s e (fun d B' he x l h W3 H3 v hg st o3 r => ?_) (fun c B' he => ?_)
    · subst he
      unfold gSlT at hg
      split at hg
      · cases hg
        obtain ⟨p, xs, rfl, rd, rk⟩ := r.tup o3
        refine ⟨p, xs, rfl, rd, fun hw => ?_, fun _ => tup_q o3 (rk.cut l h) fun W' H' p st' o' => q W' H' p (st.tr st') o'⟩
        rename_i ds
        have e : cutD ds l h = ds := by
          unfold cutD
          rw [← rk.len, hw.1, hw.2, List.drop_zero, Nat.sub_zero, rk.len, List.take_length]
        rw [e] at q
        obtain ⟨p', xs', e1, e2, e3⟩ : Rep X.K W3 (.tup ds) (.ref p) := r
        exact q W3 H3 _ st o3 ⟨p', xs', e1, e2, e3⟩
      · cases hg
    · subst he; exact q⟩

/-! ### built-in calls -/
def CallV (K : PySem.W.Frag) (G : GE) (r : List V → Hp → VK → Prop) (g : List D → Option D) : Prop := ∀ W H B ds vs d, Ok K G W H B → Vws K W H ds vs → g ds = some d → ∀ Q : VK, (∀ W' H' v, Stp W H W' H' → Ok K G W' H' B → Rep K W' d v → Q v H') → r vs H Q
def CallF (K : PySem.W.Frag) (G : GE) (r : List V → Hp → VK → Prop) (g : List D → Option D) : Prop := ∀ W H B ds vs d, Ok K G W H B → Vws K W H ds vs → g ds = some d → ∀ Q : VK,
  (∀ W' H' p, Stp W H W' H' → Ok K G W' H' B → H p = none → W'.F p = none → W'.w p = none → CellOk K W' H' p d → Q (.ref p) H') → r vs H Q
theorem pev_cb {r : List V → Hp → VK → Prop} {gg : List D → Option D} (hpe : PA X es (RdVA X.K G Wx fs) → PE X e (tCB r (RdVA X.K G Wx fs))) (k : CallV X.K G r gg) (ha : PVAv G Wx X es fs) : PEv G Wx X e (fFn gg fs) :=
  ⟨pe_weak (hpe ha.run) fun σ H Q ⟨ρ, B, W, o, s, out, e, q⟩ => by
    rcases mbind_some e with ⟨d1, B1, e1, e'⟩ | ⟨c, B1, e1, rfl⟩
    · refine ⟨ρ, B, W, o, s, _, e1, fun W1 H1 v1 st1 o1 v1r => ?_⟩
      obtain ⟨d, hd, rfl⟩ := mlift_some e'
      exact k W1 H1 B1 d1 v1 d o1 v1r hd Q fun W' H' v st o' r' => q W' H' v (st1.tr st) o' r'
    · exact ⟨ρ, B, W, o, s, _, e1, q⟩⟩
theorem pfv_cb {r : List V → Hp → VK → Prop} {gg : List D → Option D} (hpe : PA X es (RdVA X.K G Wx fs) → PE X e (tCB r (RdVA X.K G Wx fs))) (k : CallF X.K G r gg) (ha : PVAv G Wx X es fs) : PFv G Wx X e (fFn gg fs) :=
  ⟨pe_weak (hpe ha.run) fun σ H Q ⟨ρ, B, W, o, s, out, e, q⟩ => by
    rcases mbind_some e with ⟨d1, B1, e1, e'⟩ | ⟨c, B1, e1, rfl⟩
    · refine ⟨ρ, B, W, o, s, _, e1, fun W1 H1 v1 st1 o1 v1r => ?_⟩
      obtain ⟨d, hd, rfl⟩ := mlift_some e'
      exact k W1 H1 B1 d1 v1 d o1 v1r hd Q fun W' H' v st o' h0 => q W' H' v (st1.tr st) o' (st1.fr h0)
    · exact ⟨ρ, B, W, o, s, _, e1, q⟩⟩
end
end Fmx

namespace Fmx
open PySem PySem.Spec PyProof.Rows L2

/-! ### what is walked -/
def NoF (X : Cx) (d : Addr) : Prop := ∀ o' u', X.H_0 d ≠ some (.frz o' u')
/-- the dict that is walked is locked -/
def Lk (X : Cx) (W : Wd) (H H' : Hp) : Prop := H' = H ∨ ∃ d kvs o, W.F d = some (.dK kvs) ∧ H d = some (.dK kvs) ∧ NoF X d ∧ H' = upd H d (.frz o (.dK kvs))
def Ulk (X : Cx) (H H' : Hp) : Prop := H' = H ∨ ∃ d o u, H d = some (.frz o u) ∧ NoF X d ∧ H' = upd H d u
def ItOk (K : PySem.W.Frag) (G : GE) (J : It) (items : List D) (W : Wd) (H : Hp) : Prop := ∀ W' H' B', SLe W H W' H' → Ok K G W' H' B' →
  (∀ (i : Nat) (d : D), items[i]? = some d → J.go i H' ∧ ∀ x H3, J.yld i H' x H3 → H3 = H' ∧ Rep K W' d x) ∧ ∀ i, items.length ≤ i → J.stop i H'
abbrev FI := Rho → M (List D)
def RdI (X : Cx) (G : GE) (Wx : WX) (f : FI) : TI := fun σ H R => ∃ ρ B W, Ok X.K G W H B ∧ Slots X.K W H σ ρ ∧ ∃ o, f ρ B = some o ∧ match o with
  | (.ok ds, B') => ∀ W' H' H'' J, Stp W H W' H' → Ok X.K G W' H' B' → Lk X W' H' H'' → ItOk X.K G J ds W' H'' → R J H''
  | (.ex c, B') => ∀ W' H', Stp W H W' H' → Ok X.K G W' H' B' → Wx (G.ca c) none σ H'
structure PIv (G : GE) (Wx : WX) (X : Cx) (tg e : Expr) (f : FI) : Prop where run : PI X tg e (RdI X G Wx f)
theorem pi_weak {X : Cx} {tg e : Expr} {t t' : TI} (h : PI X tg e t) (w : ∀ σ H Q, t' σ H Q → t σ H Q) : PI X tg e t' := ⟨fun pins s σ H Q I q => h.run pins s σ H Q I (w _ _ _ q)⟩
theorem pi_or2 {X : Cx} {tg e : Expr} {t1 t2 : TI} (h1 : PI X tg e t1) (h2 : PI X tg e t2) : PI X tg e (fun σ H Q => t1 σ H Q ∨ t2 σ H Q) :=
  ⟨fun pins s σ H Q I q => q.elim (h1.run pins s σ H Q I) (h2.run pins s σ H Q I)⟩
def iKeysL (X : Cx) (td : TE) : TI := fun σ H R => td σ H fun x H1 => ∃ d kvs, x = .ref d ∧ ((H1 d = some (.dK kvs) ∧ ∀ o, NoF X d → R (Itk d o kvs) (upd H1 d (.frz o (.dK kvs)))) ∨ ∃ o, H1 d = some (.frz o (.dK kvs)) ∧ R (Itk d o kvs) H1)
theorem pi_keysL {X : Cx} {tg e : Expr} {td : TE} (he : PE X e td) : PI X tg e (iKeysL X td) := by
  refine ⟨fun pins s σ H R I h => ?_⟩
  refine thn (he.run pins s σ H _ I h) fun u s1 ⟨x, H1, I1, rx, d, kvs, ex, q⟩ => ?_
  subst ex
  obtain rfl : u = Value.ref d := rx
  rcases q with ⟨hd, q⟩ | ⟨o, hd, q⟩
  · obtain ⟨od, I2⟩ := I1.lock hd trivial
    have q := q od (I1.nofrz hd trivial)
    obtain ⟨hs, hgd, hx, es, ep, vs, hdt, hsz, kv, hm⟩ := I2.frzK upd_same
    refine iter_keys hs hgd hx hdt (pi_one (tk := s1.toks) I2 _ (turn_keys _ hdt) ⟨_, Heap.get?_push_size _ rfl, rfl, ?_⟩ q)
    rw [hsz] <;> rfl
  · obtain ⟨hs, hgd, hx, es, ep, vs, hdt, hsz, kv, hm⟩ := I1.frzK hd
    refine iter_keys hs hgd hx hdt (pi_one (tk := s1.toks) I1 _ (turn_keys _ hdt) ⟨_, Heap.get?_push_size _ rfl, rfl, ?_⟩ q)
    rw [hsz] <;> rfl
theorem pe_unl {X : Cx} {e : Expr} {t : TE} (h : PE X e t) : PE X e (fun σ H Q => t σ H fun v H' => ∃ H'', Ulk X H' H'' ∧ Q v H'') :=
  ⟨fun pins s σ H Q I hw => thn (h.run pins s σ H _ I hw) fun v s1 ⟨x, H1, I2, r, H2, u, q⟩ => by
    rcases u with rfl | ⟨d, o, u, hd, nf, rfl⟩
    · exact ⟨x, H2, I2, r, q⟩
    · exact ⟨x, _, I2.unlock hd nf, r, q⟩⟩
section
variable {K : PySem.W.Frag} {G : GE} {X : Cx} {W W1 W2 : Wd} {H H' H1 H2 : Hp} {B B2 : Bk}
theorem Lk.ok (l : Lk X W H H') (o : Ok K G W H B) : Ok K G W H' B := by
  rcases l with rfl | ⟨d, kvs, ob, f, hd, nf, rfl⟩
  · exact o
  · refine ⟨fun a u h => ?_, fun a k h => ⟨(o.wf a k h).1, fun z => ?_⟩, o.len, fun k x h => ?_⟩
    · by_cases e : a = d
      · subst e
        rw [f] at h; cases h
        exact .inr ⟨kvs, ob, rfl, upd_same⟩
      · rw [upd_ne e]; exact o.cov a u h
    · by_cases e : a = d
      · subst e; rw [upd_same] at z; cases z
      · rw [upd_ne e] at z; exact (o.wf a k h).2 z
    · obtain ⟨a, e, q⟩ := o.ob k x h
      refine ⟨a, e, q.mono ⟨fun _ _ h => h, fun _ _ h => h, fun _ h => h⟩ (fun _ h => h) fun b y w h2 => ?_⟩
      rw [upd_ne (fun e => by subst e; rw [(o.wf _ _ w).1] at f; cases f)]; exact h2
theorem Lk.at (l : Lk X W H H') {p : Addr} (h : W.F p = none) : H' p = H p := by
  rcases l with rfl | ⟨d, kvs, ob, f, hd, nf, rfl⟩
  · rfl
  · rw [upd_ne (fun e => by subst e; rw [h] at f; cases f)]
theorem Lk.non (l : Lk X W H H') {p : Addr} : H' p = none ↔ H p = none := by
  rcases l with rfl | ⟨d, kvs, ob, f, hd, nf, rfl⟩
  · exact Iff.rfl
  · by_cases e : p = d
    · subst e; rw [upd_same, hd]; exact ⟨fun z => (nomatch z), fun z => (nomatch z)⟩
    · rw [upd_ne e]
theorem SlotOk.lk {v : V} {r : R} (l : Lk X W H H') (s : SlotOk K W H v r) : SlotOk K W H' v r := by
  obtain ⟨t, d⟩ := r
  cases t with
  | shr => exact s
  | own =>
    obtain ⟨p, e, f, w, c⟩ := s
    exact ⟨p, e, f, w, c.mono ⟨fun _ _ h => h, fun _ _ h => h, fun _ h => h⟩ fun o h => by rw [l.at f]; exact h⟩
  | brw =>
    obtain ⟨p, e, f, w, c⟩ := s
    exact ⟨p, e, f, w, c.mono ⟨fun _ _ h => h, fun _ _ h => h, fun _ h => h⟩ fun o h => by rw [l.at f]; exact h⟩
  | lck =>
    obtain ⟨p, e, f, w, ks, kvs, o, ed, c, r⟩ := s
    exact ⟨p, e, f, w, ks, kvs, o, ed, by rw [l.at f]; exact c, r⟩
theorem Slots.lk {σ : L2.St} {ρ : Rho} (l : Lk X W H H') (s : Slots K W H σ ρ) : Slots K W H' σ ρ := ⟨s.len, fun i r h => let ⟨v, e, k⟩ := s.ok i r h; ⟨v, e, k.lk l⟩, s.inj⟩
/-- behind the walk -/
theorem Lk.un (l : Lk X W1 H1 H') (o1 : Ok K G W1 H1 B) (fx : ∀ a o, W1.F a ≠ none → H' a = some o → H2 a = some o) (le : Le W1 W2) (o2 : Ok K G W2 H2 B2) :
    ∃ H3, Ulk X H2 H3 ∧ Ok K G W2 H3 B2 ∧ (∀ p, W1.F p = none → H3 p = H2 p) ∧ (∀ p, H3 p = none ↔ H2 p = none) ∧ ∀ a o, W1.F a ≠ none → H1 a = some o → H3 a = some o := by
  rcases l with rfl | ⟨d, kvs, ob, f, hd, nf, rfl⟩
  · exact ⟨H2, .inl rfl, o2, fun _ _ => rfl, fun _ => Iff.rfl, fx⟩
  · have h2 : H2 d = some (.frz ob (.dK kvs)) := fx d _ (by rw [f]; exact fun z => nomatch z) upd_same
    have f2 : W2.F d = some (.dK kvs) := le.F d _ f
    refine ⟨upd H2 d (.dK kvs), .inr ⟨d, ob, _, h2, nf, rfl⟩, ⟨fun a u h => ?_, fun a k h => ⟨(o2.wf a k h).1, fun z => ?_⟩, o2.len, fun k x h => ?_⟩, fun p hp => ?_, fun p => ?_, fun a o h h1 => ?_⟩
    · by_cases e : a = d
      · subst e
        rw [f2] at h; cases h
        exact .inl upd_same
      · rw [upd_ne e]; exact o2.cov a u h
    · by_cases e : a = d
      · subst e; rw [upd_same] at z; cases z
      · rw [upd_ne e] at z; exact (o2.wf a k h).2 z
    · obtain ⟨a, e, q⟩ := o2.ob k x h
      refine ⟨a, e, q.mono ⟨fun _ _ h => h, fun _ _ h => h, fun _ h => h⟩ (fun _ h => h) fun b y w h2 => ?_⟩
      rw [upd_ne (fun e => by subst e; rw [(o2.wf _ _ w).1] at f2; cases f2)]; exact h2
    · rw [upd_ne (fun e => by subst e; rw [hp] at f; cases f)]
    · by_cases e : p = d
      · subst e; rw [upd_same, h2]; exact ⟨fun z => (nomatch z), fun z => (nomatch z)⟩
      · rw [upd_ne e]
    · by_cases e : a = d
      · subst e; rw [hd] at h1; cases h1; exact upd_same
      · rw [upd_ne e]; exact fx a o h (by rw [upd_ne e]; exact h1)
/-- an expression's step behind the walk -/
theorem Lk.stp (l : Lk X W1 H1 H') (o1 : Ok K G W1 H1 B) (s : Stp W1 H' W2 H2) (o2 : Ok K G W2 H2 B2) : ∃ H3, Ulk X H2 H3 ∧ Ok K G W2 H3 B2 ∧ Stp W1 H1 W2 H3 ∧ (∀ p, W1.F p = none → H3 p = H2 p) ∧ ∀ p, H3 p = none ↔ H2 p = none := by
  have ok' := l.ok o1
  obtain ⟨H3, u, o3, at3, n3, fx3⟩ := l.un o1 (s.sle ok').fx s.le o2
  refine ⟨H3, u, o3, ⟨s.F, fun a h h2 => s.Fn a h fun z => h2 (l.non.mp z), s.w, fun a h h2 => s.wn a h fun z => h2 (l.non.mp z), s.m, s.x, fun a h z => s.th a (fun z' => h (l.non.mp z')) ((n3 a).mp z), fun a o w h => ?_⟩, at3, n3⟩
  cases q : W1.F a with
  | none => rw [at3 a q]; exact s.H a o w (by rw [l.at q]; exact h)
  | some u => exact fx3 a o (by rw [q]; exact fun z => nomatch z) h
end
def dKey : Key → D
  | .inl i => .int i
  | .inr x => .str x
def charsD (x : Str) : List D := x.cps.toList.map fun c => .str ⟨#[c]⟩
def gIts : D → Option (List D)
  | .lst xs => some xs
  | .tup xs => some xs
  | .dct ks => some (ks.map fun p => dKey p.1)
  | .str x => some (charsD x)
  | _ => none
def fIts (f : FE) : FI := fun ρ => mbind (f ρ) fun d => mlift (gIts d)
section
variable {G : GE} {Wx : WX} {X : Cx} {tg e a b c : Expr} {f fa fb fc g : FE} {ft fu : FT} {pos : Pos} {es : List Expr} {fs fr : FA}
theorem it_list {a : Addr} {ds : List D} {W : Wd} {H : Hp} (r : Rep X.K W (.lst ds) (.ref a)) : ItOk X.K G (Itl X.K a) ds W H := fun W' H' B' s o => by
  obtain ⟨p, xs, e, rd, rk⟩ := r.mono s.le
  cases e
  have hq : SqL X.K H' a xs := .inl (.inl (o.lst rd))
  refine ⟨fun i d hd => ?_, fun i hi => ⟨xs, hq, by rw [rk.len]; exact hi⟩⟩
  obtain ⟨v, hv, rv⟩ := rk.get hd
  exact ⟨⟨xs, v, hq, hv⟩, fun x H3 ⟨e, y⟩ => ⟨e, by have := y xs hq; rw [hv] at this; cases this; exact rv⟩⟩
theorem it_tup {a : Addr} {ds : List D} {W : Wd} {H : Hp} (r : Rep X.K W (.tup ds) (.ref a)) : ItOk X.K G (Itt X.K a) ds W H := fun W' H' B' s o => by
  obtain ⟨p, xs, e, rd, rk⟩ := r.mono s.le
  cases e
  have hq : SqT X.K H' a xs := o.sqt rd
  refine ⟨fun i d hd => ?_, fun i hi => ⟨xs, hq, by rw [rk.len]; exact hi⟩⟩
  obtain ⟨v, hv, rv⟩ := rk.get hd
  exact ⟨⟨xs, v, hq, hv⟩, fun x H3 ⟨e, y⟩ => ⟨e, by have := y xs hq; rw [hv] at this; cases this; exact rv⟩⟩
theorem kV_rep {K : PySem.W.Frag} {W : Wd} (k : Key) : Rep K W (dKey k) (kV k) := by
  cases k <;> rfl
theorem it_keys {d : Addr} {ks : List (Key × D)} {kvs : List (Key × V)} {o : Obj} {W : Wd} {H : Hp} (rk : RepK X.K W ks kvs) (hf : W.F d = some (.dK kvs) ∨ W.F d = some (.frz o (.dK kvs))) (hd : H d = some (.frz o (.dK kvs))) : ItOk X.K G (Itk d o kvs) (ks.map fun p => dKey p.1) W H := fun W' H' B' s ok => by
  have h' : H' d = some (.frz o (.dK kvs)) := s.fx d _ (by rcases hf with h | h <;> (rw [h]; exact fun z => nomatch z)) hd
  have hl : kvs.length = ks.length := rk.len
  refine ⟨fun i e he => ⟨⟨h', ?_⟩, fun x H3 ⟨e3, k, v, hk, ex⟩ => ⟨e3, ?_⟩⟩, fun i hi => ⟨h', ?_⟩⟩
  · obtain ⟨hi, _⟩ := List.getElem?_eq_some_iff.mp he
    rw [List.length_map] at hi; omega
  · subst ex
    have h1 : (kvs.map (·.1))[i]? = some k := by rw [List.getElem?_map, hk]; rfl
    rw [rk.keys] at h1
    have h2 : (ks.map fun p => dKey p.1) = (ks.map (·.1)).map dKey := by rw [List.map_map]; rfl
    rw [h2, List.getElem?_map, h1] at he
    cases he
    exact kV_rep k
  · rw [List.length_map] at hi; omega
theorem it_str {x : Str} {W : Wd} {H : Hp} : ItOk X.K G (Its x) (charsD x) W H := fun W' H' B' s ok => by
  refine ⟨fun i d hd => ?_, fun i hi => ?_⟩
  · unfold charsD at hd
    rw [List.getElem?_map] at hd
    cases q : x.cps.toList[i]? with
    | none => rw [q] at hd; cases hd
    | some c =>
      rw [q] at hd; cases hd
      have q' : x.cps[i]? = some c := by simpa using q
      refine ⟨(Array.getElem?_eq_some_iff.mp q').1, fun v H3 ⟨e, c', hc, ev⟩ => ⟨e, ?_⟩⟩
      rw [q'] at hc; cases hc
      exact ev
  · unfold charsD at hi
    rw [List.length_map, Array.length_toList] at hi
    exact hi
theorem piv_seq (h : PEv G Wx X e f) : PIv G Wx X tg e (fIts f) :=
  ⟨pi_weak (pi_or2 (pi_or2 (pi_list h.run) (pi_tup h.run)) (pi_or2 (pi_keysL h.run) (pi_str h.run))) fun σ H R ⟨ρ, B, W, o, s, out, e, q⟩ => by
    rcases mbind_some e with ⟨d1, B1, e1, e'⟩ | ⟨c, B1, e1, rfl⟩
    · obtain ⟨ds, hg, rfl⟩ := mlift_some e'
      unfold gIts at hg
      split at hg
      · cases hg
        refine .inl (.inl ⟨ρ, B, W, o, s, _, e1, fun W1 H1 v1 st1 o1 r1 => ?_⟩)
        obtain ⟨p, xs, rfl, rd, rk⟩ := id r1
        exact ⟨p, rfl, ⟨xs, .inl (.inl (o1.lst rd))⟩, q W1 H1 H1 _ st1 o1 (.inl rfl) (it_list r1)⟩
      · cases hg
        refine .inl (.inr ⟨ρ, B, W, o, s, _, e1, fun W1 H1 v1 st1 o1 r1 => ?_⟩)
        obtain ⟨p, xs, rfl, rd, rk⟩ := id r1
        exact ⟨p, rfl, ⟨xs, o1.sqt rd⟩, q W1 H1 H1 _ st1 o1 (.inl rfl) (it_tup r1)⟩
      · cases hg
        refine .inr (.inl ⟨ρ, B, W, o, s, _, e1, fun W1 H1 v1 st1 o1 r1 => ?_⟩)
        obtain ⟨p, kvs, rfl, rd, rk⟩ := id r1
        refine ⟨p, kvs, rfl, ?_⟩
        rcases o1.cov p _ rd with h1 | ⟨_, ob, _, h1⟩
        · refine .inl ⟨h1, fun ob nf => q W1 H1 _ _ st1 o1 (.inr ⟨p, kvs, ob, rd, h1, nf, rfl⟩) (it_keys rk (.inl rd) upd_same)⟩
        · exact .inr ⟨ob, h1, q W1 H1 _ _ st1 o1 (.inl rfl) (it_keys rk (.inl rd) h1)⟩
      · cases hg
        refine .inr (.inr ⟨ρ, B, W, o, s, _, e1, fun W1 H1 v1 st1 o1 r1 => ?_⟩)
        exact ⟨_, r1, q W1 H1 H1 _ st1 o1 (.inl rfl) it_str⟩
      · cases hg
    · exact .inl (.inl ⟨ρ, B, W, o, s, _, e1, q⟩)⟩
/-! ranges -/
def inR (i : Int) : Bool := cd (-(2 ^ 62) ≤ i ∧ i < 2 ^ 62)
def rngD (lo : Int) (n : Nat) : List D := (List.range n).map fun i => .int (lo + (i : Nat))
def gRng1 : List D → Option (List D)
  | [.int n] => if inR n then some (rngD 0 n.toNat) else none
  | _ => none
def gRng2 : List D → Option (List D)
  | [.int m, .int n] => if inR m && inR n then some (rngD m (n - m).toNat) else none
  | _ => none
def fFnI (g : List D → Option (List D)) (fa : FA) : FI := fun ρ => mbind (fa ρ) fun x => mlift (g x)
theorem it_rng {lo : Int} {n : Nat} {W : Wd} {H : Hp} : ItOk X.K G (Itr lo n) (rngD lo n) W H := fun W' H' B' s ok => by
  have hl : (rngD lo n).length = n := by unfold rngD; rw [List.length_map, List.length_range]
  refine ⟨fun i d hd => ?_, fun i hi => by rw [hl] at hi; exact hi⟩
  obtain ⟨hi, e⟩ := List.getElem?_eq_some_iff.mp hd
  rw [hl] at hi
  refine ⟨hi, fun x H3 ⟨e3, ex⟩ => ⟨e3, ?_⟩⟩
  unfold rngD at hd
  rw [List.getElem?_map, List.getElem?_range hi] at hd
  cases hd
  exact ex
theorem vws1 {K : PySem.W.Frag} {W : Wd} {H : Hp} {i : Int} {vs : List V} (r : Vws K W H [.int i] vs) : vs = [.int i] := by
  obtain ⟨v, q, e, a, b⟩ := r
  have b : q = [] := b
  have a : v = .int i := a
  subst e a b; rfl
theorem vws2 {K : PySem.W.Frag} {W : Wd} {H : Hp} {i j : Int} {vs : List V} (r : Vws K W H [.int i, .int j] vs) : vs = [.int i, .int j] := by
  obtain ⟨v, q, e, a, b⟩ := r
  have b := vws1 b
  have a : v = .int i := a
  subst e a b; rfl
theorem piv_range1 {p : Pos} (hm : X.mg "range" = none) (ha : PVAv G Wx X [a] fs) (hg : Gl X "range" := by rfl) (hs : starEach [a] X.env = [(false, eval a X.env)] := by rfl) : PIv G Wx X tg (.Call (.Name "range" p) [a] [] pos) (fFnI gRng1 fs) :=
  ⟨pi_weak (pi_range1 hg hm ha.run hs) fun σ H R ⟨ρ, B, W, o, s, out, e, q⟩ => by
    rcases mbind_some e with ⟨d1, B1, e1, e'⟩ | ⟨c, B1, e1, rfl⟩
    · refine ⟨ρ, B, W, o, s, _, e1, fun W1 H1 v1 st1 o1 r1 => ?_⟩
      obtain ⟨ds, hgd, rfl⟩ := mlift_some e'
      unfold gRng1 at hgd
      split at hgd
      · split at hgd
        · rename_i n hc
          cases hgd
          have hc : -(2 ^ 62) ≤ n ∧ n < 2 ^ 62 := cd_of hc
          exact ⟨n, vws1 r1, hc.1, hc.2, q W1 H1 H1 _ st1 o1 (.inl rfl) it_rng⟩
        · cases hgd
      · cases hgd
    · exact ⟨ρ, B, W, o, s, _, e1, q⟩⟩
theorem piv_range2 {p : Pos} (hm : X.mg "range" = none) (ha : PVAv G Wx X [a, b] fs) (hg : Gl X "range" := by rfl) (hs : starEach [a, b] X.env = [(false, eval a X.env), (false, eval b X.env)] := by rfl) (hs2 : starEach [b] X.env = [(false, eval b X.env)] := by rfl) : PIv G Wx X tg (.Call (.Name "range" p) [a, b] [] pos) (fFnI gRng2 fs) :=
  ⟨pi_weak (pi_range2 hg hm ha.run hs hs2) fun σ H R ⟨ρ, B, W, o, s, out, e, q⟩ => by
    rcases mbind_some e with ⟨d1, B1, e1, e'⟩ | ⟨c, B1, e1, rfl⟩
    · refine ⟨ρ, B, W, o, s, _, e1, fun W1 H1 v1 st1 o1 r1 => ?_⟩
      obtain ⟨ds, hgd, rfl⟩ := mlift_some e'
      unfold gRng2 at hgd
      split at hgd
      · split at hgd
        · rename_i m n hc
          cases hgd
          rw [Bool.and_eq_true] at hc
          have h1 : -(2 ^ 62) ≤ m ∧ m < 2 ^ 62 := cd_of hc.1
          have h2 : -(2 ^ 62) ≤ n ∧ n < 2 ^ 62 := cd_of hc.2
          exact ⟨m, n, vws2 r1, ⟨h1.1, h1.2, h2.1, h2.2⟩, q W1 H1 H1 _ st1 o1 (.inl rfl) it_rng⟩
        · cases hgd
      · cases hgd
    · exact ⟨ρ, B, W, o, s, _, e1, q⟩⟩
end
end Fmx

namespace Fmx
open PySem PySem.Spec PyProof.Rows L2

abbrev W0 : WX := fun _ _ _ _ => False
def noex {α : Type} (m : M α) : M α := fun B => match m B with
  | some (.ok a, B') => some (.ok a, B')
  | _ => none
theorem noex_some {α : Type} {m : M α} {B : Bk} {o : Res α × Bk} (h : noex m B = some o) : ∃ a B', m B = some (.ok a, B') ∧ o = (.ok a, B') := by
  unfold noex at h
  split at h
  · rename_i a B' e; cases h; exact ⟨a, B', e, rfl⟩
  · cases h
def put (ρ : Rho) (j : Nat) (d : D) : Rho := ρ.set j (some ⟨.shr, d⟩)
def lcGo (j : Nat) (ft : FT) (fe : FE) (ρ : Rho) : List D → List D → M D
  | [], acc => mret (.lst acc)
  | d :: r, acc => mbind (noex (ft (put ρ j d))) fun b => if b then mbind (noex (fe (put ρ j d))) fun y => lcGo j ft fe ρ r (acc ++ [y]) else lcGo j ft fe ρ r acc
def few {α : Type} (xs : List D) (m : M α) : M α := if xs.length ≤ 1000000 then m else fun _ => none
def fLc (j : Nat) (fi : FI) (ft : FT) (fe : FE) : FE := fun ρ => mbind (fi ρ) fun items => few items (lcGo j ft fe ρ items [])
def dcGo (j : Nat) (ft : FT) (fk fv : FE) (ρ : Rho) : List D → List (Key × D) → M D
  | [], acc => mret (.dct acc)
  | d :: r, acc => mbind (noex (ft (put ρ j d))) fun b => if b then mbind (noex (fk (put ρ j d))) fun k => mbind (noex (fv (put ρ j d))) fun v => mbind (mlift (keyOf k)) fun k => dcGo j ft fk fv ρ r (kput acc k v) else dcGo j ft fk fv ρ r acc
def fDc (j : Nat) (fi : FI) (ft : FT) (fk fv : FE) : FE := fun ρ => mbind (fi ρ) fun items => few items (dcGo j ft fk fv ρ items [])
def fYes : FT := fun _ => mret true
theorem few_some {α : Type} {xs : List D} {m : M α} {B : Bk} {o : Res α × Bk} (h : few xs m B = some o) : xs.length ≤ 1000000 ∧ m B = some o := by
  unfold few at h
  split at h
  · rename_i hl; exact ⟨hl, h⟩
  · cases h
theorem lcGo_ok {j : Nat} {ft : FT} {fe : FE} {ρ : Rho} : ∀ {items acc : List D} {B : Bk} {o : Res D × Bk}, lcGo j ft fe ρ items acc B = some o → ∃ xs B', o = (.ok (.lst xs), B')
  | [], acc, B, o, h => by cases h; exact ⟨acc, B, rfl⟩
  | d :: r, acc, B, o, h => by
    unfold lcGo at h
    rcases mbind_some h with ⟨b, B1, e1, e'⟩ | ⟨c, B1, e1, rfl⟩
    · cases b with
      | false => exact lcGo_ok (items := r) e'
      | true =>
        rcases mbind_some e' with ⟨y, B2, e2, e3⟩ | ⟨c, B2, e2, rfl⟩
        · exact lcGo_ok (items := r) e3
        · obtain ⟨_, _, _, z⟩ := noex_some e2; cases z
    · obtain ⟨_, _, _, z⟩ := noex_some e1; cases z
section
variable {K : PySem.W.Frag} {G : GE} {W W1 W2 : Wd} {H H1 H2 : Hp} {B : Bk} {σ : L2.St} {ρ : Rho}
theorem Slots.put {d : D} {v : V} (s : Slots K W H σ ρ) (r : Rep K W d v) (j : Nat) : Slots K W H (σ.set j (some v)) (put ρ j d) := by
  unfold Fmx.put
  refine ⟨by rw [List.length_set, List.length_set]; exact s.len, fun i q h => ?_, fun i k q q' x h1 h2 t1 t2 e1 e2 => ?_⟩
  · by_cases e : j = i
    · subst e
      by_cases hl : j < ρ.length
      · rw [List.getElem?_set_self hl] at h; cases h
        exact ⟨v, by rw [List.getElem?_set_self (by rw [s.len]; exact hl)], r⟩
      · rw [List.getElem?_eq_none (by rw [List.length_set]; omega)] at h; cases h
    · rw [List.getElem?_set_ne e] at h ⊢; exact s.ok i q h
  · by_cases a1 : j = i
    · subst a1
      by_cases hl : j < ρ.length
      · rw [List.getElem?_set_self hl] at h1; cases h1; cases t1
      · rw [List.getElem?_eq_none (by rw [List.length_set]; omega)] at h1; cases h1
    · by_cases a2 : j = k
      · subst a2
        by_cases hl : j < ρ.length
        · rw [List.getElem?_set_self hl] at h2; cases h2; cases t2
        · rw [List.getElem?_eq_none (by rw [List.length_set]; omega)] at h2; cases h2
      · rw [List.getElem?_set_ne a1] at h1 e1
        rw [List.getElem?_set_ne a2] at h2 e2
        exact s.inj i k q q' x h1 h2 t1 t2 e1 e2
/-- a thing of nobody's changes -/
theorem Ok.poke {p : Addr} {u : HO} (o : Ok K G W H B) (hF : W.F p = none) (hw : W.w p = none) (hp : H p ≠ none) : Ok K G W (upd H p u) B where
  cov := fun a x h => by
    rw [upd_ne (fun e => by subst e; rw [hF] at h; cases h)]; exact o.cov a x h
  wf := fun a k h => by
    rw [upd_ne (fun e => by subst e; rw [hw] at h; cases h)]; exact o.wf a k h
  len := o.len
  ob := fun k x h => by
    obtain ⟨a, e, q⟩ := o.ob k x h
    refine ⟨a, e, q.mono ⟨fun _ _ h => h, fun _ _ h => h, fun _ h => h⟩ (fun _ h => h) fun b y w h2 => ?_⟩
    rw [upd_ne (fun e => by subst e; rw [hw] at w; cases w)]; exact h2
theorem Stp.poke {p : Addr} {u : HO} (s : Stp W H W1 H1) (h0 : H p = none) : Stp W H W1 (upd H1 p u) :=
  ⟨s.F, s.Fn, s.w, s.wn, s.m, s.x, fun a h => by
    by_cases e : a = p
    · subst e; exact absurd h0 h
    · rw [upd_ne e]; exact s.th a h, fun a o w h => by rw [upd_ne (fun e => by subst e; rw [h0] at h; cases h)]; exact s.H a o w h⟩
theorem wipe_one (σ : L2.St) (j : Nat) (x : Option V) : (wipe σ [j]).set j x = σ.set j x := by
  unfold wipe wipe
  exact List.set_set ..
theorem wipe_put (σ : L2.St) (j : Nat) (x : Option V) : wipe (σ.set j x) [j] = wipe σ [j] := by
  unfold wipe wipe
  exact List.set_set ..
end
structure PTsv (G : GE) (Wx : WX) (X : Cx) (e : List Expr) (f : FT) : Prop where run : PTs X e (RdT X.K G Wx f)
section
variable {G : GE} {Wx : WX} {X : Cx} {tg iter elt kx vx e a b c : Expr} {f fa fb fc g fe fk fv : FE} {fi : FI} {ft fu : FT} {pos px : Pos} {es ifs : List Expr} {fs fr : FA} {scope : Scope} {x : Str} {j : Nat}
theorem ptsv_nil : PTsv G Wx X [] fYes := ⟨⟨fun pins s σ H Q I ⟨ρ, B, W, o, sl, out, e, q⟩ => by cases e; exact pts_nil.run pins s σ H Q I (q W H (.refl W H) o)⟩⟩
theorem ptsv_one (h : PTv G Wx X e ft) : PTsv G Wx X [e] ft := ⟨pts_one h.run⟩
theorem lc_rd (hX : True) {σ : L2.St} {H : Hp} {Q : VK} {ρ : Rho} {B : Bk} {W : Wd} {out : Res D × Bk} (o : Ok X.K G W H B) (s : Slots X.K W H σ ρ) (e : fLc j fi ft fe ρ B = some out)
    (q : match out with
      | (.ok d, B') => ∀ W' H' p, Stp W H W' H' → Ok X.K G W' H' B' → H p = none → W'.F p = none → W'.w p = none → CellOk X.K W' H' p d → Q (.ref p) H'
      | (.ex c, B') => ∀ W' H', Stp W H W' H' → Ok X.K G W' H' B' → Wx (G.ca c) none σ H') :
    tLc (RdI X G Wx fi) (gName j) (RdT X.K G W0 ft) (RdE X.K G W0 fe) [j] σ H (fun v H' => ∃ H'', Ulk X H' H'' ∧ Q v H'') := by
  rcases mbind_some e with ⟨items, B1, e1, e'⟩ | ⟨c, B1, e1, rfl⟩
  · obtain ⟨hlen, e'⟩ := few_some e'
    obtain ⟨xs, B9, rfl⟩ := lcGo_ok e'
    refine ⟨ρ, B, W, o, s, _, e1, fun W1 H1 H1' J st1 o1 lk it => fun Dp hD => ?_⟩
    have o1' := lk.ok o1
    have s1' : Slots X.K W1 H1' σ ρ := (s.step st1).lk lk
    have hsz : sizeLine = 16777216 := sizeLine_eq
    refine ⟨fun i m H2 => m = items.length - i ∧ i ≤ items.length ∧ ∃ W2 B2 acc accv, Ok X.K G W2 H2 B2 ∧ Stp W1 H1' W2 H2 ∧ W2.F Dp = none ∧ W2.w Dp = none ∧ H2 Dp = some (.lst accv) ∧ Reps X.K W2 acc accv ∧ acc.length ≤ i ∧ lcGo j ft fe ρ (items.drop i) acc B2 = some (.ok (.lst xs), B9),
      ⟨items.length, rfl, Nat.zero_le _, W1, B1, [], [], ?_, ?_, o1'.fn hD, o1'.wn hD, upd_same, rfl, Nat.zero_le _, e'⟩, ?_⟩
    · exact (laid_q (d := .lst []) o1' hD ⟨[], upd_same, rfl⟩).2.1
    · exact (laid_q (d := .lst []) o1' hD ⟨[], upd_same, rfl⟩).1
    · rintro i m H2 ⟨rfl, hi, W2, B2, acc, accv, o2, st2, f2, w2, hd2, r2, ha, go⟩
      have itn := it W2 H2 B2 (st2.sle o1') o2
      by_cases hlt : i < items.length
      · obtain ⟨d, hd⟩ : ∃ d, items[i]? = some d := ⟨items[i], List.getElem?_eq_getElem hlt⟩
        have hdr : items.drop i = d :: items.drop (i + 1) := by
          rw [List.drop_eq_getElem_cons hlt]
          rw [List.getElem?_eq_getElem hlt] at hd
          cases hd; rfl
        rw [hdr] at go
        obtain ⟨jgo, jy⟩ := itn.1 i d hd
        refine .inr ⟨jgo, fun H' => items.length - (i + 1) < items.length - i ∧ i + 1 ≤ items.length ∧ ∃ W2 B2 acc accv, Ok X.K G W2 H' B2 ∧ Stp W1 H1' W2 H' ∧ W2.F Dp = none ∧ W2.w Dp = none ∧ H' Dp = some (.lst accv) ∧ Reps X.K W2 acc accv ∧ acc.length ≤ i + 1 ∧ lcGo j ft fe ρ (items.drop (i + 1)) acc B2 = some (.ok (.lst xs), B9),
          fun H' ⟨l, h⟩ => ⟨_, l, rfl, h⟩, fun x H3 y => ?_⟩
        obtain ⟨rfl, rx⟩ := jy x H3 y
        show wipe ((wipe σ [j]).set j (some x)) [j] = wipe σ [j] ∧ RdT X.K G W0 ft ((wipe σ [j]).set j (some x)) H3 _
        rw [wipe_one, wipe_put]
        refine ⟨rfl, ?_⟩
        have sl : Slots X.K W2 H3 (σ.set j (some x)) (put ρ j d) := (s1'.step st2).put rx j
        unfold lcGo at go
        rcases mbind_some go with ⟨b, B3, g1, g2⟩ | ⟨c, B3, g1, h⟩
        · obtain ⟨b', B4, g3, h⟩ := noex_some g1
          cases h
          refine ⟨put ρ j d, B2, W2, o2, sl, _, g3, fun W3 H4 st3 o3 => ?_⟩
          have keep : ∀ {W3 H4}, Stp W2 H3 W3 H4 → W3.F Dp = none ∧ W3.w Dp = none ∧ H4 Dp = some (.lst accv) := fun {W3 H4} st3 =>
            ⟨st3.Fn Dp f2 (by rw [hd2]; exact fun z => nomatch z), st3.wn Dp w2 (by rw [hd2]; exact fun z => nomatch z), st3.H Dp _ w2 hd2⟩
          cases b with
          | false =>
            obtain ⟨k1, k2, k3⟩ := keep st3
            exact iteF ⟨by omega, hlt, W3, _, acc, accv, o3, st2.tr st3, k1, k2, k3, r2.mono st3.le, by omega, g2⟩
          | true =>
            refine iteT ?_
            rcases mbind_some g2 with ⟨y', B5, g4, g5⟩ | ⟨c, B5, g4, h⟩
            · obtain ⟨y'', B6, g6, h⟩ := noex_some g4
              cases h
              refine ⟨put ρ j d, _, W3, o3, sl.step st3, _, g6, fun W4 H5 v4 st4 o4 r4 => ?_⟩
              obtain ⟨k1, k2, k3⟩ := keep (st3.tr st4)
              refine ⟨accv, k3, by rw [r2.len]; omega, by omega, hlt, W4, _, acc ++ [y'], accv ++ [v4], o4.poke k1 k2 (by rw [k3]; exact fun z => nomatch z), ((st2.tr st3).tr st4).poke hD, k1, k2, upd_same, ((r2.mono (st3.tr st4).le)).append ⟨v4, [], rfl, r4, rfl⟩, by rw [List.length_append]; simp; omega, g5⟩
            · obtain ⟨_, _, _, z⟩ := noex_some g4; cases z
        · obtain ⟨_, _, _, z⟩ := noex_some g1; cases z
      · have ei : i = items.length := by omega
        subst ei
        refine .inl ⟨itn.2 _ (Nat.le_refl _), ?_⟩
        rw [List.drop_length] at go
        cases go
        obtain ⟨H3, u, o3, st3, at3, n3⟩ := lk.stp o1 st2 o2
        have hp : H3 Dp = some (.lst accv) := by rw [at3 Dp (o1'.fn hD)]; exact hd2
        exact ⟨H3, u, q W2 H3 Dp (st1.tr st3) o3 (st1.fr (lk.non.mp hD)) f2 w2 ⟨accv, hp, r2⟩⟩
  · exact ⟨ρ, B, W, o, s, _, e1, q⟩
theorem pfv_lc (hc : X.calm = true) (hN : X.N.Nodup) (hi : PIv G Wx X (.Name x px) iter fi) (ok : BlkOk X.N X.env.scope scope [(x, j)])
    (hg : ∀ (s : Shared) (H : Hp) (C : Addr) (cl : List (Str × Addr)) (fp : List Addr), PG (X.blk s H scope (compEnvC scope cl C X.env) fp) (.Name x px) (gName j)) (ht : ∀ (s : Shared) (H : Hp) (C : Addr) (cl : List (Str × Addr)) (fp : List Addr), PTsv G W0 (X.blk s H scope (compEnvC scope cl C X.env) fp) ifs ft)
    (he : ∀ (s : Shared) (H : Hp) (C : Addr) (cl : List (Str × Addr)) (fp : List Addr), PEv G W0 (X.blk s H scope (compEnvC scope cl C X.env) fp) elt fe) (hs : ∀ x, foldedSetIterable iter X.env x = pure x := by intro _; rfl) :
    PFv G Wx X (.ListComp elt [⟨.Name x px, iter, ifs, 0⟩] scope pos) (fLc j fi ft fe) :=
  ⟨pe_weak (pe_unl (pe_lc (own := [(x, j)]) hc hN hi.run ok hg (fun s H C cl fp => (ht s H C cl fp).run) (fun s H C cl fp => (he s H C cl fp).run) hs)) fun σ H Q ⟨ρ, B, W, o, s, out, e, q⟩ => by
    obtain ⟨out, B'⟩ := out
    cases out with
    | ok d => exact lc_rd trivial o s e q
    | ex c => exact lc_rd trivial o s e q⟩
theorem dcGo_ok {ρ : Rho} : ∀ {items : List D} {acc : List (Key × D)} {B : Bk} {o : Res D × Bk}, dcGo j ft fk fv ρ items acc B = some o → ∃ xs B', o = (.ok (.dct xs), B')
  | [], acc, B, o, h => by cases h; exact ⟨acc, B, rfl⟩
  | d :: r, acc, B, o, h => by
    unfold dcGo at h
    rcases mbind_some h with ⟨b, B1, e1, e'⟩ | ⟨c, B1, e1, rfl⟩
    · cases b with
      | false => exact dcGo_ok (items := r) e'
      | true =>
        rcases mbind_some e' with ⟨y, B2, e2, e3⟩ | ⟨c, B2, e2, rfl⟩
        · rcases mbind_some e3 with ⟨y, B3, e4, e5⟩ | ⟨c, B3, e4, rfl⟩
          · rcases mbind_some e5 with ⟨y, B4, e6, e7⟩ | ⟨c, B4, e6, rfl⟩
            · exact dcGo_ok (items := r) e7
            · obtain ⟨_, _, z⟩ := mlift_some e6; cases z
          · obtain ⟨_, _, _, z⟩ := noex_some e4; cases z
        · obtain ⟨_, _, _, z⟩ := noex_some e2; cases z
    · obtain ⟨_, _, _, z⟩ := noex_some e1; cases z
theorem putK_keys (kvs : List (Key × V)) (k : Key) (v : V) (nd : (kvs.map (·.1)).Nodup) : ((putK kvs k v).map (·.1)).Nodup := by
  cases h : valV kvs k with
  | none => exact nd_putK v nd h
  | some y =>
    have e : (putK kvs k v).map (·.1) = kvs.map (·.1) := by
      unfold putK
      rw [if_pos (by rw [valV_any, h]; rfl), List.map_map]
      refine List.map_congr_left fun p _ => ?_
      show (if p.1 = k then (p.1, v) else p).1 = p.1
      split <;> rfl
    rw [e]; exact nd
theorem dc_rd {σ : L2.St} {H : Hp} {Q : VK} {ρ : Rho} {B : Bk} {W : Wd} {out : Res D × Bk} (o : Ok X.K G W H B) (s : Slots X.K W H σ ρ) (e : fDc j fi ft fk fv ρ B = some out)
    (q : match out with
      | (.ok d, B') => ∀ W' H' p, Stp W H W' H' → Ok X.K G W' H' B' → H p = none → W'.F p = none → W'.w p = none → CellOk X.K W' H' p d → Q (.ref p) H'
      | (.ex c, B') => ∀ W' H', Stp W H W' H' → Ok X.K G W' H' B' → Wx (G.ca c) none σ H') :
    tDc (RdI X G Wx fi) (gName j) (RdT X.K G W0 ft) (RdE X.K G W0 fk) (RdE X.K G W0 fv) [j] σ H (fun v H' => ∃ H'', Ulk X H' H'' ∧ Q v H'') := by
  rcases mbind_some e with ⟨items, B1, e1, e'⟩ | ⟨c, B1, e1, rfl⟩
  · obtain ⟨hlen, e'⟩ := few_some e'
    obtain ⟨xs, B9, rfl⟩ := dcGo_ok e'
    refine ⟨ρ, B, W, o, s, _, e1, fun W1 H1 H1' J st1 o1 lk it => fun Dp hD => ?_⟩
    have o1' := lk.ok o1
    have s1' : Slots X.K W1 H1' σ ρ := (s.step st1).lk lk
    have hsz : sizeLine = 16777216 := sizeLine_eq
    refine ⟨fun i m H2 => m = items.length - i ∧ i ≤ items.length ∧ ∃ W2 B2 acc accv, Ok X.K G W2 H2 B2 ∧ Stp W1 H1' W2 H2 ∧ W2.F Dp = none ∧ W2.w Dp = none ∧ H2 Dp = some (.dK accv) ∧ RepK X.K W2 acc accv ∧ (accv.map (·.1)).Nodup ∧ acc.length ≤ i ∧ dcGo j ft fk fv ρ (items.drop i) acc B2 = some (.ok (.dct xs), B9),
      ⟨items.length, rfl, Nat.zero_le _, W1, B1, [], [], ?_, ?_, o1'.fn hD, o1'.wn hD, upd_same, rfl, List.nodup_nil, Nat.zero_le _, e'⟩, ?_⟩
    · exact (laid_q (d := .dct []) o1' hD ⟨[], upd_same, rfl⟩).2.1
    · exact (laid_q (d := .dct []) o1' hD ⟨[], upd_same, rfl⟩).1
    · rintro i m H2 ⟨rfl, hi, W2, B2, acc, accv, o2, st2, f2, w2, hd2, r2, nd2, ha, go⟩
      have itn := it W2 H2 B2 (st2.sle o1') o2
      by_cases hlt : i < items.length
      · obtain ⟨d, hd⟩ : ∃ d, items[i]? = some d := ⟨items[i], List.getElem?_eq_getElem hlt⟩
        have hdr : items.drop i = d :: items.drop (i + 1) := by
          rw [List.drop_eq_getElem_cons hlt]
          rw [List.getElem?_eq_getElem hlt] at hd
          cases hd; rfl
        rw [hdr] at go
        obtain ⟨jgo, jy⟩ := itn.1 i d hd
        refine .inr ⟨jgo, fun H' => items.length - (i + 1) < items.length - i ∧ i + 1 ≤ items.length ∧ ∃ W2 B2 acc accv, Ok X.K G W2 H' B2 ∧ Stp W1 H1' W2 H' ∧ W2.F Dp = none ∧ W2.w Dp = none ∧ H' Dp = some (.dK accv) ∧ RepK X.K W2 acc accv ∧ (accv.map (·.1)).Nodup ∧ acc.length ≤ i + 1 ∧ dcGo j ft fk fv ρ (items.drop (i + 1)) acc B2 = some (.ok (.dct xs), B9),
          fun H' ⟨l, h⟩ => ⟨_, l, rfl, h⟩, fun x H3 y => ?_⟩
        obtain ⟨rfl, rx⟩ := jy x H3 y
        show wipe ((wipe σ [j]).set j (some x)) [j] = wipe σ [j] ∧ RdT X.K G W0 ft ((wipe σ [j]).set j (some x)) H3 _
        rw [wipe_one, wipe_put]
        refine ⟨rfl, ?_⟩
        have sl : Slots X.K W2 H3 (σ.set j (some x)) (put ρ j d) := (s1'.step st2).put rx j
        unfold dcGo at go
        rcases mbind_some go with ⟨b, B3, g1, g2⟩ | ⟨c, B3, g1, h⟩
        · obtain ⟨b', B4, g3, h⟩ := noex_some g1
          cases h
          refine ⟨put ρ j d, B2, W2, o2, sl, _, g3, fun W3 H4 st3 o3 => ?_⟩
          have keep : ∀ {W3 H4}, Stp W2 H3 W3 H4 → W3.F Dp = none ∧ W3.w Dp = none ∧ H4 Dp = some (.dK accv) := fun {W3 H4} st3 =>
            ⟨st3.Fn Dp f2 (by rw [hd2]; exact fun z => nomatch z), st3.wn Dp w2 (by rw [hd2]; exact fun z => nomatch z), st3.H Dp _ w2 hd2⟩
          cases b with
          | false =>
            obtain ⟨k1, k2, k3⟩ := keep st3
            exact iteF ⟨by omega, hlt, W3, _, acc, accv, o3, st2.tr st3, k1, k2, k3, r2.mono st3.le, nd2, by omega, g2⟩
          | true =>
            refine iteT ?_
            rcases mbind_some g2 with ⟨yk, B5, g4, g5⟩ | ⟨c, B5, g4, h⟩
            · obtain ⟨yk', B6, g6, h⟩ := noex_some g4
              cases h
              rcases mbind_some g5 with ⟨yv, B7, g7, g8⟩ | ⟨c, B7, g7, h⟩
              · obtain ⟨yv', B8, g9, h⟩ := noex_some g7
                cases h
                rcases mbind_some g8 with ⟨kk, B10, g10, g11⟩ | ⟨c, B10, g10, h⟩
                · obtain ⟨kk', hk, h⟩ := mlift_some g10
                  cases h
                  refine ⟨put ρ j d, _, W3, o3, sl.step st3, _, g6, fun W4 H5 v4 st4 o4 r4 => ?_⟩
                  refine ⟨put ρ j d, _, W4, o4, sl.step (st3.tr st4), _, g9, fun W5 H6 v5 st5 o5 r5 => ?_⟩
                  obtain ⟨k1, k2, k3⟩ := keep ((st3.tr st4).tr st5)
                  refine ⟨accv, kk, keyOf_rep hk r4, k3, by rw [r2.len]; omega, by omega, hlt, W5, _, kput acc kk yv, _, o5.poke k1 k2 (by rw [k3]; exact fun z => nomatch z), ((st2.tr st3).tr (st4.tr st5)).poke hD, k1, k2, upd_same, RepK.put r5 (r2.mono ((st3.tr st4).tr st5).le), putK_keys _ _ _ nd2, by have := kput_len acc kk yv; omega, g11⟩
                · obtain ⟨_, _, z⟩ := mlift_some g10; cases z
              · obtain ⟨_, _, _, z⟩ := noex_some g7; cases z
            · obtain ⟨_, _, _, z⟩ := noex_some g4; cases z
        · obtain ⟨_, _, _, z⟩ := noex_some g1; cases z
      · have ei : i = items.length := by omega
        subst ei
        refine .inl ⟨itn.2 _ (Nat.le_refl _), ?_⟩
        rw [List.drop_length] at go
        cases go
        obtain ⟨H3, u, o3, st3, at3, n3⟩ := lk.stp o1 st2 o2
        have hp : H3 Dp = some (.dK accv) := by rw [at3 Dp (o1'.fn hD)]; exact hd2
        exact ⟨H3, u, q W2 H3 Dp (st1.tr st3) o3 (st1.fr (lk.non.mp hD)) f2 w2 ⟨accv, hp, r2⟩⟩
  · exact ⟨ρ, B, W, o, s, _, e1, q⟩
theorem pfv_dc (hc : X.calm = true) (hN : X.N.Nodup) (hi : PIv G Wx X (.Name x px) iter fi) (ok : BlkOk X.N X.env.scope scope [(x, j)])
    (hg : ∀ (s : Shared) (H : Hp) (C : Addr) (cl : List (Str × Addr)) (fp : List Addr), PG (X.blk s H scope (compEnvC scope cl C X.env) fp) (.Name x px) (gName j)) (ht : ∀ (s : Shared) (H : Hp) (C : Addr) (cl : List (Str × Addr)) (fp : List Addr), PTsv G W0 (X.blk s H scope (compEnvC scope cl C X.env) fp) ifs ft)
    (hk : ∀ (s : Shared) (H : Hp) (C : Addr) (cl : List (Str × Addr)) (fp : List Addr), PEv G W0 (X.blk s H scope (compEnvC scope cl C X.env) fp) kx fk)
    (he : ∀ (s : Shared) (H : Hp) (C : Addr) (cl : List (Str × Addr)) (fp : List Addr), PEv G W0 (X.blk s H scope (compEnvC scope cl C X.env) fp) vx fv) (hs : ∀ x, foldedSetIterable iter X.env x = pure x := by intro _; rfl) :
    PFv G Wx X (.DictComp kx vx [⟨.Name x px, iter, ifs, 0⟩] scope pos) (fDc j fi ft fk fv) :=
  ⟨pe_weak (pe_unl (pe_dc (own := [(x, j)]) hc hN hi.run ok hg (fun s H C cl fp => (ht s H C cl fp).run) (fun s H C cl fp => (hk s H C cl fp).run) (fun s H C cl fp => (he s H C cl fp).run) hs)) fun σ H Q ⟨ρ, B, W, o, s, out, e, q⟩ => by
    obtain ⟨out, B'⟩ := out
    cases out with
    | ok d => exact dc_rd o s e q
    | ex c => exact dc_rd o s e q⟩
end
end Fmx

namespace Fmx
open PySem PySem.Spec PyProof.Rows L2

section
variable {K : PySem.W.Frag} {G : GE} {WA : Wd} {HA : Hp} {L : List Addr} {W W1 W2 : Wd} {H H1 H2 : Hp} {B B1 : Bk} {σ : L2.St} {ρ : Rho}
theorem SOk.step (s : SOk K G WA HA L W H σ ρ B) (t : Stp W H W1 H1) (o : Ok K G W1 H1 B1) : SOk K G WA HA L W1 H1 σ ρ B1 := ⟨o, s.sl.step t, s.st.tr t, s.nw, s.bw⟩
theorem SOk.put {d : D} {v : V} (s : SOk K G WA HA L W H σ ρ B) (r : Rep K W d v) (j : Nat) : SOk K G WA HA L W H (σ.set j (some v)) (put ρ j d) B := by
  refine ⟨s.ok, s.sl.put r j, s.st, fun i q x h1 t e => ?_, fun i q x h1 t e => ?_⟩
  all_goals
    unfold Fmx.put at h1
    by_cases a1 : j = i
    · subst a1
      by_cases hl : j < ρ.length
      · rw [List.getElem?_set_self hl] at h1; cases h1; cases t
      · rw [List.getElem?_eq_none (by rw [List.length_set]; omega)] at h1; cases h1
    · rw [List.getElem?_set_ne a1] at h1 e
      first | exact s.nw i q x h1 t e | exact s.bw i q x h1 t e
def putO (ρ : Rho) (j : Nat) (d : D) : Rho := ρ.set j (some ⟨.own, d⟩)
theorem SlotOk.ref {v : V} {r : R} (s : SlotOk K W H v r) (t : r.tag.mine = true) : ∃ p, v = .ref p ∧ W.F p = none ∧ W.w p = none ∧ H p ≠ none := by
  obtain ⟨t', d⟩ := r
  cases t' with
  | shr => cases t
  | brw => cases t
  | own => obtain ⟨p, e, f, w, c⟩ := s; exact ⟨p, e, f, w, c.there⟩
  | lck => obtain ⟨p, e, f, w, _, _, _, _, c, _⟩ := s; exact ⟨p, e, f, w, by rw [c]; exact fun z => nomatch z⟩
/-- a new thing of the slot's own -/
theorem SOk.own {d : D} {p : Addr} {Hb : Hp} {Wb : Wd} {Bb : Bk} (s0 : SOk K G WA HA L Wb Hb σ ρ Bb) (t : Stp Wb Hb W H) (o : Ok K G W H B) (h0 : Hb p = none) (hF : W.F p = none) (hw : W.w p = none) (c : CellOk K W H p d) (j : Nat) :
    SOk K G WA HA L W H (σ.set j (some (.ref p))) (putO ρ j d) B := by
  have s := s0.step t o
  have new : ∀ (i : Nat) (q : R) (v : V), ρ[i]? = some (some q) → q.tag.mine = true → σ[i]? = some (some v) → v ≠ .ref p := fun i q v h1 t1 e1 z => by
    obtain ⟨v', e', k⟩ := s0.sl.ok i q h1
    rw [e1] at e'; cases e'
    obtain ⟨p', e, _, _, th⟩ := k.ref t1
    rw [z] at e; cases e
    exact th h0
  have set_eq : ∀ {i : Nat} {q : R}, (putO ρ j d)[i]? = some (some q) → (j = i ∧ j < ρ.length ∧ q = ⟨.own, d⟩) ∨ (j ≠ i ∧ ρ[i]? = some (some q)) := fun {i q} h => by
    unfold putO at h
    by_cases a1 : j = i
    · subst a1
      by_cases hl : j < ρ.length
      · rw [List.getElem?_set_self hl] at h; cases h; exact .inl ⟨rfl, hl, rfl⟩
      · rw [List.getElem?_eq_none (by rw [List.length_set]; omega)] at h; cases h
    · rw [List.getElem?_set_ne a1] at h; exact .inr ⟨a1, h⟩
  have sg : j < ρ.length → (σ.set j (some (V.ref p)))[j]? = some (some (.ref p)) := fun hl => List.getElem?_set_self (by rw [s.sl.len]; exact hl)
  refine ⟨o, ⟨by unfold putO; rw [List.length_set, List.length_set]; exact s.sl.len, fun i q h => ?_, fun i k q q' x h1 h2 t1 t2 e1 e2 => ?_⟩, s.st, fun i q x h1 t1 e1 => ?_, fun i q x h1 t1 e1 => ?_⟩
  · rcases set_eq h with ⟨rfl, hl, rfl⟩ | ⟨ne, h⟩
    · exact ⟨_, sg hl, p, rfl, hF, hw, c⟩
    · rw [List.getElem?_set_ne ne]; exact s.sl.ok i q h
  · rcases set_eq h1 with ⟨rfl, hl, rfl⟩ | ⟨n1, h1⟩
    · rw [sg hl] at e1; cases e1
      rcases set_eq h2 with ⟨rfl, _, _⟩ | ⟨n2, h2⟩
      · rfl
      · rw [List.getElem?_set_ne n2] at e2
        exact absurd rfl (new _ _ _ h2 t2 e2)
    · rw [List.getElem?_set_ne n1] at e1
      rcases set_eq h2 with ⟨rfl, hl, rfl⟩ | ⟨n2, h2⟩
      · rw [sg hl] at e2; cases e2
        exact absurd rfl (new _ _ _ h1 t1 e1)
      · rw [List.getElem?_set_ne n2] at e2
        exact s.sl.inj i k q q' x h1 h2 t1 t2 e1 e2
  · rcases set_eq h1 with ⟨rfl, hl, rfl⟩ | ⟨n1, h1⟩
    · rw [sg hl] at e1; cases e1
      exact ⟨p, rfl, s0.st.fr h0⟩
    · rw [List.getElem?_set_ne n1] at e1
      exact s.nw i q x h1 t1 e1
  · rcases set_eq h1 with ⟨rfl, hl, rfl⟩ | ⟨n1, h1⟩
    · cases t1
    · rw [List.getElem?_set_ne n1] at e1
      exact s.bw i q x h1 t1 e1
/-- the slot's own thing changes -/
theorem SOk.mut {d d' : D} {j : Nat} {u : HO} (s : SOk K G WA HA L W H σ ρ B) (hj : ρ[j]? = some (some ⟨.own, d⟩)) {p : Addr} (hp : σ[j]? = some (some (.ref p))) (c : CellOk K W (upd H p u) p d') :
    SOk K G WA HA L W (upd H p u) σ (putO ρ j d') B ∧ SLe W H W (upd H p u) := by
  obtain ⟨v, ev, p', e, hF, hw, c0⟩ := s.sl.ok j _ hj
  rw [hp] at ev; cases ev; cases e
  have th := c0.there
  obtain ⟨p2, e2, h0⟩ := s.nw j _ _ hj rfl hp
  cases e2
  have oth : ∀ (i : Nat) (q : R) (v : V), i ≠ j → ρ[i]? = some (some q) → σ[i]? = some (some v) → SlotOk K W H v q → SlotOk K W (upd H p u) v q := fun i q v ne h1 e1 k => by
    obtain ⟨t, dd⟩ := q
    cases t with
    | shr => exact k
    | own =>
      obtain ⟨p', e, f, w, cc⟩ := k
      subst e
      have np : p' ≠ p := fun z => by subst z; exact ne (s.sl.inj i j _ _ _ h1 hj rfl rfl e1 hp)
      exact ⟨p', rfl, f, w, cc.mono ⟨fun _ _ h => h, fun _ _ h => h, fun _ h => h⟩ fun o h => by rw [upd_ne np]; exact h⟩
    | brw =>
      obtain ⟨p', e, f, w, cc⟩ := k
      subst e
      obtain ⟨p3, e3, h3⟩ := s.bw i _ _ h1 rfl e1
      cases e3
      have np : p' ≠ p := fun z => by subst z; exact h3 h0
      exact ⟨p', rfl, f, w, cc.mono ⟨fun _ _ h => h, fun _ _ h => h, fun _ h => h⟩ fun o h => by rw [upd_ne np]; exact h⟩
    | lck =>
      obtain ⟨p', e, f, w, ks, kvs, o, ed, cc, r⟩ := k
      subst e
      have np : p' ≠ p := fun z => by subst z; exact ne (s.sl.inj i j _ _ _ h1 hj rfl rfl e1 hp)
      exact ⟨p', rfl, f, w, ks, kvs, o, ed, by rw [upd_ne np]; exact cc, r⟩
  have jl : j < ρ.length := (List.getElem?_eq_some_iff.mp hj).1
  have set_eq : ∀ {i : Nat} {q : R}, (putO ρ j d')[i]? = some (some q) → (j = i ∧ q = ⟨.own, d'⟩) ∨ (j ≠ i ∧ ρ[i]? = some (some q)) := fun {i q} h => by
    unfold putO at h
    by_cases a1 : j = i
    · subst a1
      rw [List.getElem?_set_self jl] at h; cases h; exact .inl ⟨rfl, rfl⟩
    · rw [List.getElem?_set_ne a1] at h; exact .inr ⟨a1, h⟩
  refine ⟨⟨s.ok.poke hF hw th, ⟨by unfold putO; rw [List.length_set]; exact s.sl.len, fun i q h => ?_, fun i k q q' x h1 h2 t1 t2 e1 e2 => ?_⟩, ⟨s.st.F, s.st.Fn, s.st.w, s.st.wn, s.st.m, s.st.x, fun a h => ?_, fun a o h hl h2 => ?_⟩, fun i q x h1 t1 e1 => ?_, fun i q x h1 t1 e1 => ?_⟩, ⟨⟨fun _ _ h => h, fun _ _ h => h, fun _ h => h⟩, fun a o h h2 => ?_⟩⟩
  · rcases set_eq h with ⟨rfl, rfl⟩ | ⟨ne, h⟩
    · exact ⟨_, hp, p, rfl, hF, hw, c⟩
    · obtain ⟨v, e, k⟩ := s.sl.ok i q h
      exact ⟨v, e, oth i q v (Ne.symm ne) h e k⟩
  · rcases set_eq h1 with ⟨rfl, rfl⟩ | ⟨n1, h1⟩
    · rcases set_eq h2 with ⟨rfl, _⟩ | ⟨n2, h2⟩
      · rfl
      · exact s.sl.inj _ _ _ _ x hj h2 rfl t2 e1 e2
    · rcases set_eq h2 with ⟨rfl, _⟩ | ⟨n2, h2⟩
      · exact s.sl.inj _ _ _ _ x h1 hj t1 rfl e1 e2
      · exact s.sl.inj i k q q' x h1 h2 t1 t2 e1 e2
  · by_cases e : a = p
    · subst e; rw [upd_same]; exact fun z => nomatch z
    · rw [upd_ne e]; exact s.st.th a h
  · rw [upd_ne (fun e => by subst e; rw [h0] at h2; cases h2)]; exact s.st.H a o h hl h2
  · rcases set_eq h1 with ⟨rfl, rfl⟩ | ⟨n1, h1⟩
    · rw [hp] at e1; cases e1; exact ⟨p, rfl, h0⟩
    · exact s.nw i q x h1 t1 e1
  · rcases set_eq h1 with ⟨rfl, rfl⟩ | ⟨n1, h1⟩
    · cases t1
    · exact s.bw i q x h1 t1 e1
  · rw [upd_ne (fun e => by subst e; exact h hF)]; exact h2
end

/-! ### statements -/
def sNext : FS := fun ρ B => some (.nx ρ, B)
def sBrk : FS := fun ρ B => some (.brk ρ, B)
def sCnt : FS := fun ρ B => some (.cnt ρ, B)
def sSeq (f g : FS) : FS := fun ρ B => match f ρ B with
  | some (.nx ρ', B') => g ρ' B'
  | o => o
/-- an expression's answer used -/
def sE {α : Type} (m : Rho → M α) (k : α → FS) : FS := fun ρ B => match m ρ B with
  | some (.ok a, B') => k a ρ B'
  | some (.ex c, B') => some (.ex c ρ, B')
  | none => none

def sSet (i : Nat) (f : FE) : FS := sE f fun d ρ B => some (.nx (put ρ i d), B)
def sOwn (i : Nat) (f : FE) : FS := sE f fun d ρ B => some (.nx (putO ρ i d), B)
def sRet (f : FE) : FS := sE f fun d _ B => some (.ret ⟨.shr, d⟩, B)
def sRetF (f : FE) : FS := sE f fun d _ B => some (.ret ⟨.own, d⟩, B)
def sRetO (i : Nat) : FS := fun ρ B => match ρ[i]? with
  | some (some ⟨.own, d⟩) => some (.ret ⟨.own, d⟩, B)
  | _ => none
def sRetN : FS := fun _ B => some (.ret ⟨.shr, .non⟩, B)
def sDrop (f : FE) : FS := sE f fun _ ρ B => some (.nx ρ, B)
def sIf (c : FT) (f g : FS) : FS := sE c fun b => if b then f else g
theorem sE_some {α : Type} {m : Rho → M α} {k : α → FS} {ρ : Rho} {B : Bk} {o : Fl × Bk} (h : sE m k ρ B = some o) : (∃ a B1, m ρ B = some (.ok a, B1) ∧ k a ρ B1 = some o) ∨ ∃ c B1, m ρ B = some (.ex c, B1) ∧ o = (.ex c ρ, B1) := by
  unfold sE at h
  split at h
  · rename_i a B' e; exact .inl ⟨a, B', e, h⟩
  · rename_i c B' e; cases h; exact .inr ⟨c, B', e, rfl⟩
  · cases h
/-- what is wanted behind, as a word -/
def After (K : PySem.W.Frag) (G : GE) (Wx : WX) (WA : Wd) (HA : Hp) (L : List Addr) (W : Wd) (H : Hp) (D : Ends) : Fl × Bk → Prop
  | (.nx ρ', B') => ∀ W' H' σ', SOk K G WA HA L W' H' σ' ρ' B' → SLe W H W' H' → D.nx σ' H'
  | (.ret r, B') => ∀ W' H' v, LStp L WA HA W' H' → Ok K G W' H' B' → SLe W H W' H' → RetOk K WA HA W' H' v r → D.rt v H'
  | (.brk ρ', B') => ∀ W' H' σ', SOk K G WA HA L W' H' σ' ρ' B' → SLe W H W' H' → D.bk σ' H'
  | (.cnt ρ', B') => ∀ W' H' σ', SOk K G WA HA L W' H' σ' ρ' B' → SLe W H W' H' → D.ct σ' H'
  | (.ex c ρ', B') => ∀ W' H' σ', SOk K G WA HA L W' H' σ' ρ' B' → SLe W H W' H' → Wx (G.ca c) none σ' H'
theorem After.step {K : PySem.W.Frag} {G : GE} {Wx : WX} {WA : Wd} {HA : Hp} {L : List Addr} {W W1 : Wd} {H H1 : Hp} {D : Ends} {o : Fl × Bk} (s : SLe W H W1 H1) (a : After K G Wx WA HA L W H D o) : After K G Wx WA HA L W1 H1 D o := by
  obtain ⟨f, B'⟩ := o
  cases f with
  | nx ρ' => exact fun W' H' σ' k l => a W' H' σ' k (s.tr l)
  | ret r => exact fun W' H' v k o l => a W' H' v k o (s.tr l)
  | brk ρ' => exact fun W' H' σ' k l => a W' H' σ' k (s.tr l)
  | cnt ρ' => exact fun W' H' σ' k l => a W' H' σ' k (s.tr l)
  | ex c ρ' => exact fun W' H' σ' k l => a W' H' σ' k (s.tr l)
theorem rdS_iff {K : PySem.W.Frag} {G : GE} {Wx : WX} {f : FS} {D : Ends} {σ : L2.St} {H : Hp} : RdS K G Wx f D σ H ↔ ∃ WA HA L ρ B W, SOk K G WA HA L W H σ ρ B ∧ ∃ o, f ρ B = some o ∧ After K G Wx WA HA L W H D o := by
  constructor
  · rintro ⟨WA, HA, L, ρ, B, W, s, o, e, q⟩
    refine ⟨WA, HA, L, ρ, B, W, s, o, e, ?_⟩
    obtain ⟨fl, B'⟩ := o
    cases fl <;> exact q
  · rintro ⟨WA, HA, L, ρ, B, W, s, o, e, q⟩
    refine ⟨WA, HA, L, ρ, B, W, s, o, e, ?_⟩
    obtain ⟨fl, B'⟩ := o
    cases fl <;> exact q
section
variable {G : GE} {Wx : WX} {X : Cx} {tg iter elt kx vx e a b c : Expr} {f fa fb fc g fe fk fv : FE} {fi : FI} {ft fu : FT} {pos px : Pos} {es ifs : List Expr} {st : Stmt} {sts rest : List Stmt} {fs fr : FS} {scope : Scope} {x : Str} {i j : Nat}
/-- the rule's form -/
theorem PSv.mk' {t : TS} (h : PS X st t) (w : ∀ D σ H WA HA L ρ B W o, SOk X.K G WA HA L W H σ ρ B → fs ρ B = some o → After X.K G Wx WA HA L W H D o → t D σ H) : PSv G Wx X st fs :=
  ⟨ps_weak h fun D σ H q => by
    obtain ⟨WA, HA, L, ρ, B, W, s, o, e, q⟩ := rdS_iff.mp q
    exact w D σ H WA HA L ρ B W o s e q⟩
theorem pssv_nil : PSsv G Wx X [] sNext := ⟨pss_weak pss_nil fun D σ H q => by
  obtain ⟨WA, HA, L, ρ, B, W, s, o, e, q⟩ := rdS_iff.mp q
  cases e
  exact q W H σ s (.refl W H)⟩
theorem pssv_cons (h1 : PSv G Wx X st fs) (h2 : PSsv G Wx X rest fr) : PSsv G Wx X (st :: rest) (sSeq fs fr) := ⟨pss_weak (pss_cons h1.run h2.run) fun D σ H q => by
  obtain ⟨WA, HA, L, ρ, B, W, s, o, e, q⟩ := rdS_iff.mp q
  show RdS X.K G Wx fs { D with nx := RdS X.K G Wx fr D } σ H
  unfold sSeq at e
  refine rdS_iff.mpr ⟨WA, HA, L, ρ, B, W, s, ?_⟩
  split at e
  · rename_i ρ' B' e1
    refine ⟨_, e1, fun W' H' σ' s' l => ?_⟩
    exact rdS_iff.mpr ⟨WA, HA, L, ρ', B', W', s', o, e, q.step l⟩
  · rename_i hn
    refine ⟨o, e, ?_⟩
    obtain ⟨fl, B'⟩ := o
    cases fl with
    | nx ρ' => exact absurd e (hn ρ' B')
    | ret r => exact q
    | brk r => exact q
    | cnt r => exact q
    | ex c r => exact q⟩
theorem pssv_one (h : PSv G Wx X st fs) : PSsv G Wx X [st] fs := ⟨pss_one h.run⟩
theorem psv_pass : PSv G Wx X (.Pass pos) sNext := .mk' ps_pass fun D σ H WA HA L ρ B W o s e q => by cases e; exact q W H σ s (.refl W H)
theorem psv_brk : PSv G Wx X (.Break pos) sBrk := .mk' ps_break fun D σ H WA HA L ρ B W o s e q => by cases e; exact q W H σ s (.refl W H)
theorem psv_cnt : PSv G Wx X (.Continue pos) sCnt := .mk' ps_continue fun D σ H WA HA L ρ B W o s e q => by cases e; exact q W H σ s (.refl W H)
/-- an expression within a statement -/
theorem e_rd {k : D → FS} {D : Ends} {σ : L2.St} {H : Hp} {WA : Wd} {HA : Hp} {L : List Addr} {ρ : Rho} {B : Bk} {W : Wd} {o : Fl × Bk} {Q : VK} (s : SOk X.K G WA HA L W H σ ρ B) (e : sE f k ρ B = some o) (q : After X.K G Wx WA HA L W H D o)
    (h : ∀ d B1 W1 H1 v, k d ρ B1 = some o → SOk X.K G WA HA L W1 H1 σ ρ B1 → SLe W H W1 H1 → Rep X.K W1 d v → Q v H1) : RdE X.K G Wx f σ H Q := by
  rcases sE_some e with ⟨d, B1, e1, e2⟩ | ⟨c, B1, e1, rfl⟩
  · exact ⟨ρ, B, W, s.ok, s.sl, _, e1, fun W1 H1 v st o1 r => h d B1 W1 H1 v e2 (s.step st o1) (st.sle s.ok) r⟩
  · exact ⟨ρ, B, W, s.ok, s.sl, _, e1, fun W1 H1 st o1 => q W1 H1 σ (s.step st o1) (st.sle s.ok)⟩
theorem v_rd {k : D → FS} {D : Ends} {σ : L2.St} {H : Hp} {WA : Wd} {HA : Hp} {L : List Addr} {ρ : Rho} {B : Bk} {W : Wd} {o : Fl × Bk} {Q : VK} (s : SOk X.K G WA HA L W H σ ρ B) (e : sE f k ρ B = some o) (q : After X.K G Wx WA HA L W H D o)
    (h : ∀ d B1 W1 H1 v, k d ρ B1 = some o → SOk X.K G WA HA L W1 H1 σ ρ B1 → SLe W H W1 H1 → Vw X.K W1 H1 d v → Q v H1) : RdV X.K G Wx f σ H Q := by
  rcases sE_some e with ⟨d, B1, e1, e2⟩ | ⟨c, B1, e1, rfl⟩
  · exact ⟨ρ, B, W, s.ok, s.sl, _, e1, fun W1 H1 v st o1 r => h d B1 W1 H1 v e2 (s.step st o1) (st.sle s.ok) r⟩
  · exact ⟨ρ, B, W, s.ok, s.sl, _, e1, fun W1 H1 st o1 => q W1 H1 σ (s.step st o1) (st.sle s.ok)⟩
theorem f_rd {k : D → FS} {D : Ends} {σ : L2.St} {H : Hp} {WA : Wd} {HA : Hp} {L : List Addr} {ρ : Rho} {B : Bk} {W : Wd} {o : Fl × Bk} {Q : VK} (s : SOk X.K G WA HA L W H σ ρ B) (e : sE f k ρ B = some o) (q : After X.K G Wx WA HA L W H D o)
    (h : ∀ d B1 W1 H1 p, k d ρ B1 = some o → Stp W H W1 H1 → Ok X.K G W1 H1 B1 → H p = none → W1.F p = none → W1.w p = none → CellOk X.K W1 H1 p d → Q (.ref p) H1) : RdF X.K G Wx f σ H Q := by
  rcases sE_some e with ⟨d, B1, e1, e2⟩ | ⟨c, B1, e1, rfl⟩
  · exact ⟨ρ, B, W, s.ok, s.sl, _, e1, fun W1 H1 p st o1 => h d B1 W1 H1 p e2 st o1⟩
  · exact ⟨ρ, B, W, s.ok, s.sl, _, e1, fun W1 H1 st o1 => q W1 H1 σ (s.step st o1) (st.sle s.ok)⟩
theorem t_rd {k : Bool → FS} {D : Ends} {σ : L2.St} {H : Hp} {WA : Wd} {HA : Hp} {L : List Addr} {ρ : Rho} {B : Bk} {W : Wd} {o : Fl × Bk} {Q : Bool → Hp → Prop} (s : SOk X.K G WA HA L W H σ ρ B) (e : sE ft k ρ B = some o) (q : After X.K G Wx WA HA L W H D o)
    (h : ∀ d B1 W1 H1, k d ρ B1 = some o → SOk X.K G WA HA L W1 H1 σ ρ B1 → SLe W H W1 H1 → Q d H1) : RdT X.K G Wx ft σ H Q := by
  rcases sE_some e with ⟨d, B1, e1, e2⟩ | ⟨c, B1, e1, rfl⟩
  · exact ⟨ρ, B, W, s.ok, s.sl, _, e1, fun W1 H1 st o1 => h d B1 W1 H1 e2 (s.step st o1) (st.sle s.ok)⟩
  · exact ⟨ρ, B, W, s.ok, s.sl, _, e1, fun W1 H1 st o1 => q W1 H1 σ (s.step st o1) (st.sle s.ok)⟩
theorem psv_set {pos' : Pos} (i : Nat) (hN : X.N.Nodup) (hi : X.N[i]? = some x) (hx : Loc X.env.scope x) (he : PEv G Wx X e f) (hs : swapsWith e (some (.Name x pos')) pos.line X.env = pure false := by rfl) (hf : X.fn x = true ∨ X.env.scope.names.lookup x = some .local := by first | exact .inl rfl | exact .inr rfl | assumption) :
    PSv G Wx X (.Assign [.Name x pos'] e pos) (sSet i f) := .mk' (ps_set hN hi hx he.run hs hf) fun D σ H WA HA L ρ B W o s e q => by
  refine e_rd s e q fun d B1 W1 H1 v k s1 l r => ?_
  cases k
  exact q W1 H1 _ (s1.put r i) l
theorem psv_own {pos' : Pos} (i : Nat) (hN : X.N.Nodup) (hi : X.N[i]? = some x) (hx : Loc X.env.scope x) (he : PFv G Wx X e f) (hs : swapsWith e (some (.Name x pos')) pos.line X.env = pure false := by rfl) (hf : X.fn x = true ∨ X.env.scope.names.lookup x = some .local := by first | exact .inl rfl | exact .inr rfl | assumption) :
    PSv G Wx X (.Assign [.Name x pos'] e pos) (sOwn i f) := .mk' (ps_set hN hi hx he.run hs hf) fun D σ H WA HA L ρ B W o s e q => by
  refine f_rd s e q fun d B1 W1 H1 p k st o1 h0 hF hw c => ?_
  cases k
  exact q W1 H1 _ (s.own st o1 h0 hF hw c i) (st.sle s.ok)
theorem psv_ret (he : PEv G Wx X e f) : PSv G Wx X (.Return (some e) pos) (sRet f) := .mk' (ps_ret he.run) fun D σ H WA HA L ρ B W o s e q => by
  refine e_rd s e q fun d B1 W1 H1 v k s1 l r => ?_
  cases k
  exact q W1 H1 v s1.st s1.ok l r
theorem psv_retF (he : PFv G Wx X e f) : PSv G Wx X (.Return (some e) pos) (sRetF f) := .mk' (ps_ret he.run) fun D σ H WA HA L ρ B W o s e q => by
  refine f_rd s e q fun d B1 W1 H1 p k st o1 h0 hF hw c => ?_
  cases k
  exact q W1 H1 _ (s.st.tr st) o1 (st.sle s.ok) ⟨p, rfl, s.st.fr h0, hF, hw, c⟩
theorem psv_retO (i : Nat) (hN : X.N[i]? = some x := by rfl) (hv : Vis X.env.scope x := by first | exact Or.inl rfl | exact Or.inr (Or.inl rfl) | exact Or.inr (Or.inr rfl)) (hd : (x == ("__debug__" : Str)) = false := by decide)
    (hcd : (x == ("__classdict__" : Str)) = false := by decide) : PSv G Wx X (.Return (some (.Name x px)) pos) (sRetO i) := .mk' (ps_ret (pe_var hN hv hd hcd)) fun D σ H WA HA L ρ B W o s e q => by
  unfold sRetO at e
  split at e
  · rename_i d hρ
    cases e
    obtain ⟨v, hv, p, rfl, hF, hw, c⟩ := s.sl.ok i _ hρ
    obtain ⟨p', e', h0⟩ := s.nw i _ _ hρ rfl hv
    cases e'
    exact ⟨_, hv, q W H _ s.st s.ok (.refl W H) ⟨p, rfl, h0, hF, hw, c⟩⟩
  · cases e
theorem psv_retN : PSv G Wx X (.Return none pos) sRetN := .mk' ps_retN fun D σ H WA HA L ρ B W o s e q => by
  cases e
  exact q W H .non s.st s.ok (.refl W H) rfl
theorem psv_drop (he : PVv G Wx X e f) (hs : swapsWith e none pos.line X.env = pure false := by rfl) : PSv G Wx X (.Expr e pos) (sDrop f) := .mk' (ps_expr he.run hs) fun D σ H WA HA L ρ B W o s e q => by
  refine v_rd s e q fun d B1 W1 H1 v k s1 l r => ?_
  cases k
  exact q W1 H1 _ s1 l
theorem psv_if (hc : PTv G Wx X c ft) (ha : PSsv G Wx X sts fs) (hb : PSsv G Wx X rest fr) : PSv G Wx X (.If c sts rest pos) (sIf ft fs fr) := .mk' (ps_if hc.run ha.run hb.run) fun D σ H WA HA L ρ B W o s e q => by
  refine t_rd s e q fun d B1 W1 H1 k s1 l => ?_
  cases d with
  | true => exact iteT (rdS_iff.mpr ⟨WA, HA, L, ρ, B1, W1, s1, o, k, q.step l⟩)
  | false => exact iteF (rdS_iff.mpr ⟨WA, HA, L, ρ, B1, W1, s1, o, k, q.step l⟩)
end
end Fmx

namespace Fmx
open PySem PySem.Spec PyProof.Rows L2

/-! ### for -/
/-- behind a walk the lock may be lifted -/
theorem ps_unl {X : Cx} {st : Stmt} {t : TS} (h : PS X st t) : PS X st (fun D σ H => t ⟨fun σ' H' => ∃ H'', Ulk X H' H'' ∧ D.nx σ' H'', fun v H' => ∃ H'', Ulk X H' H'' ∧ D.rt v H'', fun σ' H' => ∃ H'', Ulk X H' H'' ∧ D.bk σ' H'', fun σ' H' => ∃ H'', Ulk X H' H'' ∧ D.ct σ' H''⟩ σ H) := by
  have un : ∀ {pins σ H H'' s}, Ulk X H H'' → L2.Inv X pins σ H s → L2.Inv X pins σ H'' s := fun {pins σ H H'' s} u I => by
    rcases u with rfl | ⟨d, o, u, hd, nf, rfl⟩
    · exact I
    · exact I.unlock hd nf
  refine ⟨fun pins s σ H D I hw => thn (h.run pins s σ H _ I hw) fun f s1 q => ?_⟩
  cases f with
  | next => obtain ⟨σ', H', I2, H'', u, q⟩ := q; exact ⟨σ', H'', un u I2, q⟩
  | brk => obtain ⟨σ', H', I2, H'', u, q⟩ := q; exact ⟨σ', H'', un u I2, q⟩
  | cont => obtain ⟨σ', H', I2, H'', u, q⟩ := q; exact ⟨σ', H'', un u I2, q⟩
  | ret v => obtain ⟨x, σ', H', I2, r, H'', u, q⟩ := q; exact ⟨x, σ', H'', un u I2, r, q⟩
/-- an exception's wish with the lock on -/
def UW (X : Cx) (Wx : WX) : WX := fun c d σ H => ∃ H'', Ulk X H H'' ∧ Wx c d σ H''
theorem takes_unl {X : Cx} {Wx : WX} (tk : Takes X Wx) : Takes X (UW X Wx) := fun u s' ⟨a, B, sI, pins, σ, H, cls, d, e, I, nb, up, sky, na, os, ag, H'', ul, w⟩ => by
  rcases ul with rfl | ⟨dd, o, x, hd, nf, rfl⟩
  · exact tk u s' ⟨a, B, sI, pins, σ, _, cls, d, e, I, nb, up, sky, na, os, ag, w⟩
  · exact tk u s' ⟨a, B, sI, pins, σ, _, cls, d, e, I.unlock hd nf, nb, up, sky, by rw [upd_ne (fun z => by rw [z, hd] at na; cases na)]; exact na, os, ag, w⟩
def forGo (i : Nat) (body : FS) : List D → FS
  | [], ρ, B => some (.nx ρ, B)
  | d :: r, ρ, B => match body (put ρ i d) B with
    | some (.nx ρ', B') => forGo i body r ρ' B'
    | some (.cnt ρ', B') => forGo i body r ρ' B'
    | some (.brk ρ', B') => some (.nx ρ', B')
    | o => o
def sFor (i : Nat) (fi : FI) (body : FS) : FS := sE fi fun items => forGo i body items
section
variable {K : PySem.W.Frag} {G : GE} {X : Cx} {WA : Wd} {HA : Hp} {L : List Addr} {W W1 W2 : Wd} {H H1 H1' H2 : Hp} {B B1 B2 : Bk} {σ σ2 : L2.St} {ρ ρ2 : Rho}
/-- the state within a walk -/
theorem SOk.lk (s : SOk K G WA HA L W1 H1 σ ρ B) (l : Lk X W1 H1 H1') : ∃ L', (∀ a ∈ L, a ∈ L') ∧ SOk K G WA HA L' W1 H1' σ ρ B ∧ (∀ {W2 H2 σ2 ρ2 B2}, SOk K G WA HA L' W2 H2 σ2 ρ2 B2 → SLe W1 H1' W2 H2 → ∃ H3, Ulk X H2 H3 ∧ SOk K G WA HA L W2 H3 σ2 ρ2 B2 ∧ SLe W1 H1 W2 H3) ∧
    (∀ {W2 H2 B2 v r}, LStp L' WA HA W2 H2 → Ok K G W2 H2 B2 → RetOk K WA HA W2 H2 v r → SLe W1 H1' W2 H2 → ∃ H3, Ulk X H2 H3 ∧ LStp L WA HA W2 H3 ∧ Ok K G W2 H3 B2 ∧ RetOk K WA HA W2 H3 v r ∧ SLe W1 H1 W2 H3) := by
  have ok' := l.ok s.ok
  have sl' := s.sl.lk l
  -- one fact for both ends
  have gen : ∃ L', (∀ a ∈ L, a ∈ L') ∧ LStp L' WA HA W1 H1' ∧ ∀ {W2 H2 B2}, LStp L' WA HA W2 H2 → Ok K G W2 H2 B2 → SLe W1 H1' W2 H2 →
      ∃ H3, Ulk X H2 H3 ∧ Ok K G W2 H3 B2 ∧ LStp L WA HA W2 H3 ∧ SLe W1 H1 W2 H3 ∧ (∀ p, W1.F p = none → H3 p = H2 p) := by
    rcases l with rfl | ⟨d, kvs, ob, f, hd, nf, rfl⟩
    · exact ⟨L, fun _ h => h, s.st, fun {W2 H2 B2} st o le => ⟨H2, .inl rfl, o, st, le, fun _ _ => rfl⟩⟩
    · refine ⟨d :: L, fun a h => List.mem_cons_of_mem _ h, ⟨s.st.F, s.st.Fn, s.st.w, s.st.wn, s.st.m, s.st.x, fun a h => ?_, fun a o w h h2 => ?_⟩, fun {W2 H2 B2} st o le => ?_⟩
      · by_cases e : a = d
        · subst e; rw [upd_same]; exact fun z => nomatch z
        · rw [upd_ne e]; exact s.st.th a h
      · have n1 : a ≠ d := fun e => h (by rw [e]; exact List.mem_cons_self)
        rw [upd_ne n1]; exact s.st.H a o w (fun z => h (List.mem_cons_of_mem _ z)) h2
      · obtain ⟨H3, u, o3, at3, n3, fx3⟩ := Lk.un (X := X) (W1 := W1) (H1 := H1) (.inr ⟨d, kvs, ob, f, hd, nf, rfl⟩) s.ok le.fx le.le o
        refine ⟨H3, u, o3, ⟨st.F, st.Fn, st.w, st.wn, st.m, st.x, fun a h z => st.th a h ((n3 a).mp z), fun a o w hl h2 => ?_⟩, ⟨le.le, fx3⟩, at3⟩
        by_cases e : a = d
        · subst e
          have h1 := s.st.H a o w hl h2
          exact fx3 a o (by rw [f]; exact fun z => nomatch z) h1
        · have h2' : H2 a = some o := st.H a o w (fun z => (List.mem_cons.mp z).elim e hl) h2
          rcases u with rfl | ⟨d', o', u', hd', _, rfl⟩
          · exact h2'
          · by_cases e2 : a = d'
            · subst e2
              cases q : W1.F a with
              | none => rw [at3 a q]; exact h2'
              | some z =>
                have h1 := s.st.H a o w hl h2
                exact fx3 a o (by rw [q]; exact fun z => nomatch z) h1
            · rw [upd_ne e2]; exact h2'
  obtain ⟨L', sub, st', fin⟩ := gen
  have ownF : ∀ {W2 : Wd} {p : Addr}, Le W1 W2 → W2.F p = none → W1.F p = none := fun {W2 p} le h => by
    cases q : W1.F p with
    | none => rfl
    | some z => rw [le.F p z q] at h; cases h
  refine ⟨L', sub, ⟨ok', sl', st', s.nw, s.bw⟩, fun {W2 H2 σ2 ρ2 B2} s2 le => ?_, fun {W2 H2 B2 v r} st2 o2 r2 le => ?_⟩
  · obtain ⟨H3, u, o3, l3, le3, at3⟩ := fin s2.st s2.ok le
    refine ⟨H3, u, ⟨o3, ⟨s2.sl.len, fun i q h => ?_, s2.sl.inj⟩, l3, s2.nw, s2.bw⟩, le3⟩
    obtain ⟨v, e, k⟩ := s2.sl.ok i q h
    refine ⟨v, e, ?_⟩
    obtain ⟨t, d⟩ := q
    cases t with
    | shr => exact k
    | own =>
      obtain ⟨p, e, f, w, c⟩ := k
      exact ⟨p, e, f, w, c.mono ⟨fun _ _ h => h, fun _ _ h => h, fun _ h => h⟩ fun o h => by rw [at3 p (ownF le.le f)]; exact h⟩
    | brw =>
      obtain ⟨p, e, f, w, c⟩ := k
      exact ⟨p, e, f, w, c.mono ⟨fun _ _ h => h, fun _ _ h => h, fun _ h => h⟩ fun o h => by rw [at3 p (ownF le.le f)]; exact h⟩
    | lck =>
      obtain ⟨p, e, f, w, ks, kvs, o, ed, c, r⟩ := k
      exact ⟨p, e, f, w, ks, kvs, o, ed, by rw [at3 p (ownF le.le f)]; exact c, r⟩
  · obtain ⟨H3, u, o3, l3, le3, at3⟩ := fin st2 o2 le
    refine ⟨H3, u, l3, o3, ?_, le3⟩
    obtain ⟨t, d⟩ := r
    cases t with
    | shr => exact r2
    | lck => exact r2
    | brw => exact r2
    | own =>
      obtain ⟨p, e, h0, f, w, c⟩ := r2
      exact ⟨p, e, h0, f, w, c.mono ⟨fun _ _ h => h, fun _ _ h => h, fun _ h => h⟩ fun o h => by rw [at3 p (ownF le.le f)]; exact h⟩
end
section
variable {G : GE} {Wx : WX} {X : Cx} {tg iter elt kx vx e a b c : Expr} {f fa fb fc g fe fk fv : FE} {fi : FI} {ft fu : FT} {pos px : Pos} {es ifs : List Expr} {st : Stmt} {sts rest : List Stmt} {fs fr : FS} {scope : Scope} {x : Str} {i j : Nat}
theorem psv_for (i : Nat) (hp : PassesOwn (model X.prog X.w) X.A X.env X.xe) (tk : Takes X Wx) (hc : X.calm = true) (hi : PIv G Wx X (.Name x px) iter fi) (hg : PG X (.Name x px) (gName i)) (hb : ∀ Wx', Takes X Wx' → PSsv G Wx' X sts fs)
    (hs : ∀ x, foldedSetIterable iter X.env x = pure x := by intro _; rfl) : PSv G Wx X (.For (.Name x px) iter sts [] pos) (sFor i fi fs) := .mk' (ps_unl (ps_for hp hc hi.run hg (hb _ (takes_unl tk)).run hs)) fun D σ H WA HA L ρ B W o s e q => by
  show tFor (RdI X G Wx fi) (gName i) (RdS X.K G (UW X Wx) fs) _ σ H
  rcases sE_some e with ⟨items, B1, e1, e2⟩ | ⟨c, B1, e1, rfl⟩
  · refine ⟨ρ, B, W, s.ok, s.sl, _, e1, fun W1 H1 H1' J st1 o1 lk it => ?_⟩
    have s1 := s.step st1 o1
    have le1 := st1.sle s.ok
    obtain ⟨L', sub, s1', unl, unr⟩ := s1.lk lk
    have o1' := lk.ok o1
    refine ⟨fun k m σ2 H2 => m = items.length - k ∧ k ≤ items.length ∧ ∃ ρ2 B2 W2, SOk X.K G WA HA L' W2 H2 σ2 ρ2 B2 ∧ SLe W1 H1' W2 H2 ∧ forGo i fs (items.drop k) ρ2 B2 = some o,
      ⟨items.length, rfl, Nat.zero_le _, ρ, B1, W1, s1', .refl _ _, e2⟩, ?_⟩
    rintro k m σ2 H2 ⟨rfl, hk, ρ2, B2, W2, s2, le2, go⟩
    have itn := it W2 H2 B2 le2 s2.ok
    have fin : ∀ {ρ' B' W' H' σ'}, o = (.nx ρ', B') → SOk X.K G WA HA L' W' H' σ' ρ' B' → SLe W1 H1' W' H' → ∃ H'', Ulk X H' H'' ∧ D.nx σ' H'' := fun {ρ' B' W' H' σ'} eo s' le' => by
      subst eo
      obtain ⟨H3, u, s3, le3⟩ := unl s' le'
      exact ⟨H3, u, q W' H3 σ' s3 (le1.tr le3)⟩
    by_cases hlt : k < items.length
    · obtain ⟨d, hd⟩ : ∃ d, items[k]? = some d := ⟨items[k], List.getElem?_eq_getElem hlt⟩
      have hdr : items.drop k = d :: items.drop (k + 1) := by
        rw [List.drop_eq_getElem_cons hlt]
        rw [List.getElem?_eq_getElem hlt] at hd
        cases hd; rfl
      rw [hdr] at go
      obtain ⟨jgo, jy⟩ := itn.1 k d hd
      refine .inr ⟨jgo, fun σ' H' => k + 1 ≤ items.length ∧ ∃ ρ2 B2 W2, SOk X.K G WA HA L' W2 H' σ' ρ2 B2 ∧ SLe W1 H1' W2 H' ∧ forGo i fs (items.drop (k + 1)) ρ2 B2 = some o,
        fun σ' H' h => ⟨items.length - (k + 1), by omega, rfl, h.1, h.2⟩, fun y H3 yl => ?_⟩
      obtain ⟨rfl, ry⟩ := jy y H3 yl
      show RdS X.K G (UW X Wx) fs _ (σ2.set i (some y)) H3
      have s3 := s2.put ry i
      unfold forGo at go
      cases hbd : fs (put ρ2 i d) B2 with
      | none => rw [hbd] at go; cases go
      | some out =>
        rw [hbd] at go
        refine rdS_iff.mpr ⟨WA, HA, L', put ρ2 i d, B2, W2, s3, out, hbd, ?_⟩
        obtain ⟨fl, B4⟩ := out
        cases fl with
        | nx ρ4 => exact fun W' H' σ' s4 le4 => ⟨hlt, ρ4, B4, W', s4, le2.tr le4, go⟩
        | cnt ρ4 => exact fun W' H' σ' s4 le4 => ⟨hlt, ρ4, B4, W', s4, le2.tr le4, go⟩
        | brk ρ4 =>
          have go : some (Fl.nx ρ4, B4) = some o := go
          exact fun W' H' σ' s4 le4 => fin (Option.some.inj go).symm s4 (le2.tr le4)
        | ret r =>
          have go : some (Fl.ret r, B4) = some o := go
          cases go
          intro W' H' v st4 o4 le4 r4
          obtain ⟨H3', u, st5, o5, r5, le5⟩ := unr st4 o4 r4 (le2.tr le4)
          exact ⟨H3', u, q W' H3' v st5 o5 (le1.tr le5) r5⟩
        | ex c ρ4 =>
          have go : some (Fl.ex c ρ4, B4) = some o := go
          cases go
          intro W' H' σ' s4 le4
          obtain ⟨H3', u, s5, le5⟩ := unl s4 (le2.tr le4)
          exact ⟨H3', u, q W' H3' σ' s5 (le1.tr le5)⟩
    · have ek : k = items.length := by omega
      subst ek
      rw [List.drop_length] at go
      cases go
      exact .inl ⟨itn.2 _ (Nat.le_refl _), fin rfl s2 le2⟩
  · exact ⟨ρ, B, W, s.ok, s.sl, _, e1, fun W1 H1 st1 o1 => q W1 H1 σ (s.step st1 o1) (st1.sle s.ok)⟩
end

/-! ### while, by fuel -/
def whGo (c : FT) (body : FS) : Nat → FS
  | 0 => fun _ _ => none
  | n + 1 => sE c fun b => if b then fun ρ B => match body ρ B with
      | some (.nx ρ', B') => whGo c body n ρ' B'
      | some (.cnt ρ', B') => whGo c body n ρ' B'
      | some (.brk ρ', B') => some (.nx ρ', B')
      | o => o
    else sNext
section
variable {G : GE} {Wx : WX} {X : Cx} {c : Expr} {ft : FT} {pos : Pos} {sts : List Stmt} {fs : FS}
theorem psv_while (n : Nat) (hp : PassesOwn (model X.prog X.w) X.A X.env X.xe) (hc : PTv G Wx X c ft) (hb : PSsv G Wx X sts fs) : PSv G Wx X (.While c sts [] pos) (whGo ft fs n) := .mk' (ps_while hp hc.run hb.run) fun D σ H WA HA L ρ B W o s e q => by
  refine ⟨fun m σ2 H2 => ∃ ρ2 B2 W2, SOk X.K G WA HA L W2 H2 σ2 ρ2 B2 ∧ SLe W H W2 H2 ∧ whGo ft fs m ρ2 B2 = some o, ⟨n, ρ, B, W, s, .refl _ _, e⟩, ?_⟩
  rintro m σ2 H2 ⟨ρ2, B2, W2, s2, le2, go⟩
  cases m with
  | zero => cases go
  | succ m =>
    unfold whGo at go
    refine t_rd (D := D) s2 go (q.step le2) fun d B1 W1 H1 k s1 l => ?_
    cases d with
    | false => cases k; exact iteF (q W1 H1 σ2 s1 (le2.tr l))
    | true =>
      refine iteT ⟨fun σ' H' => ∃ ρ2 B2 W2, SOk X.K G WA HA L W2 H' σ' ρ2 B2 ∧ SLe W H W2 H' ∧ whGo ft fs m ρ2 B2 = some o, fun σ' H' h => ⟨m, Nat.lt_succ_self m, h⟩, ?_⟩
      cases hbd : fs ρ2 B1 with
      | none =>
        have k : (match fs ρ2 B1 with | some (.nx ρ', B') => whGo ft fs m ρ' B' | some (.cnt ρ', B') => whGo ft fs m ρ' B' | some (.brk ρ', B') => some (.nx ρ', B') | o => o) = some o := k
        rw [hbd] at k; cases k
      | some out =>
        have k : (match fs ρ2 B1 with | some (.nx ρ', B') => whGo ft fs m ρ' B' | some (.cnt ρ', B') => whGo ft fs m ρ' B' | some (.brk ρ', B') => some (.nx ρ', B') | o => o) = some o := k
        rw [hbd] at k
        refine rdS_iff.mpr ⟨WA, HA, L, ρ2, B1, W1, s1, out, hbd, ?_⟩
        obtain ⟨fl, B4⟩ := out
        cases fl with
        | nx ρ4 => exact fun W' H' σ' s4 le4 => ⟨ρ4, B4, W', s4, (le2.tr l).tr le4, k⟩
        | cnt ρ4 => exact fun W' H' σ' s4 le4 => ⟨ρ4, B4, W', s4, (le2.tr l).tr le4, k⟩
        | brk ρ4 =>
          have k : some (Fl.nx ρ4, B4) = some o := k
          cases k
          exact fun W' H' σ' s4 le4 => q W' H' σ' s4 ((le2.tr l).tr le4)
        | ret r =>
          have k : some (Fl.ret r, B4) = some o := k
          cases k
          exact After.step (le2.tr l) q
        | ex c ρ4 =>
          have k : some (Fl.ex c ρ4, B4) = some o := k
          cases k
          exact After.step (le2.tr l) q
end

/-! ### defs -/
abbrev FFn := List R → Bk → Option (Res R × Bk)
def R.lent (r : R) : Bool := match r.tag with
  | .shr => true
  | .brw => true
  | _ => false
def ArgsOk (K : PySem.W.Frag) (W : Wd) (H : Hp) : List R → List V → Prop
  | [], vs => vs = []
  | r :: rs, vs => ∃ v q, vs = v :: q ∧ r.lent = true ∧ SlotOk K W H v r ∧ ArgsOk K W H rs q
theorem ArgsOk.len {K : PySem.W.Frag} {W : Wd} {H : Hp} : ∀ {rs : List R} {vs : List V}, ArgsOk K W H rs vs → vs.length = rs.length
  | [], _, r => by have r : _ = [] := r; subst r; rfl
  | _ :: _, _, ⟨v, q, e, _, _, b⟩ => by subst e; rw [List.length_cons, List.length_cons, b.len]
theorem ArgsOk.step {K : PySem.W.Frag} {W W' : Wd} {H H' : Hp} (s : Stp W H W' H') : ∀ {rs : List R} {vs : List V}, ArgsOk K W H rs vs → ArgsOk K W' H' rs vs
  | [], _, r => r
  | _ :: _, _, ⟨v, q, e, l, a, b⟩ => ⟨v, q, e, l, a.step s, b.step s⟩
theorem ArgsOk.get {K : PySem.W.Frag} {W : Wd} {H : Hp} : ∀ {rs : List R} {vs : List V} {i : Nat} {r : R}, ArgsOk K W H rs vs → rs[i]? = some r → ∃ v, vs[i]? = some v ∧ r.lent = true ∧ SlotOk K W H v r
  | [], _, _, _, _, h => by simp at h
  | _ :: _, _, 0, _, ⟨v, q, e, l, a, b⟩, h => by simp at h; subst h e; exact ⟨v, rfl, l, a⟩
  | _ :: _, _, i + 1, _, ⟨v, q, e, l, a, b⟩, h => by
    subst e
    obtain ⟨v', e', l', r'⟩ := b.get (i := i) (by simpa using h)
    exact ⟨v', by simpa using e', l', r'⟩
def start0 (n : Nat) (rs : List R) : Rho := rs.map some ++ List.replicate (n - rs.length) none
def fnF (a n : Nat) (body : FS) : FFn := fun rs B => if rs.length = a then match body (start0 n rs) B with
  | some (.ret r, B') => some (.ok r, B')
  | some (.nx _, B') => some (.ok ⟨.shr, .non⟩, B')
  | some (.ex c _, B') => some (.ex c, B')
  | _ => none else none
def spF (K : PySem.W.Frag) (G : GE) (f : FFn) (a : Nat) : Sp := fun vs H Q E => vs.length = a ∧ ∃ W B rs, Ok K G W H B ∧ ArgsOk K W H rs vs ∧ ∃ o, f rs B = some o ∧ match o with
  | (.ok r, B') => ∀ W' H' v, Stp W H W' H' → Ok K G W' H' B' → RetOk K W H W' H' v r → Q v H'
  | (.ex c, B') => ∀ W' H', Stp W H W' H' → Ok K G W' H' B' → E (G.ca c) none H'
theorem lent_mine {r : R} (h : r.lent = true) : r.tag.mine = false := by
  obtain ⟨t, d⟩ := r
  cases t <;> first | rfl | cases h
theorem start_key {n : Nat} {rs : List R} {i : Nat} {q : R} (h : (start0 n rs)[i]? = some (some q)) : rs[i]? = some q := by
  unfold start0 at h
  by_cases hi : i < rs.length
  · rw [List.getElem?_append_left (by simpa using hi), List.getElem?_map, List.getElem?_eq_getElem hi] at h
    cases h
    exact List.getElem?_eq_getElem hi
  · rw [List.getElem?_append_right (by simpa using hi), List.getElem?_replicate] at h
    split at h <;> cases h
theorem start_slots {K : PySem.W.Frag} {W : Wd} {H : Hp} {N : List Str} {rs : List R} {vs : List V} (r : ArgsOk K W H rs vs) : Slots K W H (start N vs) (start0 N.length rs) := by
  have hl := r.len
  have mn : ∀ {i : Nat} {q : R}, (start0 N.length rs)[i]? = some (some q) → q.tag.mine = false := fun h => by
    obtain ⟨v, _, l, _⟩ := r.get (start_key h)
    exact lent_mine l
  refine ⟨?_, fun i q h => ?_, fun i k q q' x h1 h2 t1 t2 e1 e2 => ?_⟩
  · unfold L2.start start0
    simp only [List.length_append, List.length_map, List.length_replicate, hl]
  · obtain ⟨v, hv, _, rv⟩ := r.get (start_key h)
    refine ⟨v, ?_, rv⟩
    have hi : i < vs.length := by
      rw [hl]; exact (List.getElem?_eq_some_iff.mp (start_key h)).1
    unfold L2.start
    rw [List.getElem?_append_left (by simpa using hi), List.getElem?_map, hv]; rfl
  · rw [mn h1] at t1; cases t1
section
variable {P : Program} {w : World} {K : PySem.W.Frag} {mg : Str → Option Value} {base : Heap} {G : GE}
theorem fn_ok {x qual : Str} {st : Stmt} {f : Addr} {fd : FuncData} {N ps : List Str} {k : Nat} {body : FS} (F : Fun K x qual st f fd) (S : FnScope N ps (defScope st))
    (hb : ∀ (cdv : Value) (A : Around) (outer : List Env) (s : Shared) (H : Hp) (E : XK), Room k (A.deeper (envOfC qual (defScope st) s.heap.objs.size f cdv)) →
      PSsv G (fun c d _ H => E c d H) (cxOf (L2.CX P w) P w K mg base N qual (defScope st) f cdv A outer s H E) (defBody st) body) :
    FnOk P w K mg base (L2.CX P w) (k + 1) f fd ps (spF K G (fnF ps.length N.length body) ps.length) := by
  refine F.okX S (fun vs H Q E h => h.1) (fun cdv A outer s H vs Q E hr h => ?_)
  obtain ⟨hl, W, B, rs, o, r, out, e, q⟩ := h
  have sl : Slots K W H (L2.start N vs) (start0 N.length rs) := start_slots r
  refine ⟨_, (hb cdv A outer s H E hr).run, rdS_iff.mpr ⟨W, H, [], start0 N.length rs, B, W, ⟨o, sl, .refl _ _ _, fun i q v h t e' => ?_, fun i q v h t e' => ?_⟩, ?_⟩⟩
  · obtain ⟨_, _, l, _⟩ := r.get (start_key h)
    rw [lent_mine l] at t; cases t
  · obtain ⟨v', ev, k⟩ := sl.ok i q h
    rw [e'] at ev; cases ev
    obtain ⟨tg, d⟩ := q
    cases t
    obtain ⟨p, e, _, _, c⟩ := k
    exact ⟨p, e, c.there⟩
  · unfold fnF at e
    split at e
    · cases hbd : body (start0 N.length rs) B with
      | none => rw [hbd] at e; cases e
      | some z =>
        rw [hbd] at e
        refine ⟨z, rfl, ?_⟩
        obtain ⟨fl, B'⟩ := z
        cases fl with
        | ret rr => cases e; exact fun W' H' v st o' _ r' => q W' H' v st.stp o' r'
        | nx ρ' => cases e; exact fun W' H' σ' s' _ => q W' H' .non s'.st.stp s'.ok rfl
        | ex c ρ' => cases e; exact fun W' H' σ' s' _ => q W' H' s'.st.stp s'.ok
        | brk ρ' => cases e
        | cnt ρ' => cases e
    · cases e
/-- a def told by another function -/
theorem fn_eq {f : Addr} {fd : FuncData} {ps : List Str} {k : Nat} {F F' : FFn} {a : Nat} (h : FnOk P w K mg base (L2.CX P w) k f fd ps (spF K G F a)) (e : ∀ rs B o, F' rs B = some o → F rs B = some o) : FnOk P w K mg base (L2.CX P w) k f fd ps (spF K G F' a) :=
  h.imp fun vs H Q E ⟨hl, W, B, rs, o, r, out, eo, q⟩ => ⟨hl, W, B, rs, o, r, out, e _ _ _ eo, q⟩
end
/-! arguments of calls -/
abbrev FR := Rho → M (List R)
def RdR (K : PySem.W.Frag) (G : GE) (Wx : WX) (f : FR) : TA := fun σ H Q => ∃ ρ B W, Ok K G W H B ∧ Slots K W H σ ρ ∧ ∃ o, f ρ B = some o ∧ match o with
  | (.ok rs, B') => ∀ W' H' vs, Stp W H W' H' → Ok K G W' H' B' → ArgsOk K W' H' rs vs → Q vs H'
  | (.ex c, B') => ∀ W' H', Stp W H W' H' → Ok K G W' H' B' → Wx (G.ca c) none σ H'
structure PRv (G : GE) (Wx : WX) (X : Cx) (es : List Expr) (f : FR) : Prop where run : PA X es (RdR X.K G Wx f)
def fR0 : FR := fun _ B => some (.ok [], B)
def fRE (fe : FE) (fr : FR) : FR := fun ρ => mbind (fe ρ) fun d => mbind (fr ρ) fun rs => mret (⟨.shr, d⟩ :: rs)
def lend : R → Option R
  | ⟨.shr, d⟩ => some ⟨.shr, d⟩
  | ⟨.own, d⟩ => some ⟨.brw, d⟩
  | ⟨.brw, d⟩ => some ⟨.brw, d⟩
  | ⟨.lck, _⟩ => none
def fRV (i : Nat) (fr : FR) : FR := fun ρ => mbind (mlift (match ρ[i]? with | some (some r) => lend r | _ => none)) fun r => mbind (fr ρ) fun rs => mret (r :: rs)
theorem lend_ok {K : PySem.W.Frag} {W : Wd} {H : Hp} {v : V} {r q : R} (s : SlotOk K W H v r) (h : lend r = some q) : q.lent = true ∧ SlotOk K W H v q := by
  obtain ⟨t, d⟩ := r
  cases t <;> cases h <;> exact ⟨rfl, s⟩
section
variable {G : GE} {Wx : WX} {X : Cx} {e : Expr} {es : List Expr} {fe : FE} {fr : FR} {pos : Pos} {x : Str}
theorem prv_nil : PRv G Wx X [] fR0 := ⟨pa_weak pa_nil fun σ H Q ⟨ρ, B, W, o, s, out, e, q⟩ => by cases e; exact q W H [] (.refl W H) o rfl⟩
theorem prv_e (ha : PEv G Wx X e fe) (hr : PRv G Wx X es fr) (hs : starEach (e :: es) X.env = (false, eval e X.env) :: starEach es X.env := by rfl) : PRv G Wx X (e :: es) (fRE fe fr) :=
  ⟨pa_weak (pa_cons ha.run hr.run hs) fun σ H Q ⟨ρ, B, W, o, s, out, e, q⟩ => by
    rcases mbind_some e with ⟨d1, B1, e1, e'⟩ | ⟨c, B1, e1, rfl⟩
    · refine ⟨ρ, B, W, o, s, _, e1, fun W1 H1 v1 st1 o1 v1r => ?_⟩
      rcases mbind_some e' with ⟨d2, B2, e2, e''⟩ | ⟨c, B2, e2, rfl⟩
      · refine ⟨ρ, B1, W1, o1, s.step st1, _, e2, fun W2 H2 v2 st2 o2 v2r => ?_⟩
        cases e''
        exact q W2 H2 _ (st1.tr st2) o2 ⟨v1, v2, rfl, rfl, v1r.mono st2.le, v2r⟩
      · exact ⟨ρ, B1, W1, o1, s.step st1, _, e2, fun W' H' st o' => q W' H' (st1.tr st) o'⟩
    · exact ⟨ρ, B, W, o, s, _, e1, q⟩⟩
theorem prv_v (i : Nat) (hr : PRv G Wx X es fr) (hN : X.N[i]? = some x := by rfl) (hv : Vis X.env.scope x := by first | exact Or.inl rfl | exact Or.inr (Or.inl rfl) | exact Or.inr (Or.inr rfl)) (hd : (x == ("__debug__" : Str)) = false := by decide)
    (hcd : (x == ("__classdict__" : Str)) = false := by decide) (hs : starEach (.Name x pos :: es) X.env = (false, eval (.Name x pos) X.env) :: starEach es X.env := by rfl) : PRv G Wx X (.Name x pos :: es) (fRV i fr) :=
  ⟨pa_weak (pa_cons (pe_var hN hv hd hcd) hr.run hs) fun σ H Q ⟨ρ, B, W, o, s, out, e, q⟩ => by
    rcases mbind_some e with ⟨r, B1, e1, e'⟩ | ⟨c, B1, e1, rfl⟩
    · obtain ⟨r', hr', h⟩ := mlift_some e1
      cases h
      cases hρ : ρ[i]? with
      | none => rw [hρ] at hr'; cases hr'
      | some z =>
        cases z with
        | none => rw [hρ] at hr'; cases hr'
        | some z =>
          rw [hρ] at hr'
          have hr' : lend z = some r := hr'
          obtain ⟨v, hv, sv⟩ := s.ok i _ hρ
          obtain ⟨l1, sv'⟩ := lend_ok sv hr'
          refine ⟨v, hv, ?_⟩
          rcases mbind_some e' with ⟨d2, B2, e2, e''⟩ | ⟨c, B2, e2, rfl⟩
          · refine ⟨ρ, _, W, o, s, _, e2, fun W2 H2 v2 st2 o2 v2r => ?_⟩
            cases e''
            exact q W2 H2 _ st2 o2 ⟨v, v2, rfl, l1, sv'.step st2, v2r⟩
          · exact ⟨ρ, _, W, o, s, _, e2, q⟩
    · obtain ⟨r', hr', h⟩ := mlift_some e1
      cases h⟩
end
/-! calls -/
def callM (f : FFn) (rs : List R) : M D := fun B => match f rs B with
  | some (.ok r, B') => some (.ok r.d, B')
  | some (.ex c, B') => some (.ex c, B')
  | none => none
def callO (f : FFn) (rs : List R) : M D := fun B => match f rs B with
  | some (.ok ⟨.own, d⟩, B') => some (.ok d, B')
  | some (.ex c, B') => some (.ex c, B')
  | _ => none
def fCall (f : FFn) (fa : FR) : FE := fun ρ => mbind (fa ρ) fun rs => callM f rs
def fCallO (f : FFn) (fa : FR) : FE := fun ρ => mbind (fa ρ) fun rs => callO f rs
section
variable {G : GE} {Wx : WX} {X : Cx} {e : Expr} {es : List Expr} {fa : FR} {pos p : Pos} {x : Str} {k n : Nat} {f : Addr} {fd : FuncData} {ps : List Str} {ff : FFn}
theorem call_rd {σ : L2.St} {H : Hp} {Q : VK} {ρ : Rho} {B : Bk} {W : Wd} {out : Res D × Bk} (hn : ∀ rs B o, ff rs B = some o → rs.length = n) (o : Ok X.K G W H B) (s : Slots X.K W H σ ρ) (e : fCall ff fa ρ B = some out)
    (q : match out with
      | (.ok d, B') => ∀ W' H' v, Stp W H W' H' → Ok X.K G W' H' B' → Rep X.K W' d v → Q v H'
      | (.ex c, B') => ∀ W' H', Stp W H W' H' → Ok X.K G W' H' B' → Wx (G.ca c) none σ H') : tCallS (spF X.K G ff n) (WE Wx) (RdR X.K G Wx fa) σ H Q := by
  rcases mbind_some e with ⟨rs, B1, e1, e2⟩ | ⟨c, B1, e1, rfl⟩
  · refine ⟨ρ, B, W, o, s, _, e1, fun W1 H1 vs st1 o1 r1 => ?_⟩
    unfold callM at e2
    split at e2
    · rename_i r B' er
      cases e2
      refine ⟨by rw [r1.len]; exact hn _ _ _ er, W1, B1, rs, o1, r1, _, er, fun W' H' v st o' rr => ?_⟩
      obtain ⟨t, d⟩ := r
      cases t with
      | shr => exact q W' H' v (st1.tr st) o' rr
      | lck => exact q W' H' v (st1.tr st) o' rr
      | brw => exact q W' H' v (st1.tr st) o' rr
      | own =>
        obtain ⟨p, rfl, h0, hF, hw, c⟩ := rr
        obtain ⟨W2, s2, o2, _, r2⟩ := c.rep st o' h0 hF hw
        exact q W2 H' _ (st1.tr s2) o2 r2
    · rename_i c B' er
      cases e2
      exact ⟨by rw [r1.len]; exact hn _ _ _ er, W1, B1, rs, o1, r1, _, er, fun W' H' st o' => q W' H' (st1.tr st) o'⟩
    · cases e2
  · exact ⟨ρ, B, W, o, s, _, e1, q⟩
theorem callO_rd {σ : L2.St} {H : Hp} {Q : VK} {ρ : Rho} {B : Bk} {W : Wd} {out : Res D × Bk} (hn : ∀ rs B o, ff rs B = some o → rs.length = n) (o : Ok X.K G W H B) (s : Slots X.K W H σ ρ) (e : fCallO ff fa ρ B = some out)
    (q : match out with
      | (.ok d, B') => ∀ W' H' p, Stp W H W' H' → Ok X.K G W' H' B' → H p = none → W'.F p = none → W'.w p = none → CellOk X.K W' H' p d → Q (.ref p) H'
      | (.ex c, B') => ∀ W' H', Stp W H W' H' → Ok X.K G W' H' B' → Wx (G.ca c) none σ H') : tCallS (spF X.K G ff n) (WE Wx) (RdR X.K G Wx fa) σ H Q := by
  rcases mbind_some e with ⟨rs, B1, e1, e2⟩ | ⟨c, B1, e1, rfl⟩
  · refine ⟨ρ, B, W, o, s, _, e1, fun W1 H1 vs st1 o1 r1 => ?_⟩
    unfold callO at e2
    split at e2
    · rename_i d B' er
      cases e2
      refine ⟨by rw [r1.len]; exact hn _ _ _ er, W1, B1, rs, o1, r1, _, er, fun W' H' v st o' rr => ?_⟩
      obtain ⟨p, rfl, h0, hF, hw, c⟩ := rr
      exact q W' H' p (st1.tr st) o' (st1.fr h0) hF hw c
    · rename_i c B' er
      cases e2
      exact ⟨by rw [r1.len]; exact hn _ _ _ er, W1, B1, rs, o1, r1, _, er, fun W' H' st o' => q W' H' (st1.tr st) o'⟩
    · cases e2
  · exact ⟨ρ, B, W, o, s, _, e1, q⟩
variable (F : FnOk X.prog X.w X.K X.mg X.base (L2.CX X.prog X.w) k f fd ps (spF X.K G ff n)) (hn : ∀ rs B o, ff rs B = some o → rs.length = n) (hr : Room k X.A) (hm : X.mg x = some (.ref f)) (hk : PySem.W.keepIn X.K (.ref f) = true) (hb : Binds X.K fd ps []) (tk : Takes X Wx)
include F hn hr hm hk hb tk
theorem pev_call (ha : PRv G Wx X (e :: es) fa) (hg : Gl X x := by rfl) (hdb : (x == ("__debug__" : Str)) = false := by decide) (he : starEach (e :: es) X.env = (false, eval e X.env) :: starEach es X.env := by rfl) (hpl : (backTo pos (starEach es X.env)).any (·.1) = false := by rfl) :
    PEv G Wx X (.Call (.Name x p) (e :: es) [] pos) (fCall ff fa) := ⟨pe_weak (pe_callS F hr hg hm hk hb (passAt tk) ha.run hdb he hpl) fun σ H Q ⟨ρ, B, W, o, s, out, e, q⟩ => by
  obtain ⟨out, B'⟩ := out
  cases out with
  | ok d => exact call_rd hn o s e q
  | ex c => exact call_rd hn o s e q⟩
theorem pfv_call (ha : PRv G Wx X (e :: es) fa) (hg : Gl X x := by rfl) (hdb : (x == ("__debug__" : Str)) = false := by decide) (he : starEach (e :: es) X.env = (false, eval e X.env) :: starEach es X.env := by rfl) (hpl : (backTo pos (starEach es X.env)).any (·.1) = false := by rfl) :
    PFv G Wx X (.Call (.Name x p) (e :: es) [] pos) (fCallO ff fa) := ⟨pe_weak (pe_callS F hr hg hm hk hb (passAt tk) ha.run hdb he hpl) fun σ H Q ⟨ρ, B, W, o, s, out, e, q⟩ => by
  obtain ⟨out, B'⟩ := out
  cases out with
  | ok d => exact callO_rd hn o s e q
  | ex c => exact callO_rd hn o s e q⟩
end
theorem fnF_len {a n : Nat} {body : FS} : ∀ rs B o, fnF a n body rs B = some o → rs.length = a := fun rs B o h => by
  unfold fnF at h
  split at h
  · assumption
  · cases h
end Fmx

namespace Fmx
open PySem PySem.Spec PyProof.Rows L2

theorem vw1 {K : PySem.W.Frag} {W : Wd} {H : Hp} {d : D} {vs : List V} (r : Vws K W H [d] vs) : ∃ v, vs = [v] ∧ Vw K W H d v := by
  obtain ⟨v, q, e, a, b⟩ := r
  have b : q = [] := b
  subst e b
  exact ⟨v, rfl, a⟩
/-! ### len, int, abs, min, str, divmod -/
def lenD : D → Option Nat
  | .str x => if x.length ≤ sizeLine then some x.length else none
  | .lst xs => some xs.length
  | .tup xs => some xs.length
  | .dct ks => some ks.length
  | .scr ns => some ns.length
  | _ => none
def gLen : List D → Option D
  | [d] => (lenD d).map fun n => .int n
  | _ => none
def gInt : List D → Option D
  | [.int i] => some (.int i)
  | [.bl b] => some (.int (if b then 1 else 0))
  | _ => none
def gAbs : List D → Option D
  | [.int i] => some (.int (if i < 0 then -i else i))
  | _ => none
def gMin : List D → Option D
  | [.int i, .int j] => some (.int (if j < i then j else i))
  | _ => none
def gStrI : List D → Option D
  | [.int i] => if i.natAbs.log2 < 1920 then some (.str (toString i)) else none
  | _ => none
def gDivmod : List D → Option D
  | [.int i, .int j] => if cDiv i j then some (.tup [.int (i / j), .int (i % j)]) else none
  | _ => none
section
variable {K : PySem.W.Frag} {G : GE}
theorem callv_of_rep {r : List V → Hp → VK → Prop} {g : List D → Option D} (h : ∀ W H B ds vs d, Ok K G W H B → Vws K W H ds vs → g ds = some d → ∃ v, (∀ W, Rep K W d v) ∧ ∀ Q : VK, Q v H → r vs H Q) : CallV K G r g :=
  fun W H B ds vs d o h1 hg Q q => by
    obtain ⟨v, rv, k⟩ := h W H B ds vs d o h1 hg
    exact k Q (q W H v (.refl W H) o (rv W))
def rLenD : List V → Hp → VK → Prop := fun xs H Q => ∃ a kvs, xs = [V.ref a] ∧ Rd H a (.dK kvs) ∧ Q (.int kvs.length) H
theorem call_lenR {X : Cx} : CallR X (.builtin "len") rLenD := by
  intro pins s σ H xs us Q I r h
  obtain ⟨a, kvs, rfl, ha, q⟩ := h
  obtain ⟨u, rfl, ru⟩ := vals1 r
  cases ru
  exact d_len I ha fun t s' I' => ⟨.int kvs.length, H, I', ⟨t, rfl⟩, q⟩
theorem cv_len : CallV K G (fun xs H Q => (∃ x n, xs = [x] ∧ LenV K x H n ∧ Q (.int n) H) ∨ rLenD xs H Q) gLen := callv_of_rep fun W H B ds vs d o r hg => by
  unfold gLen at hg
  split at hg
  · rename_i d0
    obtain ⟨v, rfl, r'⟩ := vw1 r; clear r; have r := r'; clear r'
    cases hl : lenD d0 with
    | none => rw [hl] at hg; cases hg
    | some n =>
      rw [hl] at hg; cases hg
      refine ⟨.int n, fun _ => rfl, fun Q q => ?_⟩
      unfold lenD at hl
      split at hl
      · split at hl
        · rename_i hz
          cases hl; cases r
          exact .inl ⟨.str _, _, rfl, (⟨hz, rfl⟩ : _ ∧ _), q⟩
        · cases hl
      · cases hl
        obtain ⟨p, xs, rfl, rd, rk⟩ := r.lst o
        exact .inl ⟨.ref p, _, rfl, Or.inl ⟨xs, .inl (.inl rd), rk.len.symm⟩, q⟩
      · cases hl
        obtain ⟨p, xs, rfl, rd, rk⟩ := r.tup o
        exact .inl ⟨.ref p, _, rfl, Or.inr ⟨xs, rd, rk.len.symm⟩, q⟩
      · cases hl
        obtain ⟨p, xs, rfl, rd, rk⟩ := r.dct o
        exact .inr ⟨p, xs, rfl, rd, by rw [rk.len]; exact q⟩
      · cases hl
        obtain ⟨p, rfl, rd⟩ := r
        exact .inl ⟨.ref p, _, rfl, Or.inl ⟨_, o.sql rd, by rw [List.length_map]⟩, q⟩
      · cases hl
  · cases hg
theorem cv_int : CallV K G (fun xs H Q => (∃ i, xs = [.int i] ∧ Q (.int i) H) ∨ ∃ k, xs = [.bl k] ∧ Q (.int (if k then 1 else 0)) H) gInt := callv_of_rep fun W H B ds vs d o r hg => by
  unfold gInt at hg
  split at hg
  · cases hg; obtain ⟨v, rfl, r'⟩ := vw1 r; clear r; have r := r'; clear r'; cases r
    exact ⟨_, fun _ => rfl, fun Q q => .inl ⟨_, rfl, q⟩⟩
  · cases hg; obtain ⟨v, rfl, r'⟩ := vw1 r; clear r; have r := r'; clear r'; cases r
    exact ⟨_, fun _ => rfl, fun Q q => .inr ⟨_, rfl, q⟩⟩
  · cases hg
theorem cv_abs : CallV K G (fun xs H Q => ∃ i, xs = [.int i] ∧ Q (.int (if i < 0 then -i else i)) H) gAbs := callv_of_rep fun W H B ds vs d o r hg => by
  unfold gAbs at hg
  split at hg
  · cases hg; obtain ⟨v, rfl, r'⟩ := vw1 r; clear r; have r := r'; clear r'; cases r
    exact ⟨_, fun _ => rfl, fun Q q => ⟨_, rfl, q⟩⟩
  · cases hg
theorem cv_min : CallV K G (fun xs H Q => ∃ i j, xs = [.int i, .int j] ∧ Q (.int (if j < i then j else i)) H) gMin := callv_of_rep fun W H B ds vs d o r hg => by
  unfold gMin at hg
  split at hg
  · cases hg; cases vws2 r
    exact ⟨_, fun _ => rfl, fun Q q => ⟨_, _, rfl, q⟩⟩
  · cases hg
theorem cv_strI : CallV K G (fun xs H Q => ∃ i, xs = [.int i] ∧ i.natAbs.log2 < 1920 ∧ Q (.str (toString i)) H) gStrI := callv_of_rep fun W H B ds vs d o r hg => by
  unfold gStrI at hg
  split at hg
  · split at hg
    · rename_i hz
      cases hg; obtain ⟨v, rfl, r'⟩ := vw1 r; clear r; have r := r'; clear r'; cases r
      exact ⟨_, fun _ => rfl, fun Q q => ⟨_, rfl, hz, q⟩⟩
    · cases hg
  · cases hg
theorem cv_divmod : CallV K G (fun xs H Q => ∃ i j, xs = [.int i, .int j] ∧ CDiv i j ∧ ∀ p, H p = none → Q (.ref p) (upd H p (.tup [.int (i / j), .int (i % j)]))) gDivmod := fun W H B ds vs d o r hg Q q => by
  unfold gDivmod at hg
  split at hg
  · split at hg
    · rename_i i j hz
      cases hg; cases vws2 r
      have hz : 0 < j ∧ j < 1073741824 := cd_of hz
      refine ⟨_, _, rfl, ⟨by omega, by omega⟩, tup_q o (ds := [.int (i / j), .int (i % j)]) ⟨_, _, rfl, rfl, _, _, rfl, rfl, rfl⟩ q⟩
    · cases hg
  · cases hg
end

/-! ### isinstance, of the built-in types -/
def tyD : D → Option String
  | .non => some "NoneType"
  | .bl _ => some "bool"
  | .int _ => some "int"
  | .str _ => some "str"
  | .lst _ => some "list"
  | .tup _ => some "tuple"
  | .dct _ => some "dict"
  | _ => none
def isiD (T : String) (d : D) : Option D := (tyD d).map fun n => .bl (n == T || (n == "bool" && T == "int"))
def goodTy (T : String) : Bool := ["bool", "int", "str", "list", "tuple", "dict"].contains T
theorem kit_tys : ∀ n ∈ ["NoneType", "bool", "int", "str", "list", "tuple", "dict"], ∀ T ∈ ["bool", "int", "str", "list", "tuple", "dict"], kitB n T = some (n == T || (n == "bool" && T == "int")) := by decide +kernel
theorem tyD_mem {d : D} {n : String} (h : tyD d = some n) : n ∈ ["NoneType", "bool", "int", "str", "list", "tuple", "dict"] := by
  cases d <;> cases h <;> simp
theorem tyD_tyx {K : PySem.W.Frag} {G : GE} {W : Wd} {H : Hp} {B : Bk} {d : D} {v : V} {n : String} (o : Ok K G W H B) (r : Vw K W H d v) (h : tyD d = some n) : TyX K H v (.type n) := by
  cases d with
  | non => cases h; cases r; exact .base .non
  | bl b => cases h; cases r; exact .base (.bl b)
  | int b => cases h; cases r; exact .base (.int b)
  | str b => cases h; cases r; exact .base (.str b)
  | lst xs => cases h; obtain ⟨p, xs, rfl, rd, rk⟩ := r.lst o; exact .base (.lst rd)
  | tup xs =>
    cases h; obtain ⟨p, xs, rfl, rd, rk⟩ := r.tup o
    rcases rd with (h | ⟨q, h⟩) | ⟨oo, its, n, h, c, _⟩
    · exact .base (.tup h)
    · exact .fTuple h
    · exact .kTuple h c
  | dct xs =>
    cases h; obtain ⟨p, xs, rfl, rd, rk⟩ := r.dct o
    rcases rd with h | ⟨q, h⟩
    · exact .base (.dK h)
    · exact .fDict h
  | _ => cases h
section
variable {G : GE} {Wx : WX} {X : Cx} {e a b c : Expr} {f fa fb fc : FE} {pos p p2 : Pos} {es : List Expr} {fs : FA} {T : Str}
theorem pev_isi (tn : String) (hm : X.mg "isinstance" = none) (hmT : X.mg T = none) (ha : PVv G Wx X a fa) (hv : bootBuiltins T = some (.type tn) := by rfl) (ht : goodTy tn = true := by decide) (hg : Gl X "isinstance" := by rfl) (hgT : Gl X T := by rfl) (hn : T ≠ "__name__" := by decide)
    (hdT : (T == ("__debug__" : Str)) = false := by decide) (he : starEach [a, .Name T p2] X.env = (false, eval a X.env) :: starEach [.Name T p2] X.env := by rfl) (he2 : starEach [.Name T p2] X.env = (false, eval (.Name T p2) X.env) :: starEach [] X.env := by rfl)
    (hpl : (backTo pos (starEach [.Name T p2] X.env)).any (·.1) = false := by rfl) : PEv G Wx X (.Call (.Name "isinstance" p) [a, .Name T p2] [] pos) (fUn (isiD tn) fa) :=
  ⟨pe_weak (pe_callB call_isi hg hm rfl (pa_cons ha.run (pa_cons (pe_bltn (v := .ty tn) (u := .type tn) hgT hmT hv rfl hn hdT) pa_nil he2) he) (he := he) (hpl := hpl)) fun σ H Q ⟨ρ, B, W, o, s, out, e, q⟩ => by
    rcases mbind_some e with ⟨d1, B1, e1, e'⟩ | ⟨c, B1, e1, rfl⟩
    · refine ⟨ρ, B, W, o, s, _, e1, fun W1 H1 v1 st1 o1 v1r => ?_⟩
      obtain ⟨d, hd, rfl⟩ := mlift_some e'
      unfold isiD at hd
      cases hn : tyD d1 with
      | none => rw [hn] at hd; cases hd
      | some n =>
        rw [hn] at hd; cases hd
        have ht : tn ∈ ["bool", "int", "str", "list", "tuple", "dict"] := List.contains_iff_mem.mp ht
        exact ⟨v1, .ty tn, .type n, .type tn, _, rfl, .ty tn, tyD_tyx o1 v1r hn, kit_ty (kit_tys n (tyD_mem hn) tn ht), q W1 H1 _ st1 o1 rfl⟩
    · exact ⟨ρ, B, W, o, s, _, e1, q⟩⟩
/-! ### calls of a list -/
def blsD : List D → Option (List Bool)
  | [] => some []
  | .bl b :: r => (blsD r).map (b :: ·)
  | _ => none
def strsD : List D → Option (List Str)
  | [] => some []
  | .str b :: r => (strsD r).map (b :: ·)
  | _ => none
def intsD : List D → Option (List Int)
  | [] => some []
  | .int b :: r => (intsD r).map (b :: ·)
  | _ => none
end
theorem blsD_eq : ∀ {ds : List D} {bs : List Bool}, blsD ds = some bs → ds = bs.map .bl
  | [], _, h => by cases h; rfl
  | d :: r, _, h => by
    cases d with
    | bl b =>
      unfold blsD at h
      cases q : blsD r with
      | none => rw [q] at h; cases h
      | some z => rw [q] at h; cases h; rw [blsD_eq q]; rfl
    | _ => cases h
theorem strsD_eq : ∀ {ds : List D} {bs : List Str}, strsD ds = some bs → ds = bs.map .str
  | [], _, h => by cases h; rfl
  | d :: r, _, h => by
    cases d with
    | str b =>
      unfold strsD at h
      cases q : strsD r with
      | none => rw [q] at h; cases h
      | some z => rw [q] at h; cases h; rw [strsD_eq q]; rfl
    | _ => cases h
theorem intsD_eq : ∀ {ds : List D} {bs : List Int}, intsD ds = some bs → ds = bs.map .int
  | [], _, h => by cases h; rfl
  | d :: r, _, h => by
    cases d with
    | int b =>
      unfold intsD at h
      cases q : intsD r with
      | none => rw [q] at h; cases h
      | some z => rw [q] at h; cases h; rw [intsD_eq q]; rfl
    | _ => cases h
@[simp] theorem blsD_map (bs : List Bool) : blsD (bs.map .bl) = some bs := by
  induction bs with
  | nil => rfl
  | cons b r ih => show (blsD (r.map .bl)).map _ = _; rw [ih]; rfl
@[simp] theorem strsD_map (bs : List Str) : strsD (bs.map .str) = some bs := by
  induction bs with
  | nil => rfl
  | cons b r ih => show (strsD (r.map .str)).map _ = _; rw [ih]; rfl
@[simp] theorem intsD_map (bs : List Int) : intsD (bs.map .int) = some bs := by
  induction bs with
  | nil => rfl
  | cons b r ih => show (intsD (r.map .int)).map _ = _; rw [ih]; rfl
def gAll : List D → Option D
  | [.lst xs] => (blsD xs).map fun bs => .bl (bs.all id)
  | _ => none
def gTupOf : List D → Option D
  | [.lst xs] => some (.tup xs)
  | _ => none
def gListOf : List D → Option D
  | [.lst xs] => some (.lst xs)
  | [.tup xs] => some (.lst xs)
  | [.dct ks] => some (.lst (ks.map fun p => dKey p.1))
  | _ => none
def gDictOf : List D → Option D
  | [.dct ks] => some (.dct ks)
  | _ => none
/-- a sorting -/
def insS (x : Str) : List Str → List Str
  | [] => [x]
  | y :: r => if ltCps y.cps.toList x.cps.toList then y :: insS x r else x :: y :: r
def sortS : List Str → List Str
  | [] => []
  | x :: r => insS x (sortS r)
theorem insS_perm (x : Str) : ∀ l : List Str, (insS x l).Perm (x :: l)
  | [] => .refl _
  | y :: r => by
    unfold insS
    split
    · exact ((insS_perm x r).cons y).trans (.swap x y r)
    · exact .refl _
theorem sortS_perm : ∀ l : List Str, (sortS l).Perm l
  | [] => .refl _
  | x :: r => (insS_perm x (sortS r)).trans ((sortS_perm r).cons x)
theorem ltCps_irr : ∀ a : List Nat, ltCps a a = false
  | [] => rfl
  | x :: r => by unfold ltCps; simp [ltCps_irr r]
theorem ltCps_anti : ∀ {a b : List Nat}, ltCps a b = false → ltCps b a = false → a = b
  | [], [], _, _ => rfl
  | [], _ :: _, h, _ => by simp [ltCps] at h
  | _ :: _, [], _, h => by simp [ltCps] at h
  | x :: a, y :: b, h1, h2 => by
    unfold ltCps at h1 h2
    simp at h1 h2
    have e : x = y := by omega
    subst e
    simp at h1 h2
    rw [ltCps_anti h1 h2]
theorem ltCps_tr : ∀ {a b c : List Nat}, ltCps a b = true → ltCps b c = true → ltCps a c = true
  | [], [], _, h, _ => by simp [ltCps] at h
  | [], _ :: _, [], _, h => by simp [ltCps] at h
  | [], _ :: _, _ :: _, _, _ => by simp [ltCps]
  | _ :: _, [], _, h, _ => by simp [ltCps] at h
  | _ :: _, _ :: _, [], _, h => by simp [ltCps] at h
  | x :: a, y :: b, z :: c, h1, h2 => by
    unfold ltCps at h1 h2 ⊢
    simp at h1 h2 ⊢
    rcases h1 with h1 | ⟨h1, k1⟩
    · rcases h2 with h2 | ⟨h2, k2⟩
      · exact .inl (by omega)
      · exact .inl (by omega)
    · rcases h2 with h2 | ⟨h2, k2⟩
      · exact .inl (by omega)
      · exact .inr ⟨by omega, ltCps_tr k1 k2⟩
theorem ltCps_asym {a b : List Nat} (h : ltCps a b = true) : ltCps b a = false := by
  cases q : ltCps b a with
  | false => rfl
  | true => have := ltCps_tr h q; rw [ltCps_irr] at this; cases this
/-- a ≤ b -/
abbrev leS (a b : Str) : Prop := ltCps b.cps.toList a.cps.toList = false
theorem leS_tr {a b c : Str} (h1 : leS a b) (h2 : leS b c) : leS a c := by
  unfold leS at *
  cases q : ltCps c.cps.toList a.cps.toList with
  | false => rfl
  | true =>
    cases p : ltCps b.cps.toList c.cps.toList with
    | true => have := ltCps_tr p q; rw [h1] at this; cases this
    | false =>
      have e : b.cps.toList = c.cps.toList := ltCps_anti p h2
      rw [e] at h1; rw [h1] at q; cases q
theorem sortedS_pw : ∀ {l : List Str}, sortedS l = true → l.Pairwise leS
  | [], _ => .nil
  | [x], _ => List.pairwise_singleton ..
  | x :: y :: r, h => by
    have h : (!ltCps y.cps.toList x.cps.toList && risingS y r) = true := h
    rw [Bool.and_eq_true] at h
    have h1 : ltCps y.cps.toList x.cps.toList = false := by simpa using h.1
    have pw := sortedS_pw (l := y :: r) h.2
    refine .cons (fun z hz => ?_) pw
    rcases List.mem_cons.mp hz with rfl | hz
    · exact h1
    · exact leS_tr h1 (List.rel_of_pairwise_cons pw hz)
theorem insS_pw {x : Str} : ∀ {l : List Str}, l.Pairwise leS → (insS x l).Pairwise leS
  | [], _ => List.pairwise_singleton ..
  | y :: r, h => by
    unfold insS
    split
    · rename_i hl
      refine .cons (fun z hz => ?_) (insS_pw (List.Pairwise.of_cons h))
      rcases List.mem_cons.mp ((insS_perm x r).mem_iff.mp hz) with rfl | hz
      · exact ltCps_asym hl
      · exact List.rel_of_pairwise_cons h hz
    · rename_i hl
      have hl : ltCps y.cps.toList x.cps.toList = false := by simpa using hl
      refine .cons (fun z hz => ?_) h
      rcases List.mem_cons.mp hz with rfl | hz
      · exact hl
      · exact leS_tr hl (List.rel_of_pairwise_cons h hz)
theorem sortS_pw : ∀ l : List Str, (sortS l).Pairwise leS
  | [] => .nil
  | _ :: r => insS_pw (sortS_pw r)
theorem leS_anti {a b : Str} (h1 : leS a b) (h2 : leS b a) : a = b := by
  obtain ⟨a⟩ := a
  obtain ⟨b⟩ := b
  have e := ltCps_anti h2 h1
  congr 1
  exact Array.toList_inj.mp e
theorem sort_unique {ys xs : List Str} (p : ys.Perm xs) (h : sortedS ys = true) : ys = sortS xs :=
  List.Perm.eq_of_pairwise (le := leS) (fun a b _ _ h1 h2 => leS_anti h1 h2) (sortedS_pw h) (sortS_pw xs) (p.trans (sortS_perm xs).symm)
def strKeys : List (Key × D) → Option (List Str)
  | [] => some []
  | (.inr x, _) :: r => (strKeys r).map (x :: ·)
  | _ => none
theorem strKeys_eq : ∀ {ks : List (Key × D)} {xs : List Str}, strKeys ks = some xs → ks.map (·.1) = xs.map Sum.inr
  | [], _, h => by cases h; rfl
  | (k, d) :: r, _, h => by
    cases k with
    | inl i => cases h
    | inr x =>
      unfold strKeys at h
      cases q : strKeys r with
      | none => rw [q] at h; cases h
      | some z => rw [q] at h; cases h; rw [List.map_cons, strKeys_eq q]; rfl
def gSorted : List D → Option D
  | [.lst xs] => (strsD xs).bind fun ss => if ss.length < 64 then some (.lst ((sortS ss).map .str)) else none
  | [.dct ks] => (strKeys ks).bind fun ss => if ss.length < 64 then some (.lst ((sortS ss).map .str)) else none
  | _ => none
def gJoin (a : Str) : List D → Option D
  | [.lst xs] => (strsD xs).bind fun ss => if (ss.map (·.length)).sum + ss.length * a.length ≤ 16777216 then some (.str (Txt.join a ss)) else none
  | _ => none
def strOf : D → Option Str
  | .str x => some x
  | _ => none
section
variable {K : PySem.W.Frag} {G : GE}
theorem cv_all : CallV K G (rAll K) gAll := callv_of_rep fun W H B ds vs d o r hg => by
  unfold gAll at hg
  split at hg
  · rename_i xs
    obtain ⟨v, rfl, r'⟩ := vw1 r; clear r; have r := r'; clear r'
    obtain ⟨p, ys, rfl, rd, rk⟩ := r.lst o
    cases q : blsD xs with
    | none => rw [q] at hg; cases hg
    | some bs =>
      rw [q] at hg; cases hg
      have := blsD_eq q; subst this
      have := rk.bls; subst this
      exact ⟨_, fun _ => rfl, fun Q q => ⟨p, bs, rfl, .inl (.inl rd), q⟩⟩
  · cases hg
theorem cv_tupOf : CallV K G (fun xs H Q => ∃ p ys, xs = [.ref p] ∧ ((SqL K H p ys ∧ ∀ l, H l = none → Q (.ref l) (upd H l (.tup ys))) ∨ (SqT K H p ys ∧ Q (.ref p) H))) gTupOf := fun W H B ds vs d o r hg Q q => by
  unfold gTupOf at hg
  split at hg
  · cases hg
    obtain ⟨v, rfl, r'⟩ := vw1 r; clear r; have r := r'; clear r'
    obtain ⟨p, ys, rfl, rd, rk⟩ := r.lst o
    exact ⟨p, ys, rfl, .inl ⟨.inl (.inl rd), tup_q o rk q⟩⟩
  · cases hg
theorem RepK.keyReps {W : Wd} : ∀ {ks : List (Key × D)} {kvs : List (Key × V)}, RepK K W ks kvs → Reps K W (ks.map fun p => dKey p.1) (kvs.map fun kv => kV kv.1)
  | [], _, r => by have r : _ = [] := r; subst r; exact rfl
  | (k, d) :: _, _, ⟨v, r, e, a, b⟩ => by subst e; exact ⟨kV k, _, rfl, kV_rep k, b.keyReps⟩
theorem cf_listOf : CallF K G (fun xs H Q => (∃ p ys, xs = [.ref p] ∧ (SqL K H p ys ∨ SqT K H p ys) ∧ ∀ l, H l = none → Q (.ref l) (upd H l (.lst ys))) ∨ ∃ (a : Addr) (kvs : List (Key × V)), xs = [.ref a] ∧ Rd H a (.dK kvs) ∧ ∀ p, H p = none → Q (.ref p) (upd H p (.lst (kvs.map fun kv => kV kv.1)))) gListOf := fun W H B ds vs d o r hg Q q => by
  unfold gListOf at hg
  split at hg
  · cases hg
    obtain ⟨v, rfl, r'⟩ := vw1 r; clear r; have r := r'; clear r'
    obtain ⟨p, ys, rfl, rd, rk⟩ := r.lst o
    exact .inl ⟨p, ys, rfl, .inl (.inl (.inl rd)), lst_q o rk q⟩
  · cases hg
    obtain ⟨v, rfl, r'⟩ := vw1 r; clear r; have r := r'; clear r'
    obtain ⟨p, ys, rfl, rd, rk⟩ := r.tup o
    exact .inl ⟨p, ys, rfl, .inr rd, lst_q o rk q⟩
  · cases hg
    obtain ⟨v, rfl, r'⟩ := vw1 r; clear r; have r := r'; clear r'
    obtain ⟨p, ys, rfl, rd, rk⟩ := r.dct o
    exact .inr ⟨p, ys, rfl, rd, lst_q o rk.keyReps q⟩
  · cases hg
theorem cf_dictOf : CallF K G (fun xs H Q => ∃ (a : Addr) (kvs : List (Key × V)), xs = [.ref a] ∧ Rd H a (.dK kvs) ∧ ∀ p, H p = none → Q (.ref p) (upd H p (.dK kvs))) gDictOf := fun W H B ds vs d o r hg Q q => by
  unfold gDictOf at hg
  split at hg
  · cases hg
    obtain ⟨v, rfl, r'⟩ := vw1 r; clear r; have r := r'; clear r'
    obtain ⟨p, ys, rfl, rd, rk⟩ := r.dct o
    exact ⟨p, ys, rfl, rd, dct_q o rk q⟩
  · cases hg
def rSrtD : List V → Hp → VK → Prop := fun xs H Q => ∃ (a : Addr) (kvs : List (Key × V)) (ks : List Str), xs = [.ref a] ∧ Rd H a (.dK kvs) ∧ kvs.map (·.1) = ks.map Sum.inr ∧ ks.length < 64 ∧
    ∀ ys p, ys.Perm ks → sortedS ys = true → H p = none → Q (.ref p) (upd H p (.lst (ys.map V.str)))
theorem cf_sorted : CallF K G (fun xs H Q => rSortedS K xs H Q ∨ rSrtD xs H Q) gSorted := fun W H B ds vs d o r hg Q q => by
  unfold gSorted at hg
  split at hg
  · rename_i xs
    cases hs : strsD xs with
    | none => rw [hs] at hg; cases hg
    | some ss =>
      rw [hs] at hg
      have hg : (if ss.length < 64 then some (D.lst ((sortS ss).map .str)) else none) = some d := hg
      split at hg
      · rename_i hl
        cases hg
        obtain ⟨v, rfl, r'⟩ := vw1 r; clear r; have r := r'; clear r'
        obtain ⟨p, ys, rfl, rd, rk⟩ := r.lst o
        have := strsD_eq hs; subst this
        have := rk.strs; subst this
        refine .inl ⟨p, ss, rfl, .inl (.inl rd), hl, fun ys l hp hso hl => ?_⟩
        rw [sort_unique hp hso]
        exact lst_q o (Reps.ofStrs _) q l hl
      · cases hg
  · rename_i ks
    cases hs : strKeys ks with
    | none => rw [hs] at hg; cases hg
    | some ss =>
      rw [hs] at hg
      have hg : (if ss.length < 64 then some (D.lst ((sortS ss).map .str)) else none) = some d := hg
      split at hg
      · rename_i hl
        cases hg
        obtain ⟨v, rfl, r'⟩ := vw1 r; clear r; have r := r'; clear r'
        obtain ⟨p, ys, rfl, rd, rk⟩ := r.dct o
        refine .inr ⟨p, ys, ss, rfl, rd, by rw [rk.keys]; exact strKeys_eq hs, hl, fun ys l hp hso hl => ?_⟩
        rw [sort_unique hp hso]
        exact lst_q o (Reps.ofStrs _) q l hl
      · cases hg
  · cases hg
end
section
variable {G : GE} {Wx : WX} {X : Cx} {e a b c : Expr} {f fa fb fc : FE} {pos p ap : Pos} {es : List Expr} {fs : FA}
/-- a built-in's call told by a reading -/
theorem pev_len (hm : X.mg "len" = none) (ha : PVAv G Wx X [a] fs) (hg : Gl X "len" := by rfl) (he : starEach [a] X.env = (false, eval a X.env) :: starEach [] X.env := by rfl) (hpl : (backTo pos (starEach [] X.env)).any (·.1) = false := by rfl) :
    PEv G Wx X (.Call (.Name "len" p) [a] [] pos) (fFn gLen fs) := pev_cb (fun h => pe_callB (call_len.or call_lenR) hg hm rfl h (he := he) (hpl := hpl)) cv_len ha
theorem pev_intOf (hm : X.mg "int" = none) (ha : PVAv G Wx X [a] fs) (hg : Gl X "int" := by rfl) (he : starEach [a] X.env = (false, eval a X.env) :: starEach [] X.env := by rfl) (hpl : (backTo pos (starEach [] X.env)).any (·.1) = false := by rfl) :
    PEv G Wx X (.Call (.Name "int" p) [a] [] pos) (fFn gInt fs) := pev_cb (fun h => pe_callTy call_int1 hg hm rfl h (he := he) (hpl := hpl)) cv_int ha
theorem pev_abs (hm : X.mg "abs" = none) (ha : PVAv G Wx X [a] fs) (hg : Gl X "abs" := by rfl) (he : starEach [a] X.env = (false, eval a X.env) :: starEach [] X.env := by rfl) (hpl : (backTo pos (starEach [] X.env)).any (·.1) = false := by rfl) :
    PEv G Wx X (.Call (.Name "abs" p) [a] [] pos) (fFn gAbs fs) := pev_cb (fun h => pe_callB call_abs hg hm rfl h (he := he) (hpl := hpl)) cv_abs ha
theorem pev_strI (hm : X.mg "str" = none) (ha : PVAv G Wx X [a] fs) (hg : Gl X "str" := by rfl) (he : starEach [a] X.env = (false, eval a X.env) :: starEach [] X.env := by rfl) (hpl : (backTo pos (starEach [] X.env)).any (·.1) = false := by rfl) :
    PEv G Wx X (.Call (.Name "str" p) [a] [] pos) (fFn gStrI fs) := pev_cb (fun h => pe_callTy call_str_int hg hm rfl h (he := he) (hpl := hpl)) cv_strI ha
theorem pev_min (hc : X.calm = true) (hm : X.mg "min" = none) (ha : PVAv G Wx X [a, b] fs) (hg : Gl X "min" := by rfl) (he : starEach [a, b] X.env = (false, eval a X.env) :: starEach [b] X.env := by rfl) (hpl : (backTo pos (starEach [b] X.env)).any (·.1) = false := by rfl) :
    PEv G Wx X (.Call (.Name "min" p) [a, b] [] pos) (fFn gMin fs) := pev_cb (fun h => pe_callB (call_min2 hc) hg hm rfl h (he := he) (hpl := hpl)) cv_min ha
theorem pev_divmod (hm : X.mg "divmod" = none) (ha : PVAv G Wx X [a, b] fs) (hg : Gl X "divmod" := by rfl) (he : starEach [a, b] X.env = (false, eval a X.env) :: starEach [b] X.env := by rfl) (hpl : (backTo pos (starEach [b] X.env)).any (·.1) = false := by rfl) :
    PEv G Wx X (.Call (.Name "divmod" p) [a, b] [] pos) (fFn gDivmod fs) := pev_cb (fun h => pe_callB call_divmod hg hm rfl h (he := he) (hpl := hpl)) cv_divmod ha
theorem pev_all (hc : X.calm = true) (hm : X.mg "all" = none) (ha : PVAv G Wx X [a] fs) (hg : Gl X "all" := by rfl) (he : starEach [a] X.env = (false, eval a X.env) :: starEach [] X.env := by rfl) (hpl : (backTo pos (starEach [] X.env)).any (·.1) = false := by rfl) :
    PEv G Wx X (.Call (.Name "all" p) [a] [] pos) (fFn gAll fs) := pev_cb (fun h => pe_callB (cr_all hc) hg hm rfl h (he := he) (hpl := hpl)) cv_all ha
theorem pev_tupOf (hm : X.mg "tuple" = none) (ha : PVAv G Wx X [a] fs) (hg : Gl X "tuple" := by rfl) (he : starEach [a] X.env = (false, eval a X.env) :: starEach [] X.env := by rfl) (hpl : (backTo pos (starEach [] X.env)).any (·.1) = false := by rfl) :
    PEv G Wx X (.Call (.Name "tuple" p) [a] [] pos) (fFn gTupOf fs) := pev_cb (fun h => pe_callTy call_tuple_of hg hm rfl h (he := he) (hpl := hpl)) cv_tupOf ha
theorem pfv_listOf (hc : X.calm = true) (hm : X.mg "list" = none) (ha : PVAv G Wx X [a] fs) (hg : Gl X "list" := by rfl) (he : starEach [a] X.env = (false, eval a X.env) :: starEach [] X.env := by rfl) (hpl : (backTo pos (starEach [] X.env)).any (·.1) = false := by rfl) :
    PFv G Wx X (.Call (.Name "list" p) [a] [] pos) (fFn gListOf fs) := pfv_cb (fun h => pe_callTy (call_list_of.or (call_listD hc)) hg hm rfl h (he := he) (hpl := hpl)) cf_listOf ha
theorem pfv_dictOf (hm : X.mg "dict" = none) (ha : PVAv G Wx X [a] fs) (hg : Gl X "dict" := by rfl) (he : starEach [a] X.env = (false, eval a X.env) :: starEach [] X.env := by rfl) (hpl : (backTo pos (starEach [] X.env)).any (·.1) = false := by rfl) :
    PFv G Wx X (.Call (.Name "dict" p) [a] [] pos) (fFn gDictOf fs) := pfv_cb (fun h => pe_callTy call_dictD hg hm rfl h (he := he) (hpl := hpl)) cf_dictOf ha
theorem pfv_sorted (hc : X.calm = true) (hm : X.mg "sorted" = none) (ha : PVAv G Wx X [a] fs) (hg : Gl X "sorted" := by rfl) (he : starEach [a] X.env = (false, eval a X.env) :: starEach [] X.env := by rfl) (hpl : (backTo pos (starEach [] X.env)).any (·.1) = false := by rfl) :
    PFv G Wx X (.Call (.Name "sorted" p) [a] [] pos) (fFn gSorted fs) := pfv_cb (fun h => pe_callB (cr_sortedS.or (call_sortedD hc)) hg hm rfl h (he := he) (hpl := hpl)) cf_sorted ha
/-- sep.join(xs) -/
def fJoin (fo : FE) (fs : FA) : FE := fun ρ => mbind (fo ρ) fun x => mbind (mlift (strOf x)) fun a => mbind (fs ρ) fun ds => mlift (gJoin a ds)
theorem pev_join (ho : PEv G Wx X a fa) (ha : PVAv G Wx X [b] fs)
    (hbase : attributeBase a "join" X.env (eval a X.env) = eval a X.env := by rfl)
    (hfew : ((backTo pos (starEach [b] X.env)).all (fun x => !x.1) && (backToKw pos (keywordEach [] X.env)).all (fun x => x.1.isSome)
      && decide (([b] : List Expr).length + ([] : List Keyword).length + (if ([] : List Keyword).isEmpty then 0 else 1) < 30)) = true := by rfl)
    (hline : (ap.endLine == pos.line) = true := by rfl) (hs : starEach [b] X.env = (false, eval b X.env) :: starEach [] X.env := by rfl) (hplain : (backTo pos (starEach [] X.env)).any (·.1) = false := by rfl) :
    PEv G Wx X (.Call (.Attribute a "join" ap) [b] [] pos) (fJoin fa fs) :=
  ⟨pe_weak (pe_bm F.plainAttrs_str F.slot_str_join F.type_str_join mt_join ho.run ha.run hbase hfew hline hs hplain) fun σ H Q ⟨ρ, B, W, o, s, out, e, q⟩ => by
    rcases mbind_some e with ⟨d1, B1, e1, e'⟩ | ⟨c, B1, e1, rfl⟩
    · refine ⟨ρ, B, W, o, s, _, e1, fun W1 H1 v1 st1 o1 v1r => ?_⟩
      rcases mbind_some e' with ⟨a', B2, e2, e''⟩ | ⟨c, B2, e2, h⟩
      · obtain ⟨a2, ha2, h⟩ := mlift_some e2
        cases h
        cases d1 with
        | str x =>
          have ha2 : some x = some a' := ha2
          injection ha2 with ha2
          subst ha2
          cases v1r
          refine ⟨rfl, ?_⟩
          rcases mbind_some e'' with ⟨ds, B3, e3, e4⟩ | ⟨c, B3, e3, rfl⟩
          · refine ⟨ρ, _, W1, o1, s.step st1, _, e3, fun W2 H2 vs st2 o2 r2 => ?_⟩
            obtain ⟨d, hd, rfl⟩ := mlift_some e4
            unfold gJoin at hd
            split at hd
            · rename_i xs
              obtain ⟨v, rfl, r⟩ := vw1 r2
              obtain ⟨p, ys, rfl, rd, rk⟩ := r.lst o2
              cases hq : strsD xs with
              | none => rw [hq] at hd; cases hd
              | some ss =>
                rw [hq] at hd
                have hd : (if (ss.map (·.length)).sum + ss.length * x.length ≤ 16777216 then some (D.str (Txt.join x ss)) else none) = some d := hd
                split at hd
                · rename_i hl
                  cases hd
                  have := strsD_eq hq; subst this
                  have := rk.strs; subst this
                  exact ⟨x, p, ss, rfl, rfl, .inl (.inl (.inl rd)), hl, q W2 H2 _ (st1.tr st2) o2 rfl⟩
                · cases hd
            · cases hd
          · exact ⟨ρ, _, W1, o1, s.step st1, _, e3, fun W' H' st o' => q W' H' (st1.tr st) o'⟩
        | _ => cases ha2
      · obtain ⟨a2, ha2, h2⟩ := mlift_some e2
        cases h2
    · exact ⟨ρ, B, W, o, s, _, e1, q⟩⟩
end
end Fmx

namespace Fmx
open PySem PySem.Spec PyProof.Rows L2

/-! ### dict displays -/
def mergeD (ks ls : List (Key × D)) : List (Key × D) := ls.foldl (fun acc p => kput acc p.1 p.2) ks
theorem RepK.merge {K : PySem.W.Frag} {W : Wd} : ∀ {ls : List (Key × D)} {lvs : List (Key × V)} {ks : List (Key × D)} {kvs : List (Key × V)}, RepK K W ls lvs → RepK K W ks kvs → RepK K W (mergeD ks ls) (mergeK kvs lvs)
  | [], _, _, _, r, s => by have r : _ = [] := r; subst r; exact s
  | (k, d) :: ls, _, ks, kvs, ⟨v, r, e, a, b⟩, s => by
    subst e
    show RepK K W (mergeD (kput ks k d) ls) (mergeK (putK kvs k v) r)
    exact RepK.merge b (s.put a)
def pairsD : List (D × D) → Option (List (Key × D))
  | [] => some []
  | (k, d) :: r => match keyOf k, pairsD r with
    | some k, some r => some ((k, d) :: r)
    | _, _ => none
def gDisp (ps : List (D × D)) : Option D := if ps.length ≤ 15 then (pairsD ps).map fun ks => .dct (mergeD [] ks) else none
def fPairs : List (FE × FE) → Rho → M (List (D × D))
  | [], _ => mret []
  | (fk, fv) :: r, ρ => mbind (fk ρ) fun k => mbind (fv ρ) fun v => mbind (fPairs r ρ) fun ps => mret ((k, v) :: ps)
def fDisp (fs : List (FE × FE)) : FE := fun ρ => mbind (fPairs fs ρ) fun ps => mlift (gDisp ps)
def fD0 : FE := fun _ => mret (.dct [])
inductive PDv (G : GE) (Wx : WX) (X : Cx) (pos : Pos) : List (Option Expr) → List Expr → List (FE × FE) → Prop where
  | nil : PDv G Wx X pos [] [] []
  | cons {k v : Expr} {ks : List (Option Expr)} {vs : List Expr} {fk fv : FE} {fs : List (FE × FE)} (hk : PEv G Wx X k fk) (hv : PEv G Wx X v fv) (hr : PDv G Wx X pos ks vs fs) : PDv G Wx X pos (some k :: ks) (v :: vs) ((fk, fv) :: fs)
section
variable {G : GE} {Wx : WX} {X : Cx} {pos : Pos} {keys : List (Option Expr)} {values : List Expr} {fs : List (FE × FE)}
def trsOf (K : PySem.W.Frag) (G : GE) (Wx : WX) (fs : List (FE × FE)) : List (TE × TE) := fs.map fun p => (RdE K G Wx p.1, RdE K G Wx p.2)
theorem PDv.pps (h : PDv G Wx X pos keys values fs) : PPs X pos keys values (trsOf X.K G Wx fs) := by
  induction h with
  | nil => exact pps_nil
  | cons hk hv hr ih => exact pps_cons hk.run hv.run ih
theorem PDv.len (h : PDv G Wx X pos keys values fs) : keys.all (·.isSome) = true ∧ keys.length = values.length := by
  induction h with
  | nil => exact ⟨rfl, rfl⟩
  | cons hk hv hr ih => exact ⟨by simpa using ih.1, by simpa using ih.2⟩
/-- the pairs, as values -/
def RPs (K : PySem.W.Frag) (W : Wd) : List (D × D) → List (V × V) → Prop
  | [], vs => vs = []
  | (k, d) :: ds, vs => ∃ kv v r, vs = (kv, v) :: r ∧ Rep K W k kv ∧ Rep K W d v ∧ RPs K W ds r
theorem RPs.ofKeys {K : PySem.W.Frag} {W : Wd} : ∀ {ps : List (D × D)} {vs : List (V × V)} {ks : List (Key × D)}, RPs K W ps vs → pairsD ps = some ks → ∃ kvs, vs = kvs.map (fun kv => (kV kv.1, kv.2)) ∧ RepK K W ks kvs
  | [], _, _, r, h => by have r : _ = [] := r; subst r; cases h; exact ⟨[], rfl, rfl⟩
  | (k, d) :: ps, _, _, ⟨kv, v, r, e, a, b, c⟩, h => by
    unfold pairsD at h
    split at h
    · rename_i k' r' hk hr
      cases h; subst e
      obtain ⟨kvs, e2, rr⟩ := RPs.ofKeys c hr
      subst e2
      rw [keyOf_rep hk a]
      exact ⟨(k', v) :: kvs, rfl, v, kvs, rfl, b, rr⟩
    · cases h
theorem pairs_rd : ∀ {fs : List (FE × FE)} {σ : L2.St} {H : Hp} {ρ : Rho} {B : Bk} {W : Wd} {out : Res (List (D × D)) × Bk} {Q : List (V × V) → Hp → Prop}, Ok X.K G W H B → Slots X.K W H σ ρ → fPairs fs ρ B = some out →
    (match out with
      | (.ok ps, B') => ∀ W' H' vs, Stp W H W' H' → Ok X.K G W' H' B' → RPs X.K W' ps vs → Q vs H'
      | (.ex c, B') => ∀ W' H', Stp W H W' H' → Ok X.K G W' H' B' → Wx (G.ca c) none σ H') → tPairs (trsOf X.K G Wx fs) σ H Q
  | [], σ, H, ρ, B, W, out, Q, o, s, e, q => by cases e; exact q W H [] (.refl W H) o rfl
  | (fk, fv) :: r, σ, H, ρ, B, W, out, Q, o, s, e, q => by
    unfold fPairs at e
    show RdE X.K G Wx fk σ H fun x H1 => RdE X.K G Wx fv σ H1 fun y H2 => tPairs (trsOf X.K G Wx r) σ H2 fun ps H3 => Q ((x, y) :: ps) H3
    rcases mbind_some e with ⟨d1, B1, e1, e'⟩ | ⟨c, B1, e1, rfl⟩
    · refine ⟨ρ, B, W, o, s, _, e1, fun W1 H1 v1 st1 o1 v1r => ?_⟩
      rcases mbind_some e' with ⟨d2, B2, e2, e''⟩ | ⟨c, B2, e2, rfl⟩
      · refine ⟨ρ, B1, W1, o1, s.step st1, _, e2, fun W2 H2 v2 st2 o2 v2r => ?_⟩
        rcases mbind_some e'' with ⟨ps, B3, e3, e4⟩ | ⟨c, B3, e3, rfl⟩
        · refine pairs_rd o2 (s.step (st1.tr st2)) e3 fun W3 H3 vs st3 o3 r3 => ?_
          cases e4
          exact q W3 H3 _ ((st1.tr st2).tr st3) o3 ⟨v1, v2, vs, rfl, v1r.mono (st2.tr st3).le, v2r.mono st3.le, r3⟩
        · exact pairs_rd o2 (s.step (st1.tr st2)) e3 fun W' H' st o' => q W' H' ((st1.tr st2).tr st) o'
      · exact ⟨ρ, B1, W1, o1, s.step st1, _, e2, fun W' H' st o' => q W' H' (st1.tr st) o'⟩
    · exact ⟨ρ, B, W, o, s, _, e1, q⟩
theorem pfv_disp (h : PDv G Wx X pos keys values fs) (h0 : keys ≠ [] := by intro z; cases z) (h15 : keys.length ≤ 15 := by decide) : PFv G Wx X (.Dict keys values pos) (fDisp fs) :=
  ⟨pe_weak (pe_disp h.pps h.len.1 h.len.2 h0 h15) fun σ H Q ⟨ρ, B, W, o, s, out, e, q⟩ => fun p hp => by
    have l1 := laid_q (u := .dK []) (d := .dct []) o hp ⟨[], upd_same, rfl⟩
    have s1 := s.step l1.1
    rcases mbind_some e with ⟨ps, B1, e1, e'⟩ | ⟨c, B1, e1, rfl⟩
    · obtain ⟨d, hd, rfl⟩ := mlift_some e'
      refine pairs_rd l1.2.1 s1 e1 fun W1 H1 vs st1 o1 r1 => ?_
      have hH : H1 p = some (.dK []) := st1.H p _ l1.2.2.2 upd_same
      have f1 : W1.F p = none := st1.Fn p l1.2.2.1 (by rw [upd_same]; exact fun z => nomatch z)
      have w1 : W1.w p = none := st1.wn p l1.2.2.2 (by rw [upd_same]; exact fun z => nomatch z)
      refine ⟨hH, ?_⟩
      unfold gDisp at hd
      split at hd
      · rename_i hl
        cases hk : pairsD ps with
        | none => rw [hk] at hd; cases hd
        | some ks =>
          rw [hk] at hd; cases hd
          obtain ⟨kvs, ev, rk⟩ := r1.ofKeys hk
          have hlen : kvs.length ≤ 15 := by
            rw [rk.len]
            have : ∀ {ps : List (D × D)} {ks : List (Key × D)}, pairsD ps = some ks → ks.length = ps.length := by
              intro ps
              induction ps with
              | nil => intro ks h; cases h; rfl
              | cons p r ih =>
                intro ks h
                obtain ⟨k, d⟩ := p
                unfold pairsD at h
                split at h
                · rename_i hr; cases h; rw [List.length_cons, List.length_cons, ih hr]
                · cases h
            rw [this hk]; exact hl
          refine ⟨kvs, ev, hlen, q W1 _ p ((l1.1.tr st1).poke hp) (o1.poke f1 w1 (by rw [hH]; exact fun z => nomatch z)) hp f1 w1 ⟨_, upd_same, RepK.merge rk (ks := []) (kvs := []) rfl⟩⟩
      · cases hd
    · exact pairs_rd l1.2.1 s1 e1 fun W' H' st o' => q W' H' (l1.1.tr st) o'⟩
theorem pfv_d0 : PFv G Wx X (.Dict [] [] pos) fD0 :=
  ⟨pe_weak pe_dnewK fun σ H Q ⟨ρ, B, W, o, s, out, e, q⟩ => by
    cases e
    exact dct_q o (ds := []) (vs := []) rfl q⟩
end

/-! ### one's own thing changes -/
def sMut {α : Type} (i : Nat) (ok : D → Bool) (m : Rho → M α) (g : D → α → Option D) : FS := fun ρ B => match ρ[i]? with
  | some (some ⟨.own, d0⟩) => if ok d0 then match m ρ B with
    | some (.ok a, B') => match g d0 a with
      | some d' => some (.nx (putO ρ i d'), B')
      | none => none
    | some (.ex c, B') => some (.ex c ρ, B')
    | none => none else none
  | _ => none
theorem sMut_some {α : Type} {i : Nat} {ok : D → Bool} {m : Rho → M α} {g : D → α → Option D} {ρ : Rho} {B : Bk} {o : Fl × Bk} (h : sMut i ok m g ρ B = some o) :
    ∃ d0, ρ[i]? = some (some ⟨.own, d0⟩) ∧ ok d0 = true ∧ ((∃ a B1 d', m ρ B = some (.ok a, B1) ∧ g d0 a = some d' ∧ o = (.nx (putO ρ i d'), B1)) ∨ ∃ c B1, m ρ B = some (.ex c, B1) ∧ o = (.ex c ρ, B1)) := by
  unfold sMut at h
  split at h
  · rename_i d0 hρ
    refine ⟨d0, hρ, ?_⟩
    split at h
    · rename_i hok
      refine ⟨hok, ?_⟩
      split at h
      · rename_i a B' hm
        split at h
        · rename_i d' hg; cases h; exact .inl ⟨a, B', d', hm, hg, rfl⟩
        · cases h
      · rename_i c B' hm; cases h; exact .inr ⟨c, B', hm, rfl⟩
      · cases h
    · cases h
  · cases h
def isL : D → Bool
  | .lst _ => true
  | _ => false
def isK : D → Bool
  | .dct _ => true
  | _ => false
def gApp : D → D → Option D
  | .lst xs, d => if xs.length < sizeLine then some (.lst (xs ++ [d])) else none
  | _, _ => none
def gExt : D → D → Option D
  | .lst xs, .lst ys => if xs.length + ys.length ≤ sizeLine then some (.lst (xs ++ ys)) else none
  | _, _ => none
def gClr : D → Unit → Option D
  | .lst _, _ => some (.lst [])
  | _, _ => none
def gClrK : D → Unit → Option D
  | .dct _, _ => some (.dct [])
  | _, _ => none
def gPutIx : D → D × D → Option D
  | .lst xs, (v, .int k) => (ixN xs.length k).map fun j => .lst (xs.set j v)
  | .dct ks, (v, k) => (keyOf k).bind fun k => if ks.length < sizeLine then some (.dct (kput ks k v)) else none
  | _, _ => none
def gUpd : D → D → Option D
  | .dct ks, .dct ls => if ks.length + ls.length ≤ sizeLine then some (.dct (mergeD ks ls)) else none
  | _, _ => none
def fPair (f g : FE) : Rho → M (D × D) := fun ρ => mbind (f ρ) fun x => mbind (g ρ) fun y => mret (x, y)
def fUnit : Rho → M Unit := fun _ => mret ()
def sFrz (i : Nat) : FS := fun ρ B => match ρ[i]? with
  | some (some ⟨.own, d⟩) => some (.nx (put ρ i d), B)
  | some (some ⟨.shr, _⟩) => some (.nx ρ, B)
  | _ => none
section
variable {K : PySem.W.Frag} {G : GE} {WA : Wd} {HA : Hp} {L : List Addr} {W : Wd} {H : Hp} {B : Bk} {σ : L2.St} {ρ : Rho}
theorem SOk.ownAt {d : D} {j : Nat} (s : SOk K G WA HA L W H σ ρ B) (hj : ρ[j]? = some (some ⟨.own, d⟩)) : ∃ p, σ[j]? = some (some (.ref p)) ∧ W.F p = none ∧ W.w p = none ∧ CellOk K W H p d ∧ HA p = none := by
  obtain ⟨v, ev, p, rfl, f, w, c⟩ := s.sl.ok j _ hj
  obtain ⟨p', e, h0⟩ := s.nw j _ _ hj rfl ev
  cases e
  exact ⟨p, ev, f, w, c, h0⟩
/-- an own thing is frozen -/
theorem SOk.frz {d : D} {j : Nat} (s : SOk K G WA HA L W H σ ρ B) (hj : ρ[j]? = some (some ⟨.own, d⟩)) : ∃ W', SOk K G WA HA L W' H σ (Fmx.put ρ j d) B ∧ SLe W H W' H := by
  obtain ⟨p, hp, hF, hw, c, h0⟩ := s.ownAt hj
  have jl : j < ρ.length := (List.getElem?_eq_some_iff.mp hj).1
  have key : ∃ u, H p = some u ∧ ∀ W', Le W W' → W'.F p = some u → Rep K W' d (.ref p) := by
    cases d with
    | lst ds => obtain ⟨xs, e, r⟩ := c; exact ⟨_, e, fun W' l f => ⟨p, xs, rfl, f, r.mono l⟩⟩
    | dct ds => obtain ⟨xs, e, r⟩ := c; exact ⟨_, e, fun W' l f => ⟨p, xs, rfl, f, r.mono l⟩⟩
    | _ => exact c.elim
  obtain ⟨u, hu, rp⟩ := key
  -- freeze from the entry on
  have F1 : ∀ a v, W.F a = some v → (W.fz p u).F a = some v := fun a v h => by
    show upd W.F p u a = _
    rw [upd_ne (fun e => by subst e; rw [hF] at h; cases h)]; exact h
  have Fn1 : ∀ a, a ≠ p → W.F a = none → (W.fz p u).F a = none := fun a ne h => by
    show upd W.F p u a = _
    rw [upd_ne ne]; exact h
  have le : Le W (W.fz p u) := ⟨F1, fun _ _ h => h, fun _ h => h⟩
  have ok' : Ok K G (W.fz p u) H B := by
    refine ⟨fun a v h => ?_, fun a k h => ?_, s.ok.len, fun k x h => ?_⟩
    · by_cases e : a = p
      · subst e
        have h : upd W.F a u a = some v := h
        rw [upd_same] at h; cases h; exact .inl hu
      · have h : upd W.F p u a = some v := h
        rw [upd_ne e] at h; exact s.ok.cov a v h
    · have := s.ok.wf a k h
      refine ⟨Fn1 a (fun e => by subst e; have h : W.w a = some k := h; rw [hw] at h; cases h) this.1, this.2⟩
    · obtain ⟨a, e, q⟩ := s.ok.ob k x h
      exact ⟨a, e, q.mono le (fun _ h => h) fun _ _ _ h => h⟩
  have set_eq : ∀ {i : Nat} {q : R}, (Fmx.put ρ j d)[i]? = some (some q) → (j = i ∧ q = ⟨.shr, d⟩) ∨ (j ≠ i ∧ ρ[i]? = some (some q)) := fun {i q} h => by
    unfold Fmx.put at h
    by_cases a1 : j = i
    · subst a1
      rw [List.getElem?_set_self jl] at h; cases h; exact .inl ⟨rfl, rfl⟩
    · rw [List.getElem?_set_ne a1] at h; exact .inr ⟨a1, h⟩
  refine ⟨W.fz p u, ⟨ok', ⟨by unfold Fmx.put; rw [List.length_set]; exact s.sl.len, fun i q h => ?_, fun i k q q' x h1 h2 t1 t2 e1 e2 => ?_⟩, ⟨fun a v h => F1 a v (s.st.F a v h), fun a h h2 => ?_, s.st.w, s.st.wn, s.st.m, s.st.x, s.st.th, s.st.H⟩, fun i q x h t e => ?_, fun i q x h t e => ?_⟩, le, fun _ _ _ h => h⟩
  · rcases set_eq h with ⟨rfl, rfl⟩ | ⟨ne, h⟩
    · exact ⟨_, hp, rp _ le (by show upd W.F p u p = _; rw [upd_same])⟩
    · obtain ⟨v, e, k⟩ := s.sl.ok i q h
      refine ⟨v, e, ?_⟩
      obtain ⟨t, dd⟩ := q
      have np : ∀ {p'}, v = .ref p' → t.mine = true ∨ t = .brw → p' ≠ p := fun {p'} ev tt z => by
        subst z ev
        rcases tt with tt | tt
        · exact ne (s.sl.inj i j _ _ _ h hj tt rfl e hp).symm
        · obtain ⟨p3, e3, h3⟩ := s.bw i _ _ h tt e
          cases e3; exact h3 h0
      cases t with
      | shr => exact Rep.mono le k
      | own => obtain ⟨p', e', f, w, cc⟩ := k; exact ⟨p', e', Fn1 p' (np e' (.inl rfl)) f, w, cc.mono le fun _ h => h⟩
      | brw => obtain ⟨p', e', f, w, cc⟩ := k; exact ⟨p', e', Fn1 p' (np e' (.inr rfl)) f, w, cc.mono le fun _ h => h⟩
      | lck => obtain ⟨p', e', f, w, ks, kvs, o, ed, cc, r⟩ := k; exact ⟨p', e', Fn1 p' (np e' (.inl rfl)) f, w, ks, kvs, o, ed, cc, r.mono le⟩
  · rcases set_eq h1 with ⟨rfl, rfl⟩ | ⟨n1, h1⟩
    · cases t1
    · rcases set_eq h2 with ⟨rfl, rfl⟩ | ⟨n2, h2⟩
      · cases t2
      · exact s.sl.inj i k q q' x h1 h2 t1 t2 e1 e2
  · exact Fn1 a (fun e => by subst e; exact h2 h0) (s.st.Fn a h h2)
  · rcases set_eq h with ⟨rfl, rfl⟩ | ⟨n1, h1⟩
    · cases t
    · exact s.nw i q x h1 t e
  · rcases set_eq h with ⟨rfl, rfl⟩ | ⟨n1, h1⟩
    · cases t
    · exact s.bw i q x h1 t e
end
theorem d_update {X : Cx} {pins : List (Addr × Obj)} {σ : L2.St} {H : Hp} {s : Shared} {a b : Addr} {kvs lvs : List (Key × V)} {Q : Value → Shared → Prop} (I : L2.Inv X pins σ H s) (e : H a = some (.dK kvs)) (eb : Rd H b (.dK lvs)) (ne : a ≠ b) (hz : kvs.length + lvs.length ≤ sizeLine)
    (h : ∀ s', L2.Inv X pins σ (upd H a (.dK (mergeK kvs lvs))) s' → Q .none s') : wpAny (model X.prog X.w) X.A (call (.builtin "dict.update") [.ref a, .ref b]) Q X.xe s := by
  obtain ⟨z, hd, vs, rel, dd⟩ := dk_of I.hok e
  obtain ⟨z2, hd2, vs2, rel2, dd2⟩ := dk_rd I.hok eb
  refine call_meetsIn PySem.F.slot_dict_update dd.typeIs PySem.F.entry_dict_update (PySem.F.args_dict_update_2 _ _) (meets_dict_update (mixKind X.prog X.w) a b ne hd2) ⟨vs, vs2, dd, dd2, by rw [← rel.length, ← rel2.length]; exact hz, fun h' dd' _ hs => h _ ?_⟩
  have he : ∃ q, h'.get? a = some q := let ⟨q, _, _, hq, _⟩ := dd'; ⟨q, hq⟩
  exact d_write (t' := s.toks) I (by rw [e]; exact True.intro) hs he (dk_new (Nat.le_trans (length_mergeK lvs kvs) hz) hd (rel2.merge rel) dd')
def rDUpd : V → List V → Hp → VK → Prop := fun x vs H Q => ∃ (a b : Addr) (kvs lvs : List (Key × V)), x = .ref a ∧ vs = [.ref b] ∧ H a = some (.dK kvs) ∧ Rd H b (.dK lvs) ∧ a ≠ b ∧ kvs.length + lvs.length ≤ sizeLine ∧ Q .non (upd H a (.dK (mergeK kvs lvs)))
theorem mtd_update {X : Cx} : MtR X "dict.update" rDUpd := by
  intro pins s σ H x vs v us Q I rx rv h
  obtain ⟨a, b, kvs, lvs, ex, ev, e, eb, ne, hz, q⟩ := h
  subst ex ev
  obtain rfl : v = Value.ref a := rx
  obtain ⟨u, rfl, ru⟩ := vals1 rv
  obtain rfl : u = Value.ref b := ru
  exact d_update I e eb ne hz fun s' I' => ⟨.non, _, I', rfl, q⟩
section
variable {G : GE} {Wx : WX} {X : Cx} {tg iter elt kx vx e a b c ix : Expr} {f fa fb fc g fe fk fv : FE} {fi : FI} {ft fu : FT} {pos px ap cp : Pos} {es ifs : List Expr} {fas : FA} {st : Stmt} {sts rest : List Stmt} {fs fr : FS} {scope : Scope} {x : Str} {i j : Nat}
theorem mut_end {D : Ends} {H H1 : Hp} {WA : Wd} {HA : Hp} {L : List Addr} {ρ : Rho} {B1 : Bk} {W W1 : Wd} {σ : L2.St} {d0 d' : Fmx.D} {p : Addr} {u : HO} (s1 : SOk X.K G WA HA L W1 H1 σ ρ B1) (le : SLe W H W1 H1) (hj : ρ[i]? = some (some ⟨.own, d0⟩)) (hp : σ[i]? = some (some (.ref p)))
    (c : CellOk X.K W1 (upd H1 p u) p d') (q : After X.K G Wx WA HA L W H D (.nx (putO ρ i d'), B1)) : D.nx σ (upd H1 p u) := by
  obtain ⟨s2, l2⟩ := s1.mut hj hp c
  exact q W1 _ σ s2 (le.tr l2)
variable (hN : X.N[i]? = some x := by rfl) (hv : Vis X.env.scope x := by first | exact Or.inl rfl | exact Or.inr (Or.inl rfl) | exact Or.inr (Or.inr rfl)) (hd : (x == ("__debug__" : Str)) = false := by decide) (hcd : (x == ("__classdict__" : Str)) = false := by decide)
include hN hv hd hcd
theorem psv_append (he : PEv G Wx X e f)
    (hbase : attributeBase (.Name x px) "append" X.env (eval (.Name x px) X.env) = eval (.Name x px) X.env := by rfl)
    (hfew : ((backTo cp (starEach [e] X.env)).all (fun x => !x.1) && (backToKw cp (keywordEach [] X.env)).all (fun x => x.1.isSome)
      && decide (([e] : List Expr).length + ([] : List Keyword).length + (if ([] : List Keyword).isEmpty then 0 else 1) < 30)) = true := by rfl)
    (hline : (ap.endLine == cp.line) = true := by rfl) (hs : starEach [e] X.env = (false, eval e X.env) :: starEach [] X.env := by rfl) (hplain : (backTo cp (starEach [] X.env)).any (·.1) = false := by rfl)
    (hsw : swapsWith (.Call (.Attribute (.Name x px) "append" ap) [e] [] cp) none pos.line X.env = pure false := by rfl) :
    PSv G Wx X (.Expr (.Call (.Attribute (.Name x px) "append" ap) [e] [] cp) pos) (sMut i isL f gApp) :=
  .mk' (ps_expr (pe_bm PySem.F.plainAttrs_list PySem.F.slot_list_append PySem.F.type_list_append mt_append (pe_var hN hv hd hcd) (pa_cons he.run pa_nil hs) hbase hfew hline hs hplain) hsw) fun D σ H WA HA L ρ B W o s e q => by
    obtain ⟨d0, hj, hok, h⟩ := sMut_some e
    obtain ⟨p, hp, hF, hw, c, h0⟩ := s.ownAt hj
    cases d0 with
    | lst ds =>
      obtain ⟨xs, ex, rx⟩ := c
      refine ⟨_, hp, .inl ⟨rfl, xs, .inl (.inl ex)⟩, ?_⟩
      rcases h with ⟨d1, B1, d', e1, hg, rfl⟩ | ⟨c, B1, e1, rfl⟩
      · refine ⟨ρ, B, W, s.ok, s.sl, _, e1, fun W1 H1 v st1 o1 r1 => ?_⟩
        have hg : (if ds.length < sizeLine then some (Fmx.D.lst (ds ++ [d1])) else none) = some d' := hg
        split at hg
        · rename_i hl
          cases hg
          have s1 := s.step st1 o1
          have eH : H1 p = some (.lst xs) := st1.H p _ hw ex
          refine ⟨p, xs, v, rfl, rfl, eH, by rw [rx.len]; exact hl, ?_⟩
          exact mut_end s1 (st1.sle s.ok) hj hp (d' := .lst (ds ++ [d1])) ⟨_, upd_same, (rx.mono st1.le).append (⟨v, [], rfl, r1, rfl⟩ : Reps X.K W1 [d1] [v])⟩ q
        · cases hg
      · exact ⟨ρ, B, W, s.ok, s.sl, _, e1, fun W1 H1 st1 o1 => q W1 H1 σ (s.step st1 o1) (st1.sle s.ok)⟩
    | _ => cases hok
theorem psv_extend (he : PVv G Wx X e f)
    (hbase : attributeBase (.Name x px) "extend" X.env (eval (.Name x px) X.env) = eval (.Name x px) X.env := by rfl)
    (hfew : ((backTo cp (starEach [e] X.env)).all (fun x => !x.1) && (backToKw cp (keywordEach [] X.env)).all (fun x => x.1.isSome)
      && decide (([e] : List Expr).length + ([] : List Keyword).length + (if ([] : List Keyword).isEmpty then 0 else 1) < 30)) = true := by rfl)
    (hline : (ap.endLine == cp.line) = true := by rfl) (hs : starEach [e] X.env = (false, eval e X.env) :: starEach [] X.env := by rfl) (hplain : (backTo cp (starEach [] X.env)).any (·.1) = false := by rfl)
    (hsw : swapsWith (.Call (.Attribute (.Name x px) "extend" ap) [e] [] cp) none pos.line X.env = pure false := by rfl) :
    PSv G Wx X (.Expr (.Call (.Attribute (.Name x px) "extend" ap) [e] [] cp) pos) (sMut i isL f gExt) :=
  .mk' (ps_expr (pe_bm PySem.F.plainAttrs_list PySem.F.slot_list_extend PySem.F.type_list_extend mt_extend (pe_var hN hv hd hcd) (pa_cons he.run pa_nil hs) hbase hfew hline hs hplain) hsw) fun D σ H WA HA L ρ B W o s e q => by
    obtain ⟨d0, hj, hok, h⟩ := sMut_some e
    obtain ⟨p, hp, hF, hw, c, h0⟩ := s.ownAt hj
    cases d0 with
    | lst ds =>
      obtain ⟨xs, ex, rx⟩ := c
      refine ⟨_, hp, .inl ⟨rfl, xs, .inl (.inl ex)⟩, ?_⟩
      rcases h with ⟨d1, B1, d', e1, hg, rfl⟩ | ⟨c, B1, e1, rfl⟩
      · refine ⟨ρ, B, W, s.ok, s.sl, _, e1, fun W1 H1 v st1 o1 r1 => ?_⟩
        cases d1 with
        | lst es =>
          have hg : (if ds.length + es.length ≤ sizeLine then some (Fmx.D.lst (ds ++ es)) else none) = some d' := hg
          split at hg
          · rename_i hl
            cases hg
            obtain ⟨b, ys, rfl, eb, rb⟩ := r1.lst o1
            have s1 := s.step st1 o1
            have eH : H1 p = some (.lst xs) := st1.H p _ hw ex
            refine ⟨p, b, xs, ys, rfl, rfl, eH, eb, by rw [rx.len, rb.len]; exact hl, ?_⟩
            exact mut_end s1 (st1.sle s.ok) hj hp (d' := .lst _) ⟨_, upd_same, (rx.mono st1.le).append rb⟩ q
          · cases hg
        | _ => cases hg
      · exact ⟨ρ, B, W, s.ok, s.sl, _, e1, fun W1 H1 st1 o1 => q W1 H1 σ (s.step st1 o1) (st1.sle s.ok)⟩
    | _ => cases hok
theorem psv_update (he : PEv G Wx X e f)
    (hbase : attributeBase (.Name x px) "update" X.env (eval (.Name x px) X.env) = eval (.Name x px) X.env := by rfl)
    (hfew : ((backTo cp (starEach [e] X.env)).all (fun x => !x.1) && (backToKw cp (keywordEach [] X.env)).all (fun x => x.1.isSome)
      && decide (([e] : List Expr).length + ([] : List Keyword).length + (if ([] : List Keyword).isEmpty then 0 else 1) < 30)) = true := by rfl)
    (hline : (ap.endLine == cp.line) = true := by rfl) (hs : starEach [e] X.env = (false, eval e X.env) :: starEach [] X.env := by rfl) (hplain : (backTo cp (starEach [] X.env)).any (·.1) = false := by rfl)
    (hsw : swapsWith (.Call (.Attribute (.Name x px) "update" ap) [e] [] cp) none pos.line X.env = pure false := by rfl) :
    PSv G Wx X (.Expr (.Call (.Attribute (.Name x px) "update" ap) [e] [] cp) pos) (sMut i isK f gUpd) :=
  .mk' (ps_expr (pe_bm PySem.F.plainAttrs_dict PySem.F.slot_dict_update PySem.F.type_dict_update mtd_update (pe_var hN hv hd hcd) (pa_cons he.run pa_nil hs) hbase hfew hline hs hplain) hsw) fun D σ H WA HA L ρ B W o s e q => by
    obtain ⟨d0, hj, hok, h⟩ := sMut_some e
    obtain ⟨p, hp, hF, hw, c, h0⟩ := s.ownAt hj
    cases d0 with
    | dct ds =>
      obtain ⟨xs, ex, rx⟩ := c
      refine ⟨_, hp, .inr (.inr (.inl ⟨rfl, .inl ⟨xs, ex⟩⟩)), ?_⟩
      rcases h with ⟨d1, B1, d', e1, hg, rfl⟩ | ⟨c, B1, e1, rfl⟩
      · refine ⟨ρ, B, W, s.ok, s.sl, _, e1, fun W1 H1 v st1 o1 r1 => ?_⟩
        cases d1 with
        | dct es =>
          have hg : (if ds.length + es.length ≤ sizeLine then some (Fmx.D.dct (mergeD ds es)) else none) = some d' := hg
          split at hg
          · rename_i hl
            cases hg
            obtain ⟨b, ys, rfl, eb, rb⟩ := r1
            have s1 := s.step st1 o1
            have eH : H1 p = some (.dK xs) := st1.H p _ hw ex
            have f1 : W1.F p = none := st1.Fn p hF (by rw [ex]; exact fun z => nomatch z)
            refine ⟨p, b, xs, ys, rfl, rfl, eH, o1.rd (.inl eb), (fun z => by subst z; rw [f1] at eb; cases eb), (by rw [rx.len, rb.len]; exact hl), ?_⟩
            exact mut_end s1 (st1.sle s.ok) hj hp (d' := .dct _) ⟨_, upd_same, rb.merge (rx.mono st1.le)⟩ q
          · cases hg
        | _ => cases hg
      · exact ⟨ρ, B, W, s.ok, s.sl, _, e1, fun W1 H1 st1 o1 => q W1 H1 σ (s.step st1 o1) (st1.sle s.ok)⟩
    | _ => cases hok
end
end Fmx

namespace Fmx
open PySem PySem.Spec PyProof.Rows L2

theorem pset_or {X : Cx} {t u : TSet} (h : PSet X t) (h' : PSet X u) : PSet X (fun o i v H Q => t o i v H Q ∨ u o i v H Q) := fun pins s σ H o i v ov iv uu Q I a b c q => q.elim (h pins s σ H o i v ov iv uu Q I a b c) (h' pins s σ H o i v ov iv uu Q I a b c)
section
variable {G : GE} {Wx : WX} {X : Cx} {tg iter elt kx vx e a b c ix : Expr} {f fa fb fc g fe fk fv : FE} {fi : FI} {ft fu : FT} {pos px ap cp : Pos} {es ifs : List Expr} {fas : FA} {st : Stmt} {sts rest : List Stmt} {fs fr : FS} {scope : Scope} {x y : Str} {i j : Nat}
section
variable (hN : X.N[i]? = some x := by rfl) (hv : Vis X.env.scope x := by first | exact Or.inl rfl | exact Or.inr (Or.inl rfl) | exact Or.inr (Or.inr rfl)) (hd : (x == ("__debug__" : Str)) = false := by decide) (hcd : (x == ("__classdict__" : Str)) = false := by decide)
include hN hv hd hcd
theorem psv_clear (hbase : attributeBase (.Name x px) "clear" X.env (eval (.Name x px) X.env) = eval (.Name x px) X.env := by rfl)
    (hline : (ap.endLine == cp.line) = true := by rfl) (hsw : swapsWith (.Call (.Attribute (.Name x px) "clear" ap) [] [] cp) none pos.line X.env = pure false := by rfl) :
    PSv G Wx X (.Expr (.Call (.Attribute (.Name x px) "clear" ap) [] [] cp) pos) (sMut i isL fUnit gClr) :=
  .mk' (ps_expr (pe_bm0 PySem.F.plainAttrs_list PySem.F.slot_list_clear PySem.F.type_list_clear mt_clear (pe_var hN hv hd hcd) hbase hline) hsw) fun D σ H WA HA L ρ B W o s e q => by
    obtain ⟨d0, hj, hok, h⟩ := sMut_some e
    obtain ⟨p, hp, hF, hw, c, h0⟩ := s.ownAt hj
    cases d0 with
    | lst ds =>
      obtain ⟨xs, ex, rx⟩ := c
      rcases h with ⟨d1, B1, d', e1, hg, rfl⟩ | ⟨c, B1, e1, rfl⟩
      · cases e1
        cases hg
        exact ⟨_, hp, .inl ⟨rfl, xs, .inl (.inl ex)⟩, p, xs, rfl, rfl, ex, mut_end s (.refl _ _) hj hp (d' := .lst []) ⟨[], upd_same, rfl⟩ q⟩
      · cases e1
    | _ => cases hok
theorem psv_clearK (hbase : attributeBase (.Name x px) "clear" X.env (eval (.Name x px) X.env) = eval (.Name x px) X.env := by rfl)
    (hline : (ap.endLine == cp.line) = true := by rfl) (hsw : swapsWith (.Call (.Attribute (.Name x px) "clear" ap) [] [] cp) none pos.line X.env = pure false := by rfl) :
    PSv G Wx X (.Expr (.Call (.Attribute (.Name x px) "clear" ap) [] [] cp) pos) (sMut i isK fUnit gClrK) :=
  .mk' (ps_expr (pe_bm0 PySem.F.plainAttrs_dict PySem.F.slot_dict_clear PySem.F.type_dict_clear mtd_clear (pe_var hN hv hd hcd) hbase hline) hsw) fun D σ H WA HA L ρ B W o s e q => by
    obtain ⟨d0, hj, hok, h⟩ := sMut_some e
    obtain ⟨p, hp, hF, hw, c, h0⟩ := s.ownAt hj
    cases d0 with
    | dct ds =>
      obtain ⟨xs, ex, rx⟩ := c
      rcases h with ⟨d1, B1, d', e1, hg, rfl⟩ | ⟨c, B1, e1, rfl⟩
      · cases e1
        cases hg
        exact ⟨_, hp, .inr (.inr (.inl ⟨rfl, .inl ⟨xs, ex⟩⟩)), p, xs, rfl, rfl, ex, mut_end s (.refl _ _) hj hp (d' := .dct []) ⟨[], upd_same, rfl⟩ q⟩
      · cases e1
    | _ => cases hok
/-- x[i] = e -/
theorem psv_putIx {pos' : Pos} (hu : X.A.units + 64 < cLine) (he : PEv G Wx X e f) (hix : PEv G Wx X ix g)
    (ha : ∀ v, assign (.Subscript (.Name x px) ix pos') X.env v = (do
      let ov ← holding [v] (eval (.Name x px) X.env)
      let iv ← holding [v, ov] (eval ix X.env)
      standAt pos'
      holding [v, ov, iv] (setItem ov iv v)
      release [v, ov, iv] []) := by intro _; rfl)
    (hs : swapsWithSole [.Subscript (.Name x px) ix pos'] e pos.line X.env = pure false := by rfl) (hw : swappedStores [.Subscript (.Name x px) ix pos'] e X.env = pure none := by rfl)
    (h1 : (assignEach [.Subscript (.Name x px) ix pos'] X.env).map (·.2) = [assign (.Subscript (.Name x px) ix pos') X.env] := by rfl) :
    PSv G Wx X (.Assign [.Subscript (.Name x px) ix pos'] e pos) (sMut i (fun d => isL d || isK d) (fPair f g) gPutIx) :=
  .mk' (ps_asg he.run (pg_sub (pe_var hN hv hd hcd) hix.run (pset_or set_list (set_dict (by omega))) ha) hs hw h1) fun D σ H WA HA L ρ B W o s e q => by
    obtain ⟨d0, hj, hok, h⟩ := sMut_some e
    obtain ⟨p, hp, hF, hw, c, h0⟩ := s.ownAt hj
    rcases h with ⟨d1, B1, d', e1, hg, rfl⟩ | ⟨c', B1, e1, rfl⟩
    · obtain ⟨dv, di⟩ := d1
      rcases mbind_some e1 with ⟨x1, B2, e2, e3⟩ | ⟨c, B2, e2, h⟩
      · rcases mbind_some e3 with ⟨x2, B3, e4, e5⟩ | ⟨c, B3, e4, h⟩
        · cases e5
          refine ⟨ρ, B, W, s.ok, s.sl, _, e2, fun W1 H1 v1 st1 o1 r1 => ?_⟩
          refine ⟨_, hp, ρ, _, W1, o1, s.sl.step st1, _, e4, fun W2 H2 v2 st2 o2 r2 => ?_⟩
          have st := st1.tr st2
          have s2 := s.step st o2
          cases d0 with
          | lst ds =>
            obtain ⟨xs, ex, rx⟩ := c
            have eH : H2 p = some (.lst xs) := st.H p _ hw ex
            cases di with
            | int k =>
              cases r2
              have hg : ((ixN ds.length k).map fun j => Fmx.D.lst (ds.set j dv)) = some d' := hg
              cases hx : ixN ds.length k with
              | none => rw [hx] at hg; cases hg
              | some j =>
                rw [hx] at hg; cases hg
                refine .inl ⟨p, xs, k, j, rfl, rfl, eH, by rw [rx.len]; exact hx, ?_⟩
                exact mut_end s2 (st.sle s.ok) hj hp (d' := .lst (ds.set j dv)) ⟨_, upd_same, (rx.mono st.le).set (r1.mono st2.le) j⟩ q
            | _ => cases hg
          | dct ds =>
            obtain ⟨xs, ex, rx⟩ := c
            have eH : H2 p = some (.dK xs) := st.H p _ hw ex
            have hg : ((keyOf di).bind fun k => if ds.length < sizeLine then some (Fmx.D.dct (kput ds k dv)) else none) = some d' := hg
            cases hk : keyOf di with
            | none => rw [hk] at hg; cases hg
            | some k =>
              rw [hk] at hg
              have hg : (if ds.length < sizeLine then some (Fmx.D.dct (kput ds k dv)) else none) = some d' := hg
              split at hg
              · rename_i hl
                cases hg
                rw [keyOf_rep hk r2]
                refine .inr ⟨p, _, rfl, DPut.k eH (by rw [rx.len]; exact hl), ?_⟩
                exact mut_end s2 (st.sle s.ok) hj hp (d' := .dct (kput ds k dv)) ⟨_, upd_same, (rx.mono st.le).put (r1.mono st2.le)⟩ q
              · cases hg
          | _ => exact c.elim
        · cases h
      · cases h
    · rcases mbind_some e1 with ⟨x1, B2, e2, e3⟩ | ⟨c2, B2, e2, h⟩
      · refine ⟨ρ, B, W, s.ok, s.sl, _, e2, fun W1 H1 v1 st1 o1 r1 => ?_⟩
        rcases mbind_some e3 with ⟨x2, B3, e4, e5⟩ | ⟨c3, B3, e4, h⟩
        · cases e5
        · cases h
          exact ⟨_, hp, ρ, _, W1, o1, s.sl.step st1, _, e4, fun W2 H2 st2 o2 => q W2 H2 σ (s.step (st1.tr st2) o2) ((st1.tr st2).sle s.ok)⟩
      · cases h
        exact ⟨ρ, B, W, s.ok, s.sl, _, e2, fun W2 H2 st2 o2 => q W2 H2 σ (s.step st2 o2) (st2.sle s.ok)⟩
end
/-- freezing ahead of a statement -/
theorem psv_frz (i : Nat) (h : PSv G Wx X st fs) : PSv G Wx X st (sSeq (sFrz i) fs) := ⟨ps_weak h.run fun D σ H q => by
  obtain ⟨WA, HA, L, ρ, B, W, s, o, e, q⟩ := rdS_iff.mp q
  unfold sSeq sFrz at e
  cases hρ : ρ[i]? with
  | none => rw [hρ] at e; cases e
  | some z =>
    cases z with
    | none => rw [hρ] at e; cases e
    | some z =>
      obtain ⟨t, d⟩ := z
      rw [hρ] at e
      cases t with
      | own =>
        obtain ⟨W', s', l⟩ := s.frz hρ
        exact rdS_iff.mpr ⟨WA, HA, L, _, B, W', s', o, e, q.step l⟩
      | shr => exact rdS_iff.mpr ⟨WA, HA, L, ρ, B, W, s, o, e, q⟩
      | brw => cases e
      | lck => cases e⟩
/-! comprehensions on one line with their name -/
theorem ps_lcU {py spos : Pos} (hc : X.calm = true) (hN : X.N.Nodup) (hi : X.N[i]? = some y) (hyl : X.env.scope.names.lookup y = some .local) (hsw : swapsWith (.ListComp elt [⟨.Name x px, iter, ifs, 0⟩] scope pos) (some (.Name y py)) spos.line X.env = pure true) (hit : PIv G Wx X (.Name x px) iter fi) (ok : BlkOk X.N X.env.scope scope [(x, j)])
    (hg : ∀ (s : Shared) (H : Hp) (C : Addr) (cl : List (Str × Addr)) (fp : List Addr), PG (X.blk s H scope (compEnvC scope cl C X.env) fp) (.Name x px) (gName j)) (ht : ∀ (s : Shared) (H : Hp) (C : Addr) (cl : List (Str × Addr)) (fp : List Addr), PTsv G W0 (X.blk s H scope (compEnvC scope cl C X.env) fp) ifs ft)
    (he : ∀ (s : Shared) (H : Hp) (C : Addr) (cl : List (Str × Addr)) (fp : List Addr), PEv G W0 (X.blk s H scope (compEnvC scope cl C X.env) fp) elt fe) (hs : ∀ x, foldedSetIterable iter X.env x = pure x := by intro _; rfl) :
    PS X (.Assign [.Name y py] (.ListComp elt [⟨.Name x px, iter, ifs, 0⟩] scope pos) spos) (fun D σ H => tLc (RdI X G Wx fi) (gName j) (RdT X.K G W0 ft) (RdE X.K G W0 fe) [j] σ H fun v H' => ∃ H'', Ulk X H' H'' ∧ D.nx (σ.set i (some v)) H'') :=
  ps_weak (ps_unl (ps_setLc (own := [(x, j)]) hc hN hi hyl hsw hit.run ok hg (fun s H C cl fp => (ht s H C cl fp).run) (fun s H C cl fp => (he s H C cl fp).run) hs)) fun D σ H q => q
theorem psv_ownLc {py spos : Pos} (i j : Nat) (hc : X.calm = true) (hN : X.N.Nodup) (hi : X.N[i]? = some y) (hyl : X.env.scope.names.lookup y = some .local) (hsw : swapsWith (.ListComp elt [⟨.Name x px, iter, ifs, 0⟩] scope pos) (some (.Name y py)) spos.line X.env = pure true) (hit : PIv G Wx X (.Name x px) iter fi) (ok : BlkOk X.N X.env.scope scope [(x, j)])
    (hg : ∀ (s : Shared) (H : Hp) (C : Addr) (cl : List (Str × Addr)) (fp : List Addr), PG (X.blk s H scope (compEnvC scope cl C X.env) fp) (.Name x px) (gName j)) (ht : ∀ (s : Shared) (H : Hp) (C : Addr) (cl : List (Str × Addr)) (fp : List Addr), PTsv G W0 (X.blk s H scope (compEnvC scope cl C X.env) fp) ifs ft)
    (he : ∀ (s : Shared) (H : Hp) (C : Addr) (cl : List (Str × Addr)) (fp : List Addr), PEv G W0 (X.blk s H scope (compEnvC scope cl C X.env) fp) elt fe) (hs : ∀ x, foldedSetIterable iter X.env x = pure x := by intro _; rfl) :
    PSv G Wx X (.Assign [.Name y py] (.ListComp elt [⟨.Name x px, iter, ifs, 0⟩] scope pos) spos) (sOwn i (fLc j fi ft fe)) := .mk' (ps_lcU hc hN hi hyl hsw hit ok hg ht he hs) fun D σ H WA HA L ρ B W o s e q => by
  rcases sE_some e with ⟨d, B1, e1, e2⟩ | ⟨c, B1, e1, rfl⟩
  · refine lc_rd (Q := fun v H'' => D.nx (σ.set i (some v)) H'') trivial s.ok s.sl e1 fun W1 H1 p st o1 h0 hF hw c => ?_
    cases e2
    exact q W1 H1 _ (s.own st o1 h0 hF hw c i) (st.sle s.ok)
  · exact lc_rd (Q := fun v H'' => D.nx (σ.set i (some v)) H'') trivial s.ok s.sl e1 fun W1 H1 st o1 => q W1 H1 σ (s.step st o1) (st.sle s.ok)
theorem psv_setLc {py spos : Pos} (i j : Nat) (hc : X.calm = true) (hN : X.N.Nodup) (hi : X.N[i]? = some y) (hyl : X.env.scope.names.lookup y = some .local) (hsw : swapsWith (.ListComp elt [⟨.Name x px, iter, ifs, 0⟩] scope pos) (some (.Name y py)) spos.line X.env = pure true) (hit : PIv G Wx X (.Name x px) iter fi) (ok : BlkOk X.N X.env.scope scope [(x, j)])
    (hg : ∀ (s : Shared) (H : Hp) (C : Addr) (cl : List (Str × Addr)) (fp : List Addr), PG (X.blk s H scope (compEnvC scope cl C X.env) fp) (.Name x px) (gName j)) (ht : ∀ (s : Shared) (H : Hp) (C : Addr) (cl : List (Str × Addr)) (fp : List Addr), PTsv G W0 (X.blk s H scope (compEnvC scope cl C X.env) fp) ifs ft)
    (he : ∀ (s : Shared) (H : Hp) (C : Addr) (cl : List (Str × Addr)) (fp : List Addr), PEv G W0 (X.blk s H scope (compEnvC scope cl C X.env) fp) elt fe) (hs : ∀ x, foldedSetIterable iter X.env x = pure x := by intro _; rfl) :
    PSv G Wx X (.Assign [.Name y py] (.ListComp elt [⟨.Name x px, iter, ifs, 0⟩] scope pos) spos) (sSet i (fLc j fi ft fe)) := .mk' (ps_lcU hc hN hi hyl hsw hit ok hg ht he hs) fun D σ H WA HA L ρ B W o s e q => by
  rcases sE_some e with ⟨d, B1, e1, e2⟩ | ⟨c, B1, e1, rfl⟩
  · refine lc_rd (Q := fun v H'' => D.nx (σ.set i (some v)) H'') trivial s.ok s.sl e1 fun W1 H1 p st o1 h0 hF hw c => ?_
    cases e2
    obtain ⟨W2, s2, o2, _, r⟩ := c.rep st o1 h0 hF hw
    exact q W2 H1 _ ((s.step s2 o2).put r i) (s2.sle s.ok)
  · exact lc_rd (Q := fun v H'' => D.nx (σ.set i (some v)) H'') trivial s.ok s.sl e1 fun W1 H1 st o1 => q W1 H1 σ (s.step st o1) (st.sle s.ok)
theorem ps_setDc {py spos : Pos} {own : List (Str × Nat)} {wi : TI} {g : TG} {tt : TT} {tk tv : TE} (hc : X.calm = true) (hN : X.N.Nodup) (hy : X.N[i]? = some y) (hyl : X.env.scope.names.lookup y = some .local)
    (hsw : swapsWith (.DictComp kx vx [⟨tg, iter, ifs, 0⟩] scope pos) (some (.Name y py)) spos.line X.env = pure true) (hi : PI X tg iter wi) (ok : BlkOk X.N X.env.scope scope own)
    (hg : ∀ (s : Shared) (H : Hp) (C : Addr) (cl : List (Str × Addr)) (fp : List Addr), PG (X.blk s H scope (compEnvC scope cl C X.env) fp) tg g) (ht : ∀ (s : Shared) (H : Hp) (C : Addr) (cl : List (Str × Addr)) (fp : List Addr), PTs (X.blk s H scope (compEnvC scope cl C X.env) fp) ifs tt)
    (hk : ∀ (s : Shared) (H : Hp) (C : Addr) (cl : List (Str × Addr)) (fp : List Addr), PE (X.blk s H scope (compEnvC scope cl C X.env) fp) kx tk)
    (he : ∀ (s : Shared) (H : Hp) (C : Addr) (cl : List (Str × Addr)) (fp : List Addr), PE (X.blk s H scope (compEnvC scope cl C X.env) fp) vx tv) (hs : ∀ x, foldedSetIterable iter X.env x = pure x := by intro _; rfl) :
    PS X (.Assign [.Name y py] (.DictComp kx vx [⟨tg, iter, ifs, 0⟩] scope pos) spos) (tAsg (tDc wi g tt tk tv (own.map (·.2))) (gName i)) := by
  refine ⟨fun pins s σ H D I h => ?_⟩
  rw [exec_Assign_Name_used _ _ _ _ hsw]
  refine wpAny_bind (wpAny_standAt (wpAny_bind ?_))
  show wpAny _ X.A (do let _ ← comprehension (.DictComp kx vx [⟨tg, iter, ifs, 0⟩] scope pos) scope X.env (firstIterPos [⟨tg, iter, ifs, 0⟩] pos) newDict false (eval iter X.env) (some (assign (.Name y py) X.env))) _ _ s
  have h : tDc wi g tt tk tv (own.map (·.2)) σ H (fun x H1 => gName i x σ H1 D.nx) := h
  refine wpAny_bind (thn (dc_core (Qf := fun _ s' => SP X pins D .next s') hc hN I hi ok hg ht hk he hs h fun L C s' m H' I' q hn f => ?_) fun _ s' hq => wpAny_pure (wpAny_pure hq))
  show wpAny _ _ (assign (.Name y py) X.env (.ref L)) _ _ _
  refine wpAny_assign_Name (store_ok2 (v := V.ref L) I' hN hy (.inl hyl) rfl (fun s2 I2 ⟨a, sb, ha⟩ => ?_) (.inr hyl))
  obtain ⟨f0, f1, f2, f3, f4, f5⟩ := f
  have haC : C ≠ a := by
    rcases ha with z | z
    · rw [z]; exact f1
    · exact fun e => f4 y a z e.symm
  refine ⟨m, hn.sameBut sb haC, fun h3 sb3 => ?_⟩
  exact ⟨_, H', I2.turned (t' := s2.toks) (fun b o hb e => (sb3.2 b hb).trans e) f0 f1 f3 f4 f5, q⟩
theorem ps_dcU {py spos : Pos} (hc : X.calm = true) (hN : X.N.Nodup) (hi : X.N[i]? = some y) (hyl : X.env.scope.names.lookup y = some .local) (hsw : swapsWith (.DictComp kx vx [⟨.Name x px, iter, ifs, 0⟩] scope pos) (some (.Name y py)) spos.line X.env = pure true) (hit : PIv G Wx X (.Name x px) iter fi) (ok : BlkOk X.N X.env.scope scope [(x, j)])
    (hg : ∀ (s : Shared) (H : Hp) (C : Addr) (cl : List (Str × Addr)) (fp : List Addr), PG (X.blk s H scope (compEnvC scope cl C X.env) fp) (.Name x px) (gName j)) (ht : ∀ (s : Shared) (H : Hp) (C : Addr) (cl : List (Str × Addr)) (fp : List Addr), PTsv G W0 (X.blk s H scope (compEnvC scope cl C X.env) fp) ifs ft)
    (hk : ∀ (s : Shared) (H : Hp) (C : Addr) (cl : List (Str × Addr)) (fp : List Addr), PEv G W0 (X.blk s H scope (compEnvC scope cl C X.env) fp) kx fk)
    (he : ∀ (s : Shared) (H : Hp) (C : Addr) (cl : List (Str × Addr)) (fp : List Addr), PEv G W0 (X.blk s H scope (compEnvC scope cl C X.env) fp) vx fv) (hs : ∀ x, foldedSetIterable iter X.env x = pure x := by intro _; rfl) :
    PS X (.Assign [.Name y py] (.DictComp kx vx [⟨.Name x px, iter, ifs, 0⟩] scope pos) spos) (fun D σ H => tDc (RdI X G Wx fi) (gName j) (RdT X.K G W0 ft) (RdE X.K G W0 fk) (RdE X.K G W0 fv) [j] σ H fun v H' => ∃ H'', Ulk X H' H'' ∧ D.nx (σ.set i (some v)) H'') :=
  ps_weak (ps_unl (ps_setDc (own := [(x, j)]) hc hN hi hyl hsw hit.run ok hg (fun s H C cl fp => (ht s H C cl fp).run) (fun s H C cl fp => (hk s H C cl fp).run) (fun s H C cl fp => (he s H C cl fp).run) hs)) fun D σ H q => q
theorem psv_ownDc {py spos : Pos} (i j : Nat) (hc : X.calm = true) (hN : X.N.Nodup) (hi : X.N[i]? = some y) (hyl : X.env.scope.names.lookup y = some .local) (hsw : swapsWith (.DictComp kx vx [⟨.Name x px, iter, ifs, 0⟩] scope pos) (some (.Name y py)) spos.line X.env = pure true) (hit : PIv G Wx X (.Name x px) iter fi) (ok : BlkOk X.N X.env.scope scope [(x, j)])
    (hg : ∀ (s : Shared) (H : Hp) (C : Addr) (cl : List (Str × Addr)) (fp : List Addr), PG (X.blk s H scope (compEnvC scope cl C X.env) fp) (.Name x px) (gName j)) (ht : ∀ (s : Shared) (H : Hp) (C : Addr) (cl : List (Str × Addr)) (fp : List Addr), PTsv G W0 (X.blk s H scope (compEnvC scope cl C X.env) fp) ifs ft)
    (hk : ∀ (s : Shared) (H : Hp) (C : Addr) (cl : List (Str × Addr)) (fp : List Addr), PEv G W0 (X.blk s H scope (compEnvC scope cl C X.env) fp) kx fk)
    (he : ∀ (s : Shared) (H : Hp) (C : Addr) (cl : List (Str × Addr)) (fp : List Addr), PEv G W0 (X.blk s H scope (compEnvC scope cl C X.env) fp) vx fv) (hs : ∀ x, foldedSetIterable iter X.env x = pure x := by intro _; rfl) :
    PSv G Wx X (.Assign [.Name y py] (.DictComp kx vx [⟨.Name x px, iter, ifs, 0⟩] scope pos) spos) (sOwn i (fDc j fi ft fk fv)) := .mk' (ps_dcU hc hN hi hyl hsw hit ok hg ht hk he hs) fun D σ H WA HA L ρ B W o s e q => by
  rcases sE_some e with ⟨d, B1, e1, e2⟩ | ⟨c, B1, e1, rfl⟩
  · refine dc_rd (Q := fun v H'' => D.nx (σ.set i (some v)) H'') s.ok s.sl e1 fun W1 H1 p st o1 h0 hF hw c => ?_
    cases e2
    exact q W1 H1 _ (s.own st o1 h0 hF hw c i) (st.sle s.ok)
  · exact dc_rd (Q := fun v H'' => D.nx (σ.set i (some v)) H'') s.ok s.sl e1 fun W1 H1 st o1 => q W1 H1 σ (s.step st o1) (st.sle s.ok)
theorem psv_setDc {py spos : Pos} (i j : Nat) (hc : X.calm = true) (hN : X.N.Nodup) (hi : X.N[i]? = some y) (hyl : X.env.scope.names.lookup y = some .local) (hsw : swapsWith (.DictComp kx vx [⟨.Name x px, iter, ifs, 0⟩] scope pos) (some (.Name y py)) spos.line X.env = pure true) (hit : PIv G Wx X (.Name x px) iter fi) (ok : BlkOk X.N X.env.scope scope [(x, j)])
    (hg : ∀ (s : Shared) (H : Hp) (C : Addr) (cl : List (Str × Addr)) (fp : List Addr), PG (X.blk s H scope (compEnvC scope cl C X.env) fp) (.Name x px) (gName j)) (ht : ∀ (s : Shared) (H : Hp) (C : Addr) (cl : List (Str × Addr)) (fp : List Addr), PTsv G W0 (X.blk s H scope (compEnvC scope cl C X.env) fp) ifs ft)
    (hk : ∀ (s : Shared) (H : Hp) (C : Addr) (cl : List (Str × Addr)) (fp : List Addr), PEv G W0 (X.blk s H scope (compEnvC scope cl C X.env) fp) kx fk)
    (he : ∀ (s : Shared) (H : Hp) (C : Addr) (cl : List (Str × Addr)) (fp : List Addr), PEv G W0 (X.blk s H scope (compEnvC scope cl C X.env) fp) vx fv) (hs : ∀ x, foldedSetIterable iter X.env x = pure x := by intro _; rfl) :
    PSv G Wx X (.Assign [.Name y py] (.DictComp kx vx [⟨.Name x px, iter, ifs, 0⟩] scope pos) spos) (sSet i (fDc j fi ft fk fv)) := .mk' (ps_dcU hc hN hi hyl hsw hit ok hg ht hk he hs) fun D σ H WA HA L ρ B W o s e q => by
  rcases sE_some e with ⟨d, B1, e1, e2⟩ | ⟨c, B1, e1, rfl⟩
  · refine dc_rd (Q := fun v H'' => D.nx (σ.set i (some v)) H'') s.ok s.sl e1 fun W1 H1 p st o1 h0 hF hw c => ?_
    cases e2
    obtain ⟨W2, s2, o2, _, r⟩ := c.rep st o1 h0 hF hw
    exact q W2 H1 _ ((s.step s2 o2).put r i) (s2.sle s.ok)
  · exact dc_rd (Q := fun v H'' => D.nx (σ.set i (some v)) H'') s.ok s.sl e1 fun W1 H1 st o1 => q W1 H1 σ (s.step st o1) (st.sle s.ok)
theorem sw_trueD {kx vx : Expr} {gs : List Comprehension} {scope : Scope} {pos py : Pos} {y : Str} {l : Nat} {env : Env} (hk : env.scope.kind = .function) (hy : env.scope.names.lookup y = some .local) (hl : (py.line == pos.line) = true)
    (ha : (scope.names.any fun (n, k) => n == y && (k == .local || k == .cell)) = false) : swapsWith (.DictComp kx vx gs scope pos) (some (.Name y py)) l env = pure true := by
  have ky : env.kindOf y = some .local := hy
  have hb : env.blockKind = .function := by unfold Env.blockKind; rw [hk]; rfl
  unfold swapsWith
  simp only [hb, ky, ha, Expr.pos, hl]
  rfl
/-! a, b = e -/
def tup2 : D → Option (D × D)
  | .tup [a, b] => some (a, b)
  | _ => none
def sUn2 (i j : Nat) (f : FE) : FS := sE (fun ρ => mbind (f ρ) fun d => mlift (tup2 d)) fun p ρ B => some (.nx (put (put ρ i p.1) j p.2), B)
theorem psv_un2 {py pt : Pos} {k : Nat} (i j : Nat) (hc : X.calm = true) (hN : X.N.Nodup) (hi : X.N[i]? = some x) (hj : X.N[j]? = some y) (hx : Loc X.env.scope x) (hy : Loc X.env.scope y) (he : PEv G Wx X e f)
    (hfx : X.fn x = true ∨ X.env.scope.names.lookup x = some .local := by first | exact .inl rfl | exact .inr rfl | assumption) (hfy : X.fn y = true ∨ X.env.scope.names.lookup y = some .local := by first | exact .inl rfl | exact .inr rfl | assumption)
    (h1 : (assignEach [.Name x px, .Name y py] X.env).map (·.2) = assign (.Name x px) X.env :: (assignEach [.Name y py] X.env).map (·.2) := by rfl) (h2 : (assignEach [.Name y py] X.env).map (·.2) = assign (.Name y py) X.env :: (assignEach [] X.env).map (·.2) := by rfl)
    (hn : (assignEach [.Name x px, .Name y py] X.env).length = 2 := by rfl) (hst : (assignEach [.Name x px, .Name y py] X.env).findIdx? (·.1) = none := by rfl)
    (hs : swapsWithSole [.Tuple [.Name x px, .Name y py] k pt] e pos.line X.env = pure false := by rfl) (hw : swappedStores [.Tuple [.Name x px, .Name y py] k pt] e X.env = pure none := by rfl)
    (h3 : (assignEach [.Tuple [.Name x px, .Name y py] k pt] X.env).map (·.2) = [assign (.Tuple [.Name x px, .Name y py] k pt) X.env] := by rfl) :
    PSv G Wx X (.Assign [.Tuple [.Name x px, .Name y py] k pt] e pos) (sUn2 i j f) :=
  .mk' (ps_asg he.run (pg_tup hc (pgs_cons (pg_name hN hi hx hfx) (pgs_cons (pg_name hN hj hy hfy) pgs_nil h2) h1) hn hst) hs hw h3) fun D σ H WA HA L ρ B W o s e q => by
  rcases sE_some e with ⟨d, B1, e1, e2⟩ | ⟨c, B1, e1, rfl⟩
  · rcases mbind_some e1 with ⟨d1, B2, e3, e4⟩ | ⟨c, B2, e3, h⟩
    · obtain ⟨p, hp, h⟩ := mlift_some e4
      cases h
      refine ⟨ρ, B, W, s.ok, s.sl, _, e3, fun W1 H1 v1 st1 o1 r1 => ?_⟩
      unfold tup2 at hp
      split at hp
      · cases hp
        obtain ⟨a, xs, rfl, hq, va, r2, rfl, ra, vb, r3, rfl, rb, rn⟩ := r1
        have rn : r3 = [] := rn
        subst rn
        cases e2
        refine ⟨a, [va, vb], rfl, o1.sqt hq, rfl, va, [vb], rfl, vb, [], rfl, rfl, ?_⟩
        exact q W1 H1 _ (((s.step st1 o1).put ra i).put rb j) (st1.sle s.ok)
      · cases hp
    · cases h
  · rcases mbind_some e1 with ⟨d1, B2, e3, e4⟩ | ⟨c, B2, e3, h⟩
    · obtain ⟨p, hp, h⟩ := mlift_some e4
      cases h
    · cases h
      exact ⟨ρ, B, W, s.ok, s.sl, _, e3, fun W1 H1 st1 o1 => q W1 H1 σ (s.step st1 o1) (st1.sle s.ok)⟩
/-! raise X('..') -/
def sRaise (c : Str) : FS := fun ρ B => some (.ex c ρ, B)
theorem psv_raise {B0 newId initId : String} {bmB : List Value} {C : Addr} {x m : Str} {j : Nat} {p p2 cp : Pos} (c : Str) (hc : X.calm = true) (tk : Takes X Wx) (hcl : G.ca c = .ref C) (F : ExcBaseFacts B0 newId initId bmB) (q : PySem.W.excIn X.K C bmB newId = true) (gC : X.mg x = some (.ref C)) (kC : PySem.W.keepIn X.K (.ref C) = true) (r : Raises X (.ref C)) (hg : Gl X x := by rfl)
    (hdb : (x == ("__debug__" : Str)) = false := by decide) : PSv G Wx X (.Raise (some (.Call (.Name x p) [.Constant (.str m) j p2] [] cp)) none pos) (sRaise c) :=
  .mk' (ps_raise hc tk (pmk_own F q gC kC r hg hdb)) fun D σ H WA HA L ρ B W o s e q => by
  cases e
  rw [← hcl]
  exact q W H σ s (.refl _ _)
end
end Fmx

namespace Fmx
open PySem PySem.Spec PyProof.Rows L2

/-! ### match, of a tuple -/
inductive MP where
  | lit (x : Str) | cap (i : Nat) | wild
def mMatch : List MP → List D → Option (Option (List (Nat × D)))
  | [], _ => some (some [])
  | .lit x :: r, d :: ds => match eqD d (.str x) with
    | none => none
    | some false => some none
    | some true => mMatch r ds
  | .cap i :: r, d :: ds => (mMatch r ds).map fun o => o.map ((i, d) :: ·)
  | .wild :: r, _ :: ds => mMatch r ds
  | _ :: _, [] => none
def mSeq (ps : List MP) (ds : List D) : Option (Option (List (Nat × D))) := if ds.length = ps.length then mMatch ps ds else some none
def puts (bs : List (Nat × D)) (ρ : Rho) : Rho := bs.foldl (fun ρ b => put ρ b.1 b.2) ρ
abbrev FC := D → FS
def cNone : FC := fun _ ρ B => some (.nx ρ, B)
def cSeq (ps : List MP) (body : FS) (rest : FC) : FC := fun d ρ B => match d with
  | .tup ds => match mSeq ps ds with
    | some (some bs) => body (puts bs ρ) B
    | some none => rest d ρ B
    | none => none
  | _ => none
def cAny (body : FS) : FC := fun _ ρ B => body ρ B
def sMatch (f : FE) (c : FC) : FS := sE f c
/-- a pattern's part -/
inductive PPt (X : Cx) : Pattern → MP → Prop where
  | lit {x : Str} {j : Nat} {p p2 : Pos} : PPt X (.MatchValue (.Constant (.str x) j p) p2) (.lit x)
  | cap {n : Str} {p : Pos} (i : Nat) (hi : X.N[i]? = some n) (hx : Loc X.env.scope n) (hf : X.fn n = true ∨ X.env.scope.names.lookup n = some .local) : PPt X (.MatchAs none (some n) p) (.cap i)
  | wild {p : Pos} : PPt X (.MatchAs none none p) .wild
inductive PPts (X : Cx) : List Pattern → List MP → Prop where
  | nil : PPts X [] []
  | cons {p : Pattern} {m : MP} {ps : List Pattern} {ms : List MP} (h : PPt X p m) (t : PPts X ps ms) : PPts X (p :: ps) (m :: ms)
theorem PPts.len {X : Cx} {ps : List Pattern} {ms : List MP} (h : PPts X ps ms) : ps.length = ms.length := by
  induction h with
  | nil => rfl
  | cons _ _ ih => rw [List.length_cons, List.length_cons, ih]
inductive BR (X : Cx) (W : Wd) : List (Nat × D) → List (Str × Value) → Prop where
  | nil : BR X W [] []
  | cons {i : Nat} {d : D} {n : Str} {v : V} {u : Value} {bs : List (Nat × D)} {nbs : List (Str × Value)} (hi : X.N[i]? = some n) (hx : Loc X.env.scope n) (hf : X.fn n = true ∨ X.env.scope.names.lookup n = some .local) (r : Rep X.K W d v) (q : RelV v u) (t : BR X W bs nbs) : BR X W ((i, d) :: bs) ((n, u) :: nbs)
theorem BR.mono {X : Cx} {W W' : Wd} (l : Le W W') {bs : List (Nat × D)} {nbs : List (Str × Value)} (h : BR X W bs nbs) : BR X W' bs nbs := by
  induction h with
  | nil => exact .nil
  | cons hi hx hf r q _ ih => exact .cons hi hx hf (r.mono l) q ih
section
variable {G : GE} {X : Cx}
/-- what a match's answer says -/
def MA (X : Cx) (W : Wd) : Option (List (Nat × D)) → Option (List (Str × Value)) → Prop
  | none, r => r = none
  | some bs, r => ∃ nbs, r = some nbs ∧ BR X W bs nbs
theorem each_ok (hu : X.A.units + 64 < cLine) {ps : List Pattern} {ms : List MP} (hp : PPts X ps ms) : ∀ {pins : List (Addr × Obj)} {s : Shared} {σ : L2.St} {H : Hp} {W : Wd} {B : Bk} {ds : List D} {vs : List V} {us : List Value} {r : Option (List (Nat × D))} {Q : Option (List (Str × Value)) → Shared → Prop},
    L2.Inv X pins σ H s → Ok X.K G W H B → Reps X.K W ds vs → Vals vs us → ds.length = ms.length → mMatch ms ds = some r → (∀ s' r' W' H', L2.Inv X pins σ H' s' → Stp W H W' H' → Ok X.K G W' H' B → MA X W' r r' → Q r' s') →
    wpAny (model X.prog X.w) X.A (matchEach ps X.env us) Q X.xe s := by
  induction hp with
  | nil =>
    intro pins s σ H W B ds vs us r Q I o rd rv hl hm q
    cases hm
    exact wpAny_matchEach_nil (q s _ W H I (.refl W H) o ⟨[], rfl, .nil⟩)
  | @cons p m ps ms h t ih =>
    intro pins s σ H W B ds vs us r Q I o rd rv hl hm q
    cases ds with
    | nil => simp at hl
    | cons d ds =>
      obtain ⟨v, vr, e, r1, rr⟩ := rd
      subst e
      cases rv with
      | @cons _ u _ ur q1 qr =>
        have hl2 : ds.length = ms.length := by simpa using hl
        cases h with
        | @lit x j p p2 =>
          refine wpAny_matchEach_cons (wpAny_matchPattern_Value ?_)
          refine thn (pe_str.run pins s σ H (fun y H1 => y = .str x ∧ H1 = H) I ⟨rfl, rfl⟩) fun w s1 ⟨y, H1, I1, ry, hy⟩ => ?_
          obtain ⟨rfl, rfl⟩ := hy
          have hm : (match eqD d (.str x) with | none => none | some false => some none | some true => mMatch ms ds) = some r := hm
          cases he : eqD d (.str x) with
          | none => rw [he] at hm; cases hm
          | some b =>
            rw [he] at hm
            have hg : gEq d (.str x) = some (.bl b) := by unfold gEq; rw [he]; rfl
            have rq := opv_eqD (K := X.K) (G := G) W H1 B d (.str x) v (.str x) (.bl b) o r1.vw rfl hg (fun y H' => y = .bl b ∧ ∃ W', Stp W H1 W' H' ∧ Ok X.K G W' H' B) fun W' H' v' st o' r' => ⟨r', W', st, o'⟩
            refine thn (((op_eqD hu).or (op_eqK hu)) pins s1 σ H1 v (.str x) u w _ I1 q1 ry rq) fun c s2 ⟨y, H2, I2, ry2, ey, W2, st2, o2⟩ => ?_
            subst ey
            cases ry2
            refine wpAny_truthy_bool ?_
            cases b with
            | false =>
              cases hm
              exact q s2 none W2 H2 I2 st2 o2 rfl
            | true =>
              refine ih I2 o2 (rr.mono st2.le) qr hl2 hm fun s' r' W' H' I' st' o' ma => ?_
              cases r with
              | none => cases ma; exact q s' none W' H' I' (st2.tr st') o' rfl
              | some bs => obtain ⟨nbs, rfl, br⟩ := ma; exact q s' _ W' H' I' (st2.tr st') o' ⟨nbs, rfl, br⟩
        | @cap n p i hi hx hf =>
          refine wpAny_matchEach_cons (wpAny_matchPattern_Capture ?_)
          have hm : (mMatch ms ds).map (fun o => o.map ((i, d) :: ·)) = some r := hm
          cases he : mMatch ms ds with
          | none => rw [he] at hm; cases hm
          | some r1' =>
            rw [he] at hm; cases hm
            refine ih I o rr qr hl2 he fun s' r' W' H' I' st' o' ma => ?_
            cases r1' with
            | none => cases ma; exact q s' none W' H' I' st' o' rfl
            | some bs => obtain ⟨nbs, rfl, br⟩ := ma; exact q s' _ W' H' I' st' o' ⟨(n, u) :: nbs, rfl, .cons hi hx hf (r1.mono st'.le) q1 br⟩
        | @wild p =>
          refine wpAny_matchEach_cons (wpAny_matchPattern_Capture ?_)
          refine ih I o rr qr hl2 hm fun s' r' W' H' I' st' o' ma => ?_
          cases r with
          | none => cases ma; exact q s' none W' H' I' st' o' rfl
          | some bs => obtain ⟨nbs, rfl, br⟩ := ma; exact q s' _ W' H' I' st' o' ⟨nbs, rfl, br⟩
/-- the bindings are made -/
theorem binds_ok (hN : X.N.Nodup) {W : Wd} {bs : List (Nat × D)} {nbs : List (Str × Value)} (h : BR X W bs nbs) : ∀ {pins : List (Addr × Obj)} {s : Shared} {σ : L2.St} {H : Hp} {B : Bk} {ρ : Rho} {WA : Wd} {HA : Hp} {L : List Addr} {Q : Unit → Shared → Prop},
    L2.Inv X pins σ H s → SOk X.K G WA HA L W H σ ρ B → (∀ s' σ', L2.Inv X pins σ' H s' → SOk X.K G WA HA L W H σ' (puts bs ρ) B → Q () s') →
    wpAny (model X.prog X.w) X.A (assignInOrder (nbs.map fun (n, _) => bindName X.env n) (nbs.map (·.2))) Q X.xe s := by
  induction h with
  | nil => intro pins s σ H B ρ WA HA L Q I so q; exact assignInOrder_nil (q s σ I so)
  | @cons i d n v u bs nbs hi hx hf r q1 t ih =>
    intro pins s σ H B ρ WA HA L Q I so q
    refine assignInOrder_cons (wpAny_bindName (store_ok I hN hi hx q1 (fun s' I' => ?_) hf))
    exact ih I' (so.put r i) q
end
/-- the cases of a match -/
structure PCv (G : GE) (Wx : WX) (X : Cx) (cs : List MatchCase) (f : FC) : Prop where
  run : ∀ (first : Bool) (pins : List (Addr × Obj)) (s : Shared) (σ : L2.St) (H : Hp) (D' : Ends) (v : V) (u : Value) (d : D) (W : Wd) (WA : Wd) (HA : Hp) (L : List Addr) (ρ : Rho) (B : Bk) (o : Fl × Bk), L2.Inv X pins σ H s → RelV v u → Rep X.K W d v → SOk X.K G WA HA L W H σ ρ B → f d ρ B = some o → After X.K G Wx WA HA L W H D' o →
    wpAny (model X.prog X.w) X.A (matchCases cs X.env u first) (SP X pins D') X.xe s
section
variable {G : GE} {Wx : WX} {X : Cx} {e : Expr} {f : FE} {pos p : Pos} {sts : List Stmt} {fs : FS} {fc : FC} {cs : List MatchCase} {ps : List Pattern} {ms : List MP}
theorem pcv_nil : PCv G Wx X [] cNone := ⟨fun first pins s σ H D' v u d W WA HA L ρ B o I rv r so e q => by
  cases e
  exact wpAny_matchCases_nil ⟨σ, H, I, q W H σ so (.refl W H)⟩⟩
theorem pcv_any (hb : PSsv G Wx X sts fs) : PCv G Wx X (⟨.MatchAs none none p, none, sts⟩ :: cs) (cAny fs) := ⟨fun first pins s σ H D' v u d W WA HA L ρ B o I rv r so e q => by
  refine wpAny_matchCases_cons (wpAny_matchPattern_Capture ?_)
  refine assignInOrder_nil ?_
  exact hb.run.run pins s σ H D' I (rdS_iff.mpr ⟨WA, HA, L, ρ, B, W, so, o, e, q⟩)⟩
theorem pcv_seq (hc : X.calm = true) (hN : X.N.Nodup) (hu : X.A.units + 64 < cLine) (hp : PPts X ps ms) (hb : PSsv G Wx X sts fs) (hr : PCv G Wx X cs fc) (hstar : ps.findIdx? (·.isStar) = none := by rfl) (hwild : (ps.all fun p => p.isWildcard || (p.isStar && p.names.isEmpty)) = false := by rfl) :
    PCv G Wx X (⟨.MatchSequence ps p, none, sts⟩ :: cs) (cSeq ms fs fc) := ⟨fun first pins s σ H D' v u d W WA HA L ρ B o I rv r so e q => by
  cases d with
  | tup ds =>
    obtain ⟨a, xs, rfl, hq, rr⟩ := id r
    obtain rfl : u = Value.ref a := rv
    have e : (match mSeq ms ds with | some (some bs) => fs (puts bs ρ) B | some none => fc (.tup ds) ρ B | none => none) = some o := e
    obtain ⟨its, rvs, ht, hz⟩ := I.tuple (so.ok.sqt hq)
    have hl1 := rr.len
    have hl2 := rvs.length
    have hl3 := hp.len
    have hs : sizeLine = 16777216 := sizeLine_eq
    refine wpAny_matchCases_cons ?_
    have hfit : (its.toArray.size : Int) < 2 ^ 63 := by
      rw [List.size_toArray]
      omega
    by_cases hl : ds.length = ms.length
    · refine matchSeq_tuple_hit ht hfit (by rw [List.size_toArray]; omega) ?_ hstar hwild
      have hps : ps.length = its.toArray.size := by rw [List.size_toArray]; omega
      rw [hps]
      refine unpackItems_tuple (I.ok.hd hc) ht fun h' hx => ?_
      have I1 : L2.Inv X pins σ H { s with heap := h', toks := s.toks + 1 + 1 } := I.kept fun b o e => hx b o (Nat.ne_of_lt (Heap.lt_size e)) e
      have em : mSeq ms ds = mMatch ms ds := by unfold mSeq; rw [if_pos hl]
      rw [em] at e
      cases hm : mMatch ms ds with
      | none => rw [hm] at e; cases e
      | some r0 =>
        rw [hm] at e
        have hIt : its.toArray.toList = its := by simp
        rw [hIt]
        refine each_ok hu hp I1 so.ok rr rvs hl hm fun s' r' W' H' I' st' o' ma => ?_
        have so' := so.step st' o'
        cases r0 with
        | none => cases ma; exact hr.run false pins s' σ H' D' (.ref a) _ (.tup ds) W' WA HA L ρ B o I' rfl (r.mono st'.le) so' e (q.step (st'.sle so.ok))
        | some bs =>
          obtain ⟨nbs, rfl, br⟩ := ma
          refine binds_ok hN br I' so' fun s2 σ' I2 so2 => ?_
          exact hb.run.run pins s2 σ' H' D' I2 (rdS_iff.mpr ⟨WA, HA, L, _, B, W', so2, o, e, q.step (st'.sle so.ok)⟩)
    · refine matchSeq_tuple_miss ht hfit (by rw [List.size_toArray]; omega) ?_ hstar hwild
      have em : mSeq ms ds = some none := by unfold mSeq; rw [if_neg hl]
      rw [em] at e
      exact hr.run false pins _ σ H D' (.ref a) _ (.tup ds) W WA HA L ρ B o (I.tok _) rfl r so e q
  | _ => cases e⟩
theorem psv_match (he : PEv G Wx X e f) (hc : PCv G Wx X cs fc) : PSv G Wx X (.Match e cs pos) (sMatch f fc) := ⟨⟨fun pins s σ H D' I q => by
  obtain ⟨WA, HA, L, ρ, B, W, so, o, e, q⟩ := rdS_iff.mp q
  refine wpAny_Match ?_
  refine thn (he.run.run pins s σ H (fun v H1 => ∃ d W1 B1, Rep X.K W1 d v ∧ SOk X.K G WA HA L W1 H1 σ ρ B1 ∧ fc d ρ B1 = some o ∧ After X.K G Wx WA HA L W1 H1 D' o) I ?_) fun u s1 ⟨v, H1, I1, rv, d, W1, B1, r, so1, ec, q1⟩ => ?_
  · exact e_rd so e q fun d B1 W1 H1 v k s1 l r => ⟨d, W1, B1, r, s1, k, q.step l⟩
  · exact hc.run true pins s1 σ H1 D' v u d W1 WA HA L ρ B1 o I1 rv r so1 ec q1⟩⟩
end
end Fmx

namespace Fmx
open PySem PySem.Spec PyProof.Rows L2

theorem tkW {X : Cx} : Takes X W0 := fun u s' ⟨a, B, sI, pins, σ, H, cls, d, e, I, nb, up, sky, na, os, ag, w⟩ => w.elim
theorem blk_of {N : List Str} {sc scope : Scope} {own : List (Str × Nat)} (hk : scope.kind = .function)
    (h : decide ((∀ y ∈ scope.names, scope.names.lookup y.1 = some y.2) ∧ (∀ p ∈ own, N[p.2]? = some p.1) ∧ (∀ y ∈ scope.names, y.2 = .free → sc.names.lookup y.1 = some .cell ∨ sc.names.lookup y.1 = some .free) ∧
      (∀ y ∈ scope.names, y.2 = .local ∨ y.2 = .cell → y.1 ∈ own.map (·.1) ∨ y.1 ∉ N)) = true) : BlkOk N sc scope own :=
  let ⟨a, b, c, d⟩ := of_decide_eq_true h
  ⟨hk, a, b, c, d⟩
/-- a def one may call -/
def Cal (P : Program) (w : World) (K : PySem.W.Frag) (mg : Str → Option Value) (base : Heap) (G : GE) (k : Nat) (x : Str) (ps : List Str) (ff : FFn) (n : Nat) : Prop :=
  ∃ f fd, FnOk P w K mg base (L2.CX P w) k f fd ps (spF K G ff n) ∧ mg x = some (.ref f) ∧ PySem.W.keepIn K (.ref f) = true ∧ Binds K fd ps [] ∧ ∀ rs B o, ff rs B = some o → rs.length = n
section
variable {P : Program} {w : World} {K : PySem.W.Frag} {mg : Str → Option Value} {base : Heap} {G : GE}
theorem fn_okT {x qual : Str} {st : Stmt} {f : Addr} {fd : FuncData} {N ps : List Str} {k : Nat} {body : FS} (F : Fun K x qual st f fd) (S : FnScope N ps (defScope st))
    (hb : ∀ (cdv : Value) (A : Around) (outer : List Env) (s : Shared) (H : Hp) (E : XK), Room k (A.deeper (envOfC qual (defScope st) s.heap.objs.size f cdv)) →
      Takes (cxOf (L2.CX P w) P w K mg base N qual (defScope st) f cdv A outer s H E) (fun c d _ H => E c d H) →
      PassesOwn (model P w) (A.deeper (envOfC qual (defScope st) s.heap.objs.size f cdv)) (envOfC qual (defScope st) s.heap.objs.size f cdv) (cxOf (L2.CX P w) P w K mg base N qual (defScope st) f cdv A outer s H E).xe →
      PSsv G (fun c d _ H => E c d H) (cxOf (L2.CX P w) P w K mg base N qual (defScope st) f cdv A outer s H E) (defBody st) body) :
    FnOk P w K mg base (L2.CX P w) (k + 1) f fd ps (spF K G (fnF ps.length N.length body) ps.length) :=
  fn_ok F S fun cdv A outer s H E hr => hb cdv A outer s H E hr (takes_of rfl rfl rfl rfl) (passes_of (X := cxOf (L2.CX P w) P w K mg base N qual (defScope st) f cdv A outer s H E) rfl)
theorem cal_of {x qual : Str} {st : Stmt} {f : Addr} {fd : FuncData} {N ps : List Str} {k : Nat} {body : FS} (F : Fun K x qual st f fd) (S : FnScope N ps (defScope st)) (gX : mg x = some (.ref f)) (kX : PySem.W.keepIn K (.ref f) = true) (bX : Binds K fd ps [])
    (hb : ∀ (cdv : Value) (A : Around) (outer : List Env) (s : Shared) (H : Hp) (E : XK), Room k (A.deeper (envOfC qual (defScope st) s.heap.objs.size f cdv)) →
      Takes (cxOf (L2.CX P w) P w K mg base N qual (defScope st) f cdv A outer s H E) (fun c d _ H => E c d H) →
      PassesOwn (model P w) (A.deeper (envOfC qual (defScope st) s.heap.objs.size f cdv)) (envOfC qual (defScope st) s.heap.objs.size f cdv) (cxOf (L2.CX P w) P w K mg base N qual (defScope st) f cdv A outer s H E).xe →
      PSsv G (fun c d _ H => E c d H) (cxOf (L2.CX P w) P w K mg base N qual (defScope st) f cdv A outer s H E) (defBody st) body) :
    Cal P w K mg base G (k + 1) x ps (fnF ps.length N.length body) ps.length := ⟨f, fd, fn_okT F S hb, gX, kX, bX, fnF_len⟩
end
def callQ (f : FFn) (rs : List R) : M R := fun B => match f rs B with
  | some (.ok ⟨.own, d⟩, B') => some (.ok ⟨.own, d⟩, B')
  | some (.ok r, B') => some (.ok ⟨.shr, r.d⟩, B')
  | some (.ex c, B') => some (.ex c, B')
  | none => none
def fCallQ (f : FFn) (fa : FR) : Rho → M R := fun ρ => mbind (fa ρ) fun rs => callQ f rs
/-- a result, fresh or shared -/
def RdQ (K : PySem.W.Frag) (G : GE) (Wx : WX) (f : Rho → M R) : TE := fun σ H Q => ∃ ρ B W, Ok K G W H B ∧ Slots K W H σ ρ ∧ ∃ o, f ρ B = some o ∧ match o with
  | (.ok r, B') => ∀ W' H' v, Stp W H W' H' → Ok K G W' H' B' → RetOk K W H W' H' v r → Q v H'
  | (.ex c, B') => ∀ W' H', Stp W H W' H' → Ok K G W' H' B' → Wx (G.ca c) none σ H'
structure PQv (G : GE) (Wx : WX) (X : Cx) (e : Expr) (f : Rho → M R) : Prop where run : PE X e (RdQ X.K G Wx f)
def sSetQ (i : Nat) (f : Rho → M R) : FS := sE f fun r ρ B => match r with
  | ⟨.own, d⟩ => some (.nx (putO ρ i d), B)
  | ⟨.shr, d⟩ => some (.nx (put ρ i d), B)
  | _ => none
def sRetQ (f : Rho → M R) : FS := sE f fun r _ B => match r with
  | ⟨.own, d⟩ => some (.ret ⟨.own, d⟩, B)
  | ⟨.shr, d⟩ => some (.ret ⟨.shr, d⟩, B)
  | _ => none
section
variable {G : GE} {Wx : WX} {X : Cx} {e : Expr} {es : List Expr} {fa : FR} {pos p px : Pos} {x : Str} {k kk n : Nat} {ps : List Str} {ff : FFn} {fq : Rho → M R}
theorem pev_callC (C : Cal X.prog X.w X.K X.mg X.base G kk x ps ff n) (hr : Room k X.A) (hk : kk ≤ k) (tk : Takes X Wx)
    (ha : PRv G Wx X (e :: es) fa) (hg : Gl X x := by rfl) (hdb : (x == ("__debug__" : Str)) = false := by decide) (he : starEach (e :: es) X.env = (false, eval e X.env) :: starEach es X.env := by rfl) (hpl : (backTo pos (starEach es X.env)).any (·.1) = false := by rfl) :
    PEv G Wx X (.Call (.Name x p) (e :: es) [] pos) (fCall ff fa) := by
  obtain ⟨f, fd, F, gm, kp, bi, hn⟩ := C
  exact pev_call F hn (hr.mono hk) gm kp bi tk ha hg hdb he hpl
theorem pfv_callC (C : Cal X.prog X.w X.K X.mg X.base G kk x ps ff n) (hr : Room k X.A) (hk : kk ≤ k) (tk : Takes X Wx)
    (ha : PRv G Wx X (e :: es) fa) (hg : Gl X x := by rfl) (hdb : (x == ("__debug__" : Str)) = false := by decide) (he : starEach (e :: es) X.env = (false, eval e X.env) :: starEach es X.env := by rfl) (hpl : (backTo pos (starEach es X.env)).any (·.1) = false := by rfl) :
    PFv G Wx X (.Call (.Name x p) (e :: es) [] pos) (fCallO ff fa) := by
  obtain ⟨f, fd, F, gm, kp, bi, hn⟩ := C
  exact pfv_call F hn (hr.mono hk) gm kp bi tk ha hg hdb he hpl
theorem callQ_rd {σ : L2.St} {H : Hp} {Q : VK} {ρ : Rho} {B : Bk} {W : Wd} {out : Res R × Bk} (hn : ∀ rs B o, ff rs B = some o → rs.length = n) (o : Ok X.K G W H B) (s : Slots X.K W H σ ρ) (e : fCallQ ff fa ρ B = some out)
    (q : match out with
      | (.ok r, B') => ∀ W' H' v, Stp W H W' H' → Ok X.K G W' H' B' → RetOk X.K W H W' H' v r → Q v H'
      | (.ex c, B') => ∀ W' H', Stp W H W' H' → Ok X.K G W' H' B' → Wx (G.ca c) none σ H') : tCallS (spF X.K G ff n) (WE Wx) (RdR X.K G Wx fa) σ H Q := by
  rcases mbind_some e with ⟨rs, B1, e1, e2⟩ | ⟨c, B1, e1, rfl⟩
  · refine ⟨ρ, B, W, o, s, _, e1, fun W1 H1 vs st1 o1 r1 => ?_⟩
    unfold callQ at e2
    split at e2
    · rename_i d B' er
      cases e2
      refine ⟨by rw [r1.len]; exact hn _ _ _ er, W1, B1, rs, o1, r1, _, er, fun W' H' v st o' rr => ?_⟩
      obtain ⟨p, rfl, h0, r2⟩ := rr
      exact q W' H' _ (st1.tr st) o' ⟨p, rfl, st1.fr h0, r2⟩
    · rename_i r B' hno er
      cases e2
      refine ⟨by rw [r1.len]; exact hn _ _ _ er, W1, B1, rs, o1, r1, _, er, fun W' H' v st o' rr => ?_⟩
      obtain ⟨t, d⟩ := r
      cases t with
      | shr => exact q W' H' v (st1.tr st) o' rr
      | lck => exact q W' H' v (st1.tr st) o' rr
      | brw => exact q W' H' v (st1.tr st) o' rr
      | own => exact (hno d rfl).elim
    · rename_i c B' er
      cases e2
      exact ⟨by rw [r1.len]; exact hn _ _ _ er, W1, B1, rs, o1, r1, _, er, fun W' H' st o' => q W' H' (st1.tr st) o'⟩
    · cases e2
  · exact ⟨ρ, B, W, o, s, _, e1, q⟩
theorem pqv_callC (C : Cal X.prog X.w X.K X.mg X.base G kk x ps ff n) (hr : Room k X.A) (hk : kk ≤ k) (tk : Takes X Wx)
    (ha : PRv G Wx X (e :: es) fa) (hg : Gl X x := by rfl) (hdb : (x == ("__debug__" : Str)) = false := by decide) (he : starEach (e :: es) X.env = (false, eval e X.env) :: starEach es X.env := by rfl) (hpl : (backTo pos (starEach es X.env)).any (·.1) = false := by rfl) :
    PQv G Wx X (.Call (.Name x p) (e :: es) [] pos) (fCallQ ff fa) := by
  obtain ⟨f, fd, F, gm, kp, bi, hn⟩ := C
  exact ⟨pe_weak (pe_callS F (hr.mono hk) hg gm kp bi (passAt tk) ha.run hdb he hpl) fun σ H Q ⟨ρ, B, W, o, s, out, e, q⟩ => by
    obtain ⟨out, B'⟩ := out
    cases out with
    | ok d => exact callQ_rd hn o s e q
    | ex c => exact callQ_rd hn o s e q⟩
def tCallS0 (sp : Sp) (E : L2.St → XK) : TE := fun σ H Q => sp [] H Q (E σ)
theorem pe_callS0 {CX : CXT} {sp : Sp} {E : L2.St → XK} {f : Addr} {fd : FuncData} (F : FnOk X.prog X.w X.K X.mg X.base CX k f fd ps sp) (hr : Room k X.A) (hg : Gl X x) (hm : X.mg x = some (.ref f)) (hk : PySem.W.keepIn X.K (.ref f) = true) (hb : Binds X.K fd ps []) (hx : ∀ σ, PassesAt CX X σ (E σ))
    (hdb : (x == ("__debug__" : Str)) = false := by decide) : PE X (.Call (.Name x p) [] [] pos) (tCallS0 sp E) := by
  refine ⟨fun pins s σ H Q I h => ?_⟩
  refine wpAny_Call_Name_kw (ld_glob I hg hm ?_ hdb)
  exact PySem.W.callWith_K0 I.kIn hk (run_fnS (us := []) F hr hb (hx σ) I .nil h)
theorem pe_callSA0 {CX : CXT} {sp : Sp} {E : L2.St → XK} {f : Addr} {fd : FuncData} (F : FnOk X.prog X.w X.K X.mg X.base CX k f fd ps sp) (hr : Room k X.A) (hg : Gl X x) (hm : X.mg x = some (.ref f)) (hk : PySem.W.keepIn X.K (.ref f) = true) (hb : Binds X.K fd ps []) (hx : ∀ σ, PassesAt CX X σ (E σ))
    (hdb : (x == ("__debug__" : Str)) = false := by decide) : PE X (.Call (.Name x p) [] [] pos) (tCallS sp E (RdR X.K G Wx fR0)) := pe_weak (pe_callS0 F hr hg hm hk hb hx hdb) fun σ H Q h => by
  obtain ⟨ρ, B, W, o, s, out, e, q⟩ := h
  cases e
  exact q W H [] (.refl W H) o rfl
theorem pev_call0C (C : Cal X.prog X.w X.K X.mg X.base G kk x ps ff n) (hr : Room k X.A) (hk : kk ≤ k) (tk : Takes X Wx) (hg : Gl X x := by rfl) (hdb : (x == ("__debug__" : Str)) = false := by decide) :
    PEv G Wx X (.Call (.Name x p) [] [] pos) (fCall ff fR0) := by
  obtain ⟨f, fd, F, gm, kp, bi, hn⟩ := C
  exact ⟨pe_weak (pe_callSA0 F (hr.mono hk) hg gm kp bi (passAt tk) hdb) fun σ H Q ⟨ρ, B, W, o, s, out, e, q⟩ => by
    obtain ⟨out, B'⟩ := out
    cases out with
    | ok d => exact call_rd hn o s e q
    | ex c => exact call_rd hn o s e q⟩
theorem pqv_call0C (C : Cal X.prog X.w X.K X.mg X.base G kk x ps ff n) (hr : Room k X.A) (hk : kk ≤ k) (tk : Takes X Wx) (hg : Gl X x := by rfl) (hdb : (x == ("__debug__" : Str)) = false := by decide) :
    PQv G Wx X (.Call (.Name x p) [] [] pos) (fCallQ ff fR0) := by
  obtain ⟨f, fd, F, gm, kp, bi, hn⟩ := C
  exact ⟨pe_weak (pe_callSA0 F (hr.mono hk) hg gm kp bi (passAt tk) hdb) fun σ H Q ⟨ρ, B, W, o, s, out, e, q⟩ => by
    obtain ⟨out, B'⟩ := out
    cases out with
    | ok d => exact callQ_rd hn o s e q
    | ex c => exact callQ_rd hn o s e q⟩
theorem q_rd {k : R → FS} {D : Ends} {σ : L2.St} {H : Hp} {WA : Wd} {HA : Hp} {L : List Addr} {ρ : Rho} {B : Bk} {W : Wd} {o : Fl × Bk} {Q : VK} (s : SOk X.K G WA HA L W H σ ρ B) (e : sE fq k ρ B = some o) (q : After X.K G Wx WA HA L W H D o)
    (h : ∀ r B1 W1 H1 v, k r ρ B1 = some o → Stp W H W1 H1 → Ok X.K G W1 H1 B1 → RetOk X.K W H W1 H1 v r → Q v H1) : RdQ X.K G Wx fq σ H Q := by
  rcases sE_some e with ⟨d, B1, e1, e2⟩ | ⟨c, B1, e1, rfl⟩
  · exact ⟨ρ, B, W, s.ok, s.sl, _, e1, fun W1 H1 v st o1 r => h d B1 W1 H1 v e2 st o1 r⟩
  · exact ⟨ρ, B, W, s.ok, s.sl, _, e1, fun W1 H1 st o1 => q W1 H1 σ (s.step st o1) (st.sle s.ok)⟩
theorem psv_setQ {pos' : Pos} (i : Nat) (hN : X.N.Nodup) (hi : X.N[i]? = some x) (hx : Loc X.env.scope x) (he : PQv G Wx X e fq) (hs : swapsWith e (some (.Name x pos')) pos.line X.env = pure false := by rfl) (hf : X.fn x = true ∨ X.env.scope.names.lookup x = some .local := by first | exact .inl rfl | exact .inr rfl | assumption) :
    PSv G Wx X (.Assign [.Name x pos'] e pos) (sSetQ i fq) := .mk' (ps_set hN hi hx he.run hs hf) fun D σ H WA HA L ρ B W o s e q => by
  refine q_rd s e q fun r B1 W1 H1 v k st o1 rr => ?_
  obtain ⟨t, d⟩ := r
  cases t with
  | own =>
    cases k
    obtain ⟨p, rfl, h0, hF, hw, c⟩ := rr
    exact q W1 H1 _ (s.own st o1 h0 hF hw c i) (st.sle s.ok)
  | shr => cases k; exact q W1 H1 _ ((s.step st o1).put rr i) (st.sle s.ok)
  | lck => cases k
  | brw => cases k
theorem psv_retQ (he : PQv G Wx X e fq) : PSv G Wx X (.Return (some e) pos) (sRetQ fq) := .mk' (ps_ret he.run) fun D σ H WA HA L ρ B W o s e q => by
  refine q_rd s e q fun r B1 W1 H1 v k st o1 rr => ?_
  obtain ⟨t, d⟩ := r
  cases t with
  | own =>
    cases k
    obtain ⟨p, rfl, h0, hF, hw, c⟩ := rr
    exact q W1 H1 _ (s.st.tr st) o1 (st.sle s.ok) ⟨p, rfl, s.st.fr h0, hF, hw, c⟩
  | shr => cases k; exact q W1 H1 _ (s.st.tr st) o1 (st.sle s.ok) rr
  | lck => cases k
  | brw => cases k
end
end Fmx

namespace Fmx
open PySem PySem.Spec PyProof.Rows L2

/-- the classes by their names -/
def GK (K : PySem.W.Frag) : GE := ⟨match PySem.W.nsIn K mainGlobals "Book" with | some (some (.ref C)) => C | _ => 0, fun c => match PySem.W.nsIn K mainGlobals c with | some (some v) => v | _ => .none⟩
def DefAt (K : PySem.W.Frag) (x : Str) (st : Stmt) : Prop := ∃ f fd, PySem.W.nsIn K mainGlobals x = some (some (.ref f)) ∧ Fun K x x st f fd
theorem def_at {K : PySem.W.Frag} {x : Str} {st : Stmt} {f : Addr} {od an : Option Addr} {sl : Array (Option Value)} {oc kV dc pm cd ct : Value}
    (a : PySem.W.nsIn K mainGlobals x = some (some (.ref f))) (l : K.lookup f = some ⟨oc, od, .func (PySem.W.fnOf x x (defArgs st) (defBody st) (defScope st) .none kV dc pm an cd ct), sl⟩) (c : PySem.W.codeIn K cd x = true) (k : PySem.W.keepIn K (.ref f) = true) : DefAt K x st :=
  ⟨f, _, a, fun_mk (st := st) l c k⟩
def intAt (K : PySem.W.Frag) (x : Str) (i : Int) : Prop := ∃ t, PySem.W.nsIn K mainGlobals x = some (some (.int i t))
theorem int_at {K : PySem.W.Frag} {x : Str} {i : Int} {t : Tok} (h : PySem.W.nsIn K mainGlobals x = some (some (.int i t))) : intAt K x i := ⟨t, h⟩
theorem DefAt.get {K : PySem.W.Frag} {x : Str} {st : Stmt} {mg : Str → Option Value} {h : Heap} (X : K.In h) (G : h.Ns mainGlobals mg) (d : DefAt K x st) : ∃ f fd, mg x = some (.ref f) ∧ Fun K x x st f fd :=
  let ⟨f, fd, a, F⟩ := d
  ⟨f, fd, PySem.W.mg_of X G a, F⟩
theorem intAt.get {K : PySem.W.Frag} {x : Str} {i : Int} {mg : Str → Option Value} {h : Heap} (X : K.In h) (G : h.Ns mainGlobals mg) (d : intAt K x i) : ∃ t, mg x = some (.int i t) :=
  let ⟨t, a⟩ := d
  ⟨t, PySem.W.mg_of X G a⟩
/-- the script as it stands at first -/
def W1 (H : Hp) (a : Addr) : Wd := ⟨fun b => if b = a then H a else none, fun _ => none, [], none⟩
theorem law_end {K : PySem.W.Frag} {G : GE} {f : FFn} {H : Hp} {a : Addr} {ns : List Int} {B : Bk} (hf : f [⟨.shr, .scr ns⟩] [] = some (.ok ⟨.shr, .bl true⟩, B)) (hS : SqL K H a (ns.map V.int)) : spF K G f 1 [.ref a] H (fun v _ => v = .bl true) fun _ _ _ => False := by
  refine ⟨rfl, W1 H a, [], [⟨.shr, .scr ns⟩], ⟨fun b u h => ?_, (fun b k h => by cases h), rfl, (fun k o h => by simp at h)⟩, ⟨.ref a, [], rfl, rfl, ⟨a, rfl, ?_⟩, rfl⟩, _, hf, fun W' H' v st o' r => r⟩
  · have h : (if b = a then H a else none) = some u := h
    split at h
    · rename_i e; subst e; exact .inl h
    · cases h
  · rcases hS with h | h
    · left
      have e : (W1 H a).F a = H a := by show (if a = a then H a else none) = _; rw [if_pos rfl]
      rcases h with h | ⟨q, h⟩
      · exact .inl (e.trans h)
      · exact .inr ⟨q, e.trans h⟩
    · exact .inr h
theorem cx_end {P : Program} {w : World} {H : Hp} {s : Shared} {e : Value} {s' : Shared} (h : L2.CX P w [] H s (fun _ _ _ => False) e s') : False := by
  obtain ⟨a, B, H', cls, d, _, _, _, _, _, _, _, q⟩ := h
  exact q
theorem walk_mine {l : PySem.W.OpenLaw} {n k : Nat} {q : Program} {loose : List Str} {XP : (Str → Option Value) → Heap → Prop} {YP : World → Heap → Prop} {d : DefRec} {K : Params → PySem.W.Frag} {x : Str} (f : FFn)
    (hn : l.most = some n) (hn2 : n ≤ sizeLine) (hdf : d.params.defaults = []) (hr : Room k callerA)
    (hY : ∀ (w : World) (h : Heap), YP w h → (K w.params).In h)
    (hf : ∀ ns : List Int, ns.length ≤ n → ∃ B, f [⟨.shr, .scr ns⟩] [] = some (.ok ⟨.shr, .bl true⟩, B))
    (F : ∀ (w : World) (mg : Str → Option Value) (fa : Addr) (h : Heap), (K w.params).In h → h.Ns mainGlobals mg → mg d.name = some (.ref fa) →
      ∃ fd : FuncData, (∀ (s : Shared) (u : Value), BindsTo s fd ⟨[u], []⟩ [(x, u)]) ∧
        ∀ base : Heap, (K w.params).In base → base.Ns mainGlobals mg → FnOk l.prog w (K w.params) mg base (L2.CX l.prog w) k fa fd [x] (spF (K w.params) (GK (K w.params)) f 1)) :
    PySem.W.WalkO q loose XP YP l.row.toRowW d [] (fun f vs => PySem.call f vs) :=
  walk_of (CX := fun w => L2.CX l.prog w) (sp := fun w => spF (K w.params) (GK (K w.params)) f 1) hn hn2 hdf hr hY F (fun w H a ns hl _ hS => law_end (hf ns hl).choose_spec hS) fun w H s e s' h => cx_end h
theorem walk_mineB {l : PySem.W.OpenLaw} {n k : Nat} {q : Program} {loose : List Str} {XP : (Str → Option Value) → Heap → Prop} {YP : World → Heap → Prop} {d : DefRec} {K : Params → PySem.W.Frag} {x : Str} (f : FFn)
    (hn : l.most = some n) (hn2 : n ≤ sizeLine) (hdf : d.params.defaults = []) (hr : Room k callerA)
    (hY : ∀ (w : World) (h : Heap), YP w h → (K w.params).In h)
    (hf : ∀ ns : List Int, ns.length ≤ n → (∀ z ∈ ns, Builtin.Int.intBits z ≤ 1048576) → ∃ B, f [⟨.shr, .scr ns⟩] [] = some (.ok ⟨.shr, .bl true⟩, B))
    (F : ∀ (w : World) (mg : Str → Option Value) (fa : Addr) (h : Heap), (K w.params).In h → h.Ns mainGlobals mg → mg d.name = some (.ref fa) →
      ∃ fd : FuncData, (∀ (s : Shared) (u : Value), BindsTo s fd ⟨[u], []⟩ [(x, u)]) ∧
        ∀ base : Heap, (K w.params).In base → base.Ns mainGlobals mg → FnOk l.prog w (K w.params) mg base (L2.CX l.prog w) k fa fd [x] (spF (K w.params) (GK (K w.params)) f 1)) :
    PySem.W.WalkO q loose XP YP l.row.toRowW d [] (fun f vs => PySem.call f vs) :=
  walk_ofB (CX := fun w => L2.CX l.prog w) (sp := fun w => spF (K w.params) (GK (K w.params)) f 1) hn hn2 hdf hr hY F (fun w H a ns hl hb _ hS => law_end (hf ns hl hb).choose_spec hS) fun w H s e s' h => cx_end h
end Fmx

namespace Fmx
open PySem PySem.Spec PyProof.Rows L2

/-! ### evaluating the functions -/
theorem ite_ap {α β : Sort _} (c : Prop) [Decidable c] (f g : α → β) (x : α) : (if c then f else g) x = if c then f x else g x := by split <;> rfl
theorem lcGo_all {j : Nat} {fe : FE} {ρ : Rho} {B : Bk} {g : D → D} : ∀ {items acc : List D}, (∀ d ∈ items, fe (put ρ j d) B = some (.ok (g d), B)) → lcGo j fYes fe ρ items acc B = some (.ok (.lst (acc ++ items.map g)), B)
  | [], acc, _ => by simp [lcGo, mret]
  | d :: r, acc, h => by
    have h1 := h d List.mem_cons_self
    have h2 := lcGo_all (items := r) (acc := acc ++ [g d]) fun x hx => h x (List.mem_cons_of_mem _ hx)
    simp only [lcGo, mbind, noex, fYes, mret, h1, if_true]
    rw [h2]; simp
theorem lc_all {j : Nat} {fi : FI} {fe : FE} {ρ : Rho} {B : Bk} {items : List D} (g : D → D) (hi : fi ρ B = some (.ok items, B)) (hl : items.length ≤ 1000000) (h : ∀ d ∈ items, fe (put ρ j d) B = some (.ok (g d), B)) :
    fLc j fi fYes fe ρ B = some (.ok (.lst (items.map g)), B) := by
  simp only [fLc, mbind, hi, few, hl, if_true]
  rw [lcGo_all h]; simp
theorem lcGo_filter {j : Nat} {ft : FT} {fe : FE} {ρ : Rho} {B : Bk} {g : D → D} {p : D → Bool} : ∀ {items acc : List D}, (∀ d ∈ items, ft (put ρ j d) B = some (.ok (p d), B)) → (∀ d ∈ items, p d = true → fe (put ρ j d) B = some (.ok (g d), B)) →
    lcGo j ft fe ρ items acc B = some (.ok (.lst (acc ++ (items.filter p).map g)), B)
  | [], acc, _, _ => by simp [lcGo, mret]
  | d :: r, acc, h, h' => by
    have h1 := h d List.mem_cons_self
    have ih := fun acc => lcGo_filter (items := r) (acc := acc) (fun x hx => h x (List.mem_cons_of_mem _ hx)) fun x hx => h' x (List.mem_cons_of_mem _ hx)
    cases hp : p d with
    | false =>
      simp only [lcGo, mbind, noex, h1, hp]
      rw [List.filter_cons_of_neg (by simp [hp])]
      exact ih acc
    | true =>
      have h2 := h' d List.mem_cons_self hp
      simp only [lcGo, mbind, noex, h1, hp, if_true, h2]
      rw [List.filter_cons_of_pos hp]
      rw [ih]; simp
theorem lc_filter {j : Nat} {fi : FI} {ft : FT} {fe : FE} {ρ : Rho} {B : Bk} {items : List D} (p : D → Bool) (g : D → D) (hi : fi ρ B = some (.ok items, B)) (hl : items.length ≤ 1000000) (h : ∀ d ∈ items, ft (put ρ j d) B = some (.ok (p d), B)) (h' : ∀ d ∈ items, p d = true → fe (put ρ j d) B = some (.ok (g d), B)) :
    fLc j fi ft fe ρ B = some (.ok (.lst ((items.filter p).map g)), B) := by
  simp only [fLc, mbind, hi, few, hl, if_true]
  rw [lcGo_filter h h']; simp
/-- a char against a letter -/
theorem le_char1 (a c : Nat) : gLe (.str ⟨#[a]⟩) (.str ⟨#[c]⟩) = some (.bl (decide (a ≤ c))) := by
  have e : (!decide (([c] : List Nat) < [a])) = decide (a ≤ c) := by
    by_cases h : a ≤ c
    · have : ¬ ([c] : List Nat) < [a] := by simp [List.cons_lt_cons_iff]; omega
      simp [h, this]
    · have : ([c] : List Nat) < [a] := by simp [List.cons_lt_cons_iff]; omega
      simp [h, this]
  show some (D.bl (!decide (([c] : List Nat) < [a]))) = _
  rw [e]
theorem lit_a : (("a" : Str)) = ⟨#[97]⟩ := by decide +kernel
theorem lit_z : (("z" : Str)) = ⟨#[122]⟩ := by decide +kernel
/-- a text that one may compare and keep -/
def GS (x : Str) : Prop := x.length ≤ 1000000 ∧ ∀ c ∈ x.cps.toList, c < 1114112
theorem GS.shaped {x : Str} (h : GS x) : SeqAt.shaped (.str x) = true := by
  have : (x.cps.all (· < 0x110000)) = true := by
    rw [← Array.all_toList]
    exact List.all_eq_true.mpr fun c hc => by simpa using h.2 c hc
  unfold SeqAt.shaped
  rw [Bool.and_eq_true]
  refine ⟨?_, by simp [PyData.depth]⟩
  unfold PyData.canLay0 PyData.strOk
  exact this
theorem eqD_str {x y : Str} (hx : GS x) (hy : GS y) : eqD (.str x) (.str y) = some (x == y) := by
  show (if SeqAt.shaped (.str x) && SeqAt.shaped (.str y) then some (PyData.eqv (.str x) (.str y)) else none) = _
  rw [hx.shaped, hy.shaped]
  simp [PyData.eqv]
theorem eqD_int (i j : Int) : eqD (.int i) (.int j) = some (i == j) := by
  show (if SeqAt.shaped (.int i) && SeqAt.shaped (.int j) then some (PyData.eqv (.int i) (.int j)) else none) = _
  have e : ∀ i : Int, SeqAt.shaped (.int i) = true := fun i => by simp [SeqAt.shaped, PyData.canLay0, PyData.depth]
  rw [e, e]
  simp [PyData.eqv]
theorem eqD_bl (i j : Bool) : eqD (.bl i) (.bl j) = some (i == j) := by
  show (if SeqAt.shaped (.bool i) && SeqAt.shaped (.bool j) then some (PyData.eqv (.bool i) (.bool j)) else none) = _
  have e : ∀ i : Bool, SeqAt.shaped (.bool i) = true := fun i => by simp [SeqAt.shaped, PyData.canLay0, PyData.depth]
  rw [e, e]
  simp [PyData.eqv]
theorem gEq_str {x y : Str} (hx : GS x) (hy : GS y) : gEq (.str x) (.str y) = some (.bl (x == y)) := by unfold gEq; rw [eqD_str hx hy]; rfl
theorem gNe_str {x y : Str} (hx : GS x) (hy : GS y) : gNe (.str x) (.str y) = some (.bl (x != y)) := by unfold gNe; rw [eqD_str hx hy]; rfl
theorem gEq_int (i j : Int) : gEq (.int i) (.int j) = some (.bl (i == j)) := by unfold gEq; rw [eqD_int]; rfl
theorem gNe_int (i j : Int) : gNe (.int i) (.int j) = some (.bl (i != j)) := by unfold gNe; rw [eqD_int]; rfl
theorem gEq_bl (i j : Bool) : gEq (.bl i) (.bl j) = some (.bl (i == j)) := by unfold gEq; rw [eqD_bl]; rfl
def pyS (xs : List Str) : List PyData := xs.map .str
theorem toPys_strs (xs : List Str) : toPys (xs.map .str) = some (pyS xs) := by
  induction xs with
  | nil => rfl
  | cons x r ih =>
    show (match toPy (.str x), toPys (r.map .str) with | some p, some ps => some (p :: ps) | _, _ => none) = _
    rw [ih]; rfl
theorem eqvAll_strs : ∀ xs ys : List Str, PyData.eqvAll (pyS xs) (pyS ys) = (xs == ys)
  | [], [] => by simp [pyS, PyData.eqvAll]
  | [], _ :: _ => by simp [pyS, PyData.eqvAll]
  | _ :: _, [] => by simp [pyS, PyData.eqvAll]
  | x :: xs, y :: ys => by
    have ih := eqvAll_strs xs ys
    unfold pyS at ih ⊢
    rw [List.map_cons, List.map_cons]
    unfold PyData.eqvAll
    rw [ih]
    show (PyData.eqv (.str x) (.str y) && (xs == ys)) = _
    unfold PyData.eqv
    rfl
theorem shaped_strs {xs : List Str} (h : ∀ x ∈ xs, GS x) : SeqAt.shaped (.list (pyS xs)) = true := by
  have h1 : PyData.canLayAll0 (pyS xs) = true := by
    induction xs with
    | nil => simp [pyS, PyData.canLayAll0]
    | cons x r ih =>
      have hx := (h x List.mem_cons_self).shaped
      unfold SeqAt.shaped at hx
      rw [Bool.and_eq_true] at hx
      have := ih fun y hy => h y (List.mem_cons_of_mem _ hy)
      unfold pyS at this ⊢
      rw [List.map_cons]
      unfold PyData.canLayAll0
      rw [hx.1, this]; rfl
  have h2 : PyData.depthAll (pyS xs) = 0 := by
    clear h h1
    induction xs with
    | nil => simp [pyS, PyData.depthAll]
    | cons x r ih =>
      unfold pyS at ih ⊢
      rw [List.map_cons]
      unfold PyData.depthAll
      rw [ih]
      simp [PyData.depth]
  unfold SeqAt.shaped PyData.canLay0 PyData.depth
  rw [h1, h2]; decide
theorem eqD_strs {xs ys : List Str} (hx : ∀ x ∈ xs, GS x) (hy : ∀ x ∈ ys, GS x) : eqD (.lst (xs.map .str)) (.lst (ys.map .str)) = some (xs == ys) := by
  have e : ∀ xs : List Str, toPy (.lst (xs.map .str)) = some (.list (pyS xs)) := fun xs => by
    unfold toPy; rw [toPys_strs]; rfl
  show (match toPy (.lst (xs.map .str)), toPy (.lst (ys.map .str)) with
    | some p, some q => if SeqAt.shaped p && SeqAt.shaped q then some (PyData.eqv p q) else none
    | _, _ => none) = _
  rw [e, e]
  show (if SeqAt.shaped (.list (pyS xs)) && SeqAt.shaped (.list (pyS ys)) then some (PyData.eqv (.list (pyS xs)) (.list (pyS ys))) else none) = _
  rw [shaped_strs hx, shaped_strs hy]
  unfold PyData.eqv
  rw [eqvAll_strs]; rfl
end Fmx
namespace Fmx
open PySem
theorem joinL_nil : ∀ ps : List (List Nat), TL.joinL [] ps = ps.flatten
  | [] => rfl
  | [p] => by simp [TL.joinL]
  | p :: q :: r => by
    have ih := joinL_nil (q :: r)
    unfold TL.joinL
    rw [ih]; simp
theorem join_empty (ss : List Str) : (Txt.join "" ss).cps.toList = (ss.map fun x => x.cps.toList).flatten := by
  have e : Txt.join "" ss = Str.join "" ss := StrLaws.glued_eq_join _ _
  have e2 := TL.tl_join ("" : Str) ss
  have e3 : TL.tl ("" : Str) = [] := by decide +kernel
  rw [e3, joinL_nil] at e2
  rw [e]
  exact e2
theorem ixStr {x : Str} {i : Int} (h0 : 0 ≤ i) (h1 : i < x.length) (hx : x.length ≤ sizeLine) : ∃ c ∈ x.cps.toList, gIx (.str x) (.int i) = some (.str ⟨#[c]⟩) := by
  have hl : i.toNat < x.cps.toList.length := by
    rw [Array.length_toList]
    have : (x.length : Int) = (x.cps.size : Int) := rfl
    omega
  refine ⟨x.cps.toList[i.toNat], List.getElem_mem hl, ?_⟩
  have e : L2.atI x.cps.toList i = some x.cps.toList[i.toNat] := by
    have : L2.atI x.cps.toList ((i.toNat : Nat) : Int) = some x.cps.toList[i.toNat] := L2.atI_nat (List.getElem?_eq_getElem hl)
    rwa [show ((i.toNat : Nat) : Int) = i by omega] at this
  show (if x.length ≤ sizeLine then (L2.atI x.cps.toList i).map fun c => D.str ⟨#[c]⟩ else none) = _
  rw [if_pos hx, e]; rfl
theorem ixLst {xs : List D} {i : Int} (h0 : 0 ≤ i) (h1 : i < xs.length) : ∃ d ∈ xs, gIx (.lst xs) (.int i) = some d := by
  have hl : i.toNat < xs.length := by omega
  refine ⟨xs[i.toNat], List.getElem_mem hl, ?_⟩
  have : L2.atI xs ((i.toNat : Nat) : Int) = some xs[i.toNat] := L2.atI_nat (List.getElem?_eq_getElem hl)
  rwa [show ((i.toNat : Nat) : Int) = i by omega] at this
theorem ixN_in {n : Nat} {i : Int} (h0 : 0 ≤ i) (h1 : i < n) : L2.ixN n i = some i.toNat := by unfold L2.ixN; rw [if_pos h0, if_pos h1]
theorem gDiv_c (i j : Int) (h : 0 < j ∧ j < 1073741824) : gDiv (.int i) (.int j) = some (.int (i / j)) := by
  have : cDiv i j = true := cd_t h
  show (if cDiv i j = true then some (D.int (i / j)) else none) = _
  rw [if_pos this]
theorem gMod_c (i j : Int) (h : 0 < j) : gMod (.int i) (.int j) = some (.int (i % j)) := by
  show (if cd (0 < j) = true then some (D.int (i % j)) else none) = _
  rw [if_pos (cd_t h)]
theorem gMul_l (i j : Int) (h : -18446744073709551616 < i ∧ i < 18446744073709551616) : gMul (.int i) (.int j) = some (.int (i * j)) := by
  have : cMul i j = true := cd_t (.inl (by constructor <;> omega))
  show gOr (gI cMul (· * ·)) gMulS (.int i) (.int j) = _
  unfold gOr gI
  simp only [this, if_true]
theorem gMul_r (i j : Int) (h : -18446744073709551616 < j ∧ j < 18446744073709551616) : gMul (.int i) (.int j) = some (.int (i * j)) := by
  have : cMul i j = true := cd_t (.inr (by constructor <;> omega))
  show gOr (gI cMul (· * ·)) gMulS (.int i) (.int j) = _
  unfold gOr gI
  simp only [this, if_true]
theorem gAdd_c (i j : Int) : gAdd (.int i) (.int j) = some (.int (i + j)) := rfl
theorem gSub_c (i j : Int) : gSub (.int i) (.int j) = some (.int (i - j)) := rfl
theorem gLt_c (i j : Int) : gLt (.int i) (.int j) = some (.bl (decide (i < j))) := rfl
theorem gGt_c (i j : Int) : gGt (.int i) (.int j) = some (.bl (decide (j < i))) := rfl
theorem gLe_c (i j : Int) : gLe (.int i) (.int j) = some (.bl (decide (i ≤ j))) := rfl
theorem gPow_c (i : Int) (n : Nat) (h : n ≤ 1000) (h2 : i.natAbs < 18446744073709551616) : gPow (.int i) (.int n) = some (.int (i ^ n)) := by
  have : cPow i n = true := cd_t ⟨by omega, by omega, by omega⟩
  show (if cPow i n = true then some (D.int (i ^ (n : Int).toNat)) else none) = _
  rw [if_pos this]; rfl
theorem gRng_c (n : Int) (h : -1000000 ≤ n ∧ n ≤ 1000000) : gRng1 [.int n] = some (rngD 0 n.toNat) := by
  have : inR n = true := cd_t (by constructor <;> omega)
  simp [gRng1, this]
theorem rngD_mem {d : D} {n : Nat} (h : d ∈ rngD 0 n) : ∃ k : Nat, k < n ∧ d = .int k := by
  obtain ⟨k, hk, rfl⟩ := List.mem_map.mp h
  exact ⟨k, List.mem_range.mp hk, by rw [Int.zero_add]⟩
theorem rngD_len (n : Nat) : (rngD 0 n).length = n := by unfold rngD; rw [List.length_map, List.length_range]
theorem lc_ex {j : Nat} {fi : FI} {fe : FE} {ρ : Rho} {B : Bk} {items : List D} (P : D → D → Prop) (hi : fi ρ B = some (.ok items, B)) (hl : items.length ≤ 1000000) (h : ∀ d ∈ items, ∃ y, P d y ∧ fe (put ρ j d) B = some (.ok y, B)) :
    ∃ ys, fLc j fi fYes fe ρ B = some (.ok (.lst ys), B) ∧ ys.length = items.length ∧ ∀ y ∈ ys, ∃ d ∈ items, P d y := by
  classical
  let g : D → D := fun d => if hd : d ∈ items then (h d hd).choose else d
  have hg : ∀ d (hd : d ∈ items), g d = (h d hd).choose := fun d hd => dif_pos hd
  refine ⟨items.map g, lc_all g hi hl fun d hd => ?_, by simp, fun y hy => ?_⟩
  · rw [hg d hd]; exact (h d hd).choose_spec.2
  · obtain ⟨d, hd, rfl⟩ := List.mem_map.mp hy
    exact ⟨d, hd, by rw [hg d hd]; exact (h d hd).choose_spec.1⟩
end Fmx

namespace K01
open PySem PySem.Spec PyProof.Rows L2 Fmx
def topS (i : Nat) : Stmt := PySem.Challenge.pw_formlens_k01_what_is_a_step.main.body.getD i (.Pass ⟨0, 0, 0, 0⟩)
abbrev s_is_name : Stmt := topS 4
abbrev s_is_number : Stmt := topS 5
abbrev s_is_size : Stmt := topS 6
abbrev s_are_two_names : Stmt := topS 7
abbrev s_is_step : Stmt := topS 8
abbrev s__law_cell_at : Stmt := topS 10
abbrev s__law_signs : Stmt := topS 11
abbrev s__law_text_by : Stmt := topS 12
abbrev s__law_number_by : Stmt := topS 13
abbrev s__law_is_name : Stmt := topS 14
abbrev s__law_is_number : Stmt := topS 15
abbrev s__law_kinds : Stmt := topS 16
abbrev s__law_is_step : Stmt := topS 17
abbrev s__law_part_by : Stmt := topS 18
abbrev s__law_same : Stmt := topS 19
abbrev s_law : Stmt := topS 20
theorem sc_is_name : FnScope ["thing", "sign"] ["thing"] (defScope s_is_name) := ⟨rfl, rfl, rfl, by decide +kernel, rfl, by decide +kernel, by decide +kernel⟩
theorem sc_is_number : FnScope ["thing"] ["thing"] (defScope s_is_number) := ⟨rfl, rfl, rfl, by decide +kernel, rfl, by decide +kernel, by decide +kernel⟩
theorem sc_is_size : FnScope ["thing"] ["thing"] (defScope s_is_size) := ⟨rfl, rfl, rfl, by decide +kernel, rfl, by decide +kernel, by decide +kernel⟩
theorem sc_are_two_names : FnScope ["high", "low"] ["high", "low"] (defScope s_are_two_names) := ⟨rfl, rfl, rfl, by decide +kernel, rfl, by decide +kernel, by decide +kernel⟩
theorem sc_is_step : FnScope ["thing", "name", "first", "old", "new", "n", "high", "low", "size"] ["thing"] (defScope s_is_step) := ⟨rfl, rfl, rfl, by decide +kernel, rfl, by decide +kernel, by decide +kernel⟩
theorem sc__law_cell_at : FnScope ["_law_script", "_law_k"] ["_law_script", "_law_k"] (defScope s__law_cell_at) := ⟨rfl, rfl, rfl, by decide +kernel, rfl, by decide +kernel, by decide +kernel⟩
theorem sc__law_signs : FnScope ["_law_some"] [] (defScope s__law_signs) := ⟨rfl, rfl, rfl, by decide +kernel, rfl, by decide +kernel, by decide +kernel⟩
theorem sc__law_text_by : FnScope ["_law_cell", "_law_odd", "_law_some", "_law_size", "_law_row", "_law_k"] ["_law_cell", "_law_odd"] (defScope s__law_text_by) := ⟨rfl, rfl, rfl, by decide +kernel, rfl, by decide +kernel, by decide +kernel⟩
theorem sc__law_number_by : FnScope ["_law_cell"] ["_law_cell"] (defScope s__law_number_by) := ⟨rfl, rfl, rfl, by decide +kernel, rfl, by decide +kernel, by decide +kernel⟩
theorem sc__law_is_name : FnScope ["_law_thing", "_law_sign"] ["_law_thing"] (defScope s__law_is_name) := ⟨rfl, rfl, rfl, by decide +kernel, rfl, by decide +kernel, by decide +kernel⟩
theorem sc__law_is_number : FnScope ["_law_thing"] ["_law_thing"] (defScope s__law_is_number) := ⟨rfl, rfl, rfl, by decide +kernel, rfl, by decide +kernel, by decide +kernel⟩
theorem sc__law_kinds : FnScope ["_law_word"] ["_law_word"] (defScope s__law_kinds) := ⟨rfl, rfl, rfl, by decide +kernel, rfl, by decide +kernel, by decide +kernel⟩
theorem sc__law_is_step : FnScope ["_law_word", "_law_parts", "_law_k", "_law_kind"] ["_law_word", "_law_parts"] (defScope s__law_is_step) := ⟨rfl, rfl, rfl, by decide +kernel, rfl, by decide +kernel, by decide +kernel⟩
theorem sc__law_part_by : FnScope ["_law_script", "_law_k", "_law_text", "_law_number", "_law_kind", "_law_cell", "_law_odd"] ["_law_script", "_law_k", "_law_text", "_law_number", "_law_kind"] (defScope s__law_part_by) := ⟨rfl, rfl, rfl, by decide +kernel, rfl, by decide +kernel, by decide +kernel⟩
theorem sc__law_same : FnScope ["_law_found", "_law_due"] ["_law_found", "_law_due"] (defScope s__law_same) := ⟨rfl, rfl, rfl, by decide +kernel, rfl, by decide +kernel, by decide +kernel⟩
theorem sc_law : FnScope ["_law_script", "_law_text", "_law_number", "_law_words", "_law_word", "_law_kinds_here", "_law_size", "_law_parts", "_law_step", "_law_things", "_law_thing", "_law_k"] ["_law_script"] (defScope s_law) := ⟨rfl, rfl, rfl, by decide +kernel, rfl, by decide +kernel, by decide +kernel⟩
def b_is_name : FS :=
  (sSeq (sIf (fNotT (fTst (fUn (isiD "str") (vVar 0)))) (sRet (fC (.bl false))) sNext)
  (sRet (fAnd (fChain gLe gLe (fC (.int 1)) (fFn gLen (fCons (vVar 0) fNil)) (fC (.int 8))) (fFn gAll (fCons (fLc 1 (fIts (fVar 0)) fYes (fChain gLe gLe (fC (.str "a")) (vVar 1) (fC (.str "z")))) fNil)))))
def f_is_name : FFn := fnF 1 2 b_is_name
def b_is_number : FS :=
  (sRet (fAnd (fUn (isiD "int") (vVar 0)) (fUn gNot (fUn (isiD "bool") (vVar 0)))))
def f_is_number : FFn := fnF 1 1 b_is_number
def b_is_size : FS :=
  (sRet (fAnd (fCall f_is_number (fRV 0 fR0)) (fChain gLe gLe (fC (.int 2)) (vVar 0) (fC (.int 1000000)))))
def f_is_size : FFn := fnF 1 1 b_is_size
def b_are_two_names : FS :=
  (sRet (fAnd (fCall f_is_name (fRV 0 fR0)) (fAnd (fCall f_is_name (fRV 1 fR0)) (fOp gNe (vVar 0) (vVar 1)))))
def f_are_two_names : FFn := fnF 2 2 b_are_two_names
def b_is_step : FS :=
  (sSeq (sIf (fOrT (fNotT (fTst (fUn (isiD "tuple") (vVar 0)))) (fOrT (fTst (fOp gEq (fFn gLen (fCons (vVar 0) fNil)) (fC (.int 0)))) (fNotT (fTst (fUn (isiD "str") (fOp gIx (vVar 0) (fC (.int 0)))))))) (sRet (fC (.bl false))) sNext)
  (sMatch (fVar 0) (cSeq [.lit "add", .cap 1, .cap 2] (sRet (fAnd (fCall f_is_name (fRV 1 fR0)) (fCall f_is_number (fRV 2 fR0))))
  (cSeq [.lit "drop", .cap 1] (sRetQ (fCallQ f_is_name (fRV 1 fR0)))
  (cSeq [.lit "name", .cap 3, .cap 4] (sRet (fAnd (fCall f_is_name (fRV 3 fR0)) (fCall f_is_name (fRV 4 fR0))))
  (cSeq [.lit "shift", .cap 1, .cap 5] (sRet (fAnd (fCall f_is_name (fRV 1 fR0)) (fCall f_is_number (fRV 5 fR0))))
  (cSeq [.lit "turn", .cap 1] (sRetQ (fCallQ f_is_name (fRV 1 fR0)))
  (cSeq [.lit "part", .cap 1, .cap 6, .cap 7, .cap 8] (sRet (fAnd (fCall f_is_name (fRV 1 fR0)) (fAnd (fCall f_are_two_names (fRV 6 (fRV 7 fR0))) (fCall f_is_size (fRV 8 fR0)))))
  (cSeq [.lit "join", .cap 6, .cap 7, .cap 1, .cap 8] (sRet (fAnd (fCall f_is_name (fRV 1 fR0)) (fAnd (fCall f_are_two_names (fRV 6 (fRV 7 fR0))) (fCall f_is_size (fRV 8 fR0)))))
  (cAny (sRet (fC (.bl false)))))))))))))
def f_is_step : FFn := fnF 1 9 b_is_step
def b__law_cell_at : FS :=
  (sSeq (sIf (fTst (fOp gLt (vVar 1) (fFn gLen (fCons (vVar 0) fNil)))) (sRet (fOp gIx (vVar 0) (vVar 1))) sNext)
  (sRet (fC (.int 0))))
def f__law_cell_at : FFn := fnF 2 2 b__law_cell_at
def b__law_signs : FS :=
  (sSeq (sSet 0 (fC (.str " !\"#$&'()*+,-./0123456789:;<=>?@ABCDEFGHIJKLMNOPQRSTUVWXYZ[\\]^_`")))
  (sRet (fOp gAdd (vVar 0) (fC (.str "abcdefghijklmnopqrstuvwxyz{|}~\n")))))
def f__law_signs : FFn := fnF 0 1 b__law_signs
def b__law_text_by : FS :=
  (sSeq (sSet 2 (fCall f__law_signs fR0))
  (sSeq (sSet 3 (fOp gMod (vVar 0) (fC (.int 11))))
  (sSeq (sOwn 4 (fLc 5 (fFnI gRng1 (fCons (vVar 3) fNil)) fYes (fOp gIx (vVar 2) (fOp gAdd (fC (.int 64)) (fOp gMod (fOp gAdd (fOp gDiv (vVar 0) (fC (.int 11))) (fOp gMul (vVar 5) (fOp gAdd (fC (.int 1)) (fOp gMod (fOp gDiv (vVar 0) (fC (.int 286))) (fC (.int 25)))))) (fC (.int 26)))))))
  (sSeq (sIf (fAndT (fTst (fOp gGt (vVar 3) (fC (.int 0)))) (fTst (fOp gGt (fOp gMod (vVar 1) (fC (.int 3))) (fC (.int 0))))) (sMut 4 (fun d => isL d || isK d) (fPair (fOp gIx (vVar 2) (fOp gMod (fOp gDiv (vVar 1) (fOp gMul (fC (.int 3)) (vVar 3))) (fFn gLen (fCons (vVar 2) fNil)))) (fOp gMod (fOp gDiv (vVar 1) (fC (.int 3))) (vVar 3))) gPutIx) sNext)
  (sRet (fJoin (fC (.str "")) (fCons (vVar 4) fNil)))))))
def f__law_text_by : FFn := fnF 2 6 b__law_text_by
def b__law_number_by : FS :=
  (sSeq (sIf (fTst (fOp gEq (fOp gMod (vVar 0) (fC (.int 4))) (fC (.int 0)))) (sRet (fOp gMod (fOp gDiv (vVar 0) (fC (.int 4))) (fC (.int 5)))) sNext)
  (sSeq (sIf (fTst (fOp gEq (fOp gMod (vVar 0) (fC (.int 4))) (fC (.int 1)))) (sRet (fOp gIx (fFn gLst (fCons (fC (.int 2)) (fCons (fC (.int 1)) (fCons (fC (.int 1000000)) (fCons (fC (.int 1000001)) (fCons (fC (.int 999999)) fNil)))))) (fOp gMod (fOp gDiv (vVar 0) (fC (.int 4))) (fC (.int 5))))) sNext)
  (sSeq (sIf (fTst (fOp gEq (fOp gMod (vVar 0) (fC (.int 4))) (fC (.int 2)))) (sRet (fOp gAdd (fC (.int 2)) (fOp gMod (fOp gDiv (vVar 0) (fC (.int 4))) (fC (.int 999999))))) sNext)
  (sRet (fOp gMul (fOp gMod (vVar 0) (fOp gPow (fC (.int 10)) (fC (.int 60)))) (fOp gIx (fFn gLst (fCons (fC (.int 1)) (fCons (fUn gNeg (fC (.int 1))) fNil))) (fOp gMod (fOp gDiv (vVar 0) (fC (.int 4))) (fC (.int 2)))))))))
def f__law_number_by : FFn := fnF 1 1 b__law_number_by
def b__law_is_name : FS :=
  (sSeq (sIf (fOrT (fNotT (fTst (fUn (isiD "str") (vVar 0)))) (fNotT (fTst (fChain gLe gLe (fC (.int 1)) (fFn gLen (fCons (vVar 0) fNil)) (fC (.int 8)))))) (sRet (fC (.bl false))) sNext)
  (sRet (fOp gEq (fLc 1 (fIts (fVar 0)) (fTst (fOp (gIn true) (vVar 1) (fC (.str "abcdefghijklmnopqrstuvwxyz")))) (fVar 1)) (fFn gLst fNil))))
def f__law_is_name : FFn := fnF 1 2 b__law_is_name
def b__law_is_number : FS :=
  (sRet (fAnd (fUn (isiD "int") (vVar 0)) (fUn gNot (fUn (isiD "bool") (vVar 0)))))
def f__law_is_number : FFn := fnF 1 1 b__law_is_number
def b__law_kinds : FS :=
  (sSeq (sIf (fOrT (fTst (fOp gEq (vVar 0) (fC (.str "drop")))) (fTst (fOp gEq (vVar 0) (fC (.str "turn"))))) (sRet (fC (.str "n"))) sNext)
  (sSeq (sIf (fOrT (fTst (fOp gEq (vVar 0) (fC (.str "add")))) (fTst (fOp gEq (vVar 0) (fC (.str "shift"))))) (sRet (fC (.str "ni"))) sNext)
  (sSeq (sIf (fTst (fOp gEq (vVar 0) (fC (.str "name")))) (sRet (fC (.str "nn"))) sNext)
  (sRet (fC (.str "nnns"))))))
def f__law_kinds : FFn := fnF 1 1 b__law_kinds
def b__law_is_step : FS :=
  (sSeq (sIf (fOrT (fTst (fOp (gIn true) (vVar 0) (fFn gLst (fCons (fC (.str "add")) (fCons (fC (.str "drop")) (fCons (fC (.str "name")) (fCons (fC (.str "shift")) (fCons (fC (.str "turn")) (fCons (fC (.str "part")) (fCons (fC (.str "join")) fNil)))))))))) (fTst (fOp gNe (fFn gLen (fCons (vVar 1) fNil)) (fFn gLen (fCons (fCall f__law_kinds (fRV 0 fR0)) fNil))))) (sRet (fC (.bl false))) sNext)
  (sSeq (sFor 2 (fFnI gRng1 (fCons (fFn gLen (fCons (vVar 1) fNil)) fNil)) (sSeq (sSet 3 (fOp gIx (fCall f__law_kinds (fRV 0 fR0)) (vVar 2)))
  (sSeq (sIf (fOrT (fAndT (fTst (fOp gEq (vVar 3) (fC (.str "n")))) (fNotT (fTst (fCall f__law_is_name (fRE (fOp gIx (vVar 1) (vVar 2)) fR0))))) (fAndT (fTst (fOp gNe (vVar 3) (fC (.str "n")))) (fNotT (fTst (fCall f__law_is_number (fRE (fOp gIx (vVar 1) (vVar 2)) fR0)))))) (sRet (fC (.bl false))) sNext)
  (sIf (fAndT (fTst (fOp gEq (vVar 3) (fC (.str "s")))) (fNotT (fTst (fChain gLe gLe (fC (.int 2)) (fOp gIx (vVar 1) (vVar 2)) (fC (.int 1000000)))))) (sRet (fC (.bl false))) sNext))))
  (sSeq (sIf (fTst (fOp gEq (vVar 0) (fC (.str "part")))) (sRet (fOp gNe (fOp gIx (vVar 1) (fC (.int 1))) (fOp gIx (vVar 1) (fC (.int 2))))) sNext)
  (sRet (fOr (fOp gNe (vVar 0) (fC (.str "join"))) (fOp gNe (fOp gIx (vVar 1) (fC (.int 0))) (fOp gIx (vVar 1) (fC (.int 1)))))))))
def f__law_is_step : FFn := fnF 2 4 b__law_is_step
def b__law_part_by : FS :=
  (sSeq (sSet 5 (fCall f__law_cell_at (fRV 0 (fRE (fOp gAdd (fC (.int 5)) (vVar 1)) fR0))))
  (sSeq (sSet 6 (fFn gLst (fCons (fVar 2) (fCons (fVar 3) (fCons (fC (.bl true)) (fCons (fC .non) (fCons (fFn gLst (fCons (fVar 2) fNil)) (fCons (fC (.str "")) (fCons (fOp gSub (fOp gSub (fOp gPow (fC (.int 10)) (fC (.int 60))) (fC (.int 1))) (fOp gMod (fOp gDiv (vVar 5) (fC (.int 7))) (fC (.int 99)))) fNil)))))))))
  (sSeq (sIf (fTst (fOp gEq (fOp gMod (vVar 5) (fC (.int 9))) (fC (.int 0)))) (sRet (fOp gIx (vVar 6) (fOp gMod (fOp gDiv (vVar 5) (fC (.int 9))) (fC (.int 7))))) sNext)
  (sSeq (sIf (fTst (fOp gEq (vVar 4) (fC (.str "n")))) (sRet (fOp gIx (fFn gLst (fCons (fC (.str "a")) (fCons (fC (.str "b")) (fCons (fC (.str "ab")) (fCons (fC (.str "abcdefgh")) fNil))))) (fOp gMod (fOp gDiv (vVar 5) (fC (.int 2))) (fC (.int 4))))) sNext)
  (sRet (fVar 3))))))
def f__law_part_by : FFn := fnF 5 7 b__law_part_by
def b__law_same : FS :=
  (sRet (fAnd (fUn (isiD "bool") (vVar 0)) (fOp gEq (vVar 0) (vVar 1))))
def f__law_same : FFn := fnF 2 2 b__law_same
def b_law : FS :=
  (sSeq (sSet 1 (fCall f__law_text_by (fRE (fCall f__law_cell_at (fRV 0 (fRE (fC (.int 0)) fR0))) (fRE (fCall f__law_cell_at (fRV 0 (fRE (fC (.int 1)) fR0))) fR0))))
  (sSeq (sSet 2 (fCall f__law_number_by (fRE (fCall f__law_cell_at (fRV 0 (fRE (fC (.int 2)) fR0))) fR0)))
  (sSeq (sSet 3 (fFn gLst (fCons (fC (.str "add")) (fCons (fC (.str "drop")) (fCons (fC (.str "name")) (fCons (fC (.str "shift")) (fCons (fC (.str "turn")) (fCons (fC (.str "part")) (fCons (fC (.str "join")) (fCons (fC (.str "Add")) (fCons (fC (.str "")) (fCons (fVar 1) (fCons (fC (.str "part")) (fCons (fC (.str "join")) fNil))))))))))))))
  (sSeq (sSet 4 (fOp gIx (vVar 3) (fOp gMod (fCall f__law_cell_at (fRV 0 (fRE (fC (.int 3)) fR0))) (fC (.int 12)))))
  (sSeq (sSet 5 (fCall f__law_kinds (fRV 4 fR0)))
  (sSeq (sSet 6 (fFn gLen (fCons (vVar 5) fNil)))
  (sSeq (sIf (fTst (fOp gEq (fOp gMod (fCall f__law_cell_at (fRV 0 (fRE (fC (.int 4)) fR0))) (fC (.int 4))) (fC (.int 1)))) (sSet 6 (fOp gMod (fOp gDiv (fCall f__law_cell_at (fRV 0 (fRE (fC (.int 4)) fR0))) (fC (.int 4))) (fC (.int 6)))) sNext)
  (sSeq (sSet 7 (fLc 11 (fFnI gRng1 (fCons (vVar 6) fNil)) fYes (fCall f__law_part_by (fRV 0 (fRV 11 (fRV 1 (fRV 2 (fRE (fOp gIx (fOp gAdd (vVar 5) (fC (.str "nnnnn"))) (vVar 11)) fR0))))))))
  (sSeq (sSet 8 (fFn gTupOf (fCons (fOp gAdd (fFn gLst (fCons (fVar 4) fNil)) (vVar 7)) fNil)))
  (sSeq (sIf (fOrT (fNotT (fTst (fCall f__law_same (fRE (fCall f_is_name (fRV 1 fR0)) (fRE (fCall f__law_is_name (fRV 1 fR0)) fR0))))) (fNotT (fTst (fCall f__law_same (fRE (fCall f_is_number (fRV 2 fR0)) (fRE (fC (.bl true)) fR0)))))) (sRet (fC (.bl false))) sNext)
  (sSeq (sIf (fNotT (fTst (fCall f__law_same (fRE (fCall f_is_step (fRV 8 fR0)) (fRE (fCall f__law_is_step (fRV 4 (fRV 7 fR0))) fR0))))) (sRet (fC (.bl false))) sNext)
  (sSeq (sSet 9 (fFn gLst (fCons (fC .non) (fCons (fC (.bl true)) (fCons (fC (.bl false)) (fCons (fOp gAdd (fFn gLst (fCons (fVar 4) fNil)) (vVar 7)) (fCons (fFn gTup fNil) (fCons (fFn gTup (fCons (fVar 2) (fCons (fVar 1) fNil))) (fCons (fDisp [((fVar 4), (fVar 7))]) fNil)))))))))
  (sSeq (sFor 10 (fIts (fOp gAdd (vVar 9) (fFn gLst (fCons (fFn gTupOf (fCons (fOp gAdd (fFn gLst (fCons (fFn gLst (fCons (fVar 4) fNil)) fNil)) (vVar 7)) fNil)) (fCons (fFn gTupOf (fCons (fOp gAdd (fFn gLst (fCons fD0 fNil)) (vVar 7)) fNil)) (fCons (fFn gTupOf (fCons (fOp gAdd (fFn gLst (fCons (fFn gTup (fCons (fVar 4) fNil)) fNil)) (vVar 7)) fNil)) fNil)))))) (sSeq (sIf (fOrT (fNotT (fTst (fCall f__law_same (fRE (fCall f_is_name (fRV 10 fR0)) (fRE (fC (.bl false)) fR0))))) (fNotT (fTst (fCall f__law_same (fRE (fCall f_is_number (fRV 10 fR0)) (fRE (fC (.bl false)) fR0)))))) (sRet (fC (.bl false))) sNext)
  (sIf (fNotT (fTst (fCall f__law_same (fRE (fCall f_is_step (fRV 10 fR0)) (fRE (fC (.bl false)) fR0))))) (sRet (fC (.bl false))) sNext)))
  (sRet (fAnd (fCall f__law_same (fRE (fCall f_is_name (fRV 2 fR0)) (fRE (fC (.bl false)) fR0))) (fAnd (fCall f__law_same (fRE (fCall f_is_number (fRV 1 fR0)) (fRE (fC (.bl false)) fR0))) (fCall f__law_same (fRE (fCall f_is_step (fRV 1 fR0)) (fRE (fC (.bl false)) fR0)))))))))))))))))))
def f_law : FFn := fnF 1 12 b_law
structure Zs (mg : Str → Option Value) : Prop where
  c_LONGEST_NAME : ∃ t, mg "LONGEST_NAME" = some (.int 8 t)
  c_LEAST_SIZE : ∃ t, mg "LEAST_SIZE" = some (.int 2 t)
  c_GREATEST_SIZE : ∃ t, mg "GREATEST_SIZE" = some (.int 1000000 t)
  z_isinstance : mg "isinstance" = none
  z_str : mg "str" = none
  z_all : mg "all" = none
  z_len : mg "len" = none
  z_bool : mg "bool" = none
  z_int : mg "int" = none
  z_tuple : mg "tuple" = none
  z_range : mg "range" = none
section
variable {P : Program} {w : World} {K : PySem.W.Frag} {mg : Str → Option Value} {base : Heap} {G : GE}
theorem ok_is_name (Z : Zs mg)  {f : Addr} {fd : FuncData} (F : Fun K "is_name" "is_name" s_is_name f fd) (gX : mg "is_name" = some (.ref f)) (bX : Binds K fd ["thing"] []) : Cal P w K mg base G 1 "is_name" ["thing"] f_is_name 1 :=
  cal_of F sc_is_name gX F.kp bX fun cdv A outer s H E hr tk hp =>
  (pssv_cons (psv_if (ptv_not (ptv_val (pev_isi "str" Z.z_isinstance Z.z_str (pvv_var 0)))) (pssv_one (psv_ret pev_bl)) pssv_nil)
  (pssv_one (psv_ret (pev_and (pev_lele (PEv.toV pev_int) (pev_len Z.z_len (pvav_cons (pvv_var 0) pvav_nil)).toV (pev_globI Z.c_LONGEST_NAME.choose_spec).toV) (pev_one (pev_all rfl Z.z_all (pvav_cons (pfv_lc (j := 1) rfl sc_is_name.nd (piv_seq (pev_var 0)) (blk_of rfl (by kernel_rfl)) (fun _ _ _ _ _ => (pg_name sc_is_name.nd rfl (.inl rfl))) (fun _ _ _ _ _ => ptsv_nil) (fun _ _ _ _ _ => (pev_lele (PEv.toV pev_str) (pvv_var 1) (PEv.toV pev_str)))).toV pvav_nil)))))))
theorem ok_is_number (Z : Zs mg)  {f : Addr} {fd : FuncData} (F : Fun K "is_number" "is_number" s_is_number f fd) (gX : mg "is_number" = some (.ref f)) (bX : Binds K fd ["thing"] []) : Cal P w K mg base G 1 "is_number" ["thing"] f_is_number 1 :=
  cal_of F sc_is_number gX F.kp bX fun cdv A outer s H E hr tk hp =>
  (pssv_one (psv_ret (pev_and (pev_isi "int" Z.z_isinstance Z.z_int (pvv_var 0)) (pev_one (pev_not (pev_isi "bool" Z.z_isinstance Z.z_bool (pvv_var 0)))))))
theorem ok_is_size (Z : Zs mg) (C_is_number : Cal P w K mg base G 1 "is_number" ["thing"] f_is_number 1) {f : Addr} {fd : FuncData} (F : Fun K "is_size" "is_size" s_is_size f fd) (gX : mg "is_size" = some (.ref f)) (bX : Binds K fd ["thing"] []) : Cal P w K mg base G 2 "is_size" ["thing"] f_is_size 1 :=
  cal_of F sc_is_size gX F.kp bX fun cdv A outer s H E hr tk hp =>
  (pssv_one (psv_ret (pev_and (pev_callC C_is_number hr (by decide) tk (prv_v 0 prv_nil)) (pev_one (pev_lele (pev_globI Z.c_LEAST_SIZE.choose_spec).toV (pvv_var 0) (pev_globI Z.c_GREATEST_SIZE.choose_spec).toV)))))
theorem ok_are_two_names (Z : Zs mg) (C_is_name : Cal P w K mg base G 1 "is_name" ["thing"] f_is_name 1) {f : Addr} {fd : FuncData} (F : Fun K "are_two_names" "are_two_names" s_are_two_names f fd) (gX : mg "are_two_names" = some (.ref f)) (bX : Binds K fd ["high", "low"] []) : Cal P w K mg base G 2 "are_two_names" ["high", "low"] f_are_two_names 2 :=
  cal_of F sc_are_two_names gX F.kp bX fun cdv A outer s H E hr tk hp =>
  (pssv_one (psv_ret (pev_and (pev_callC C_is_name hr (by decide) tk (prv_v 0 prv_nil)) (pev_and (pev_callC C_is_name hr (by decide) tk (prv_v 1 prv_nil)) (pev_one (pev_ne hr.units (pvv_var 0) (pvv_var 1)))))))
theorem ok_is_step (Z : Zs mg) (C_is_name : Cal P w K mg base G 1 "is_name" ["thing"] f_is_name 1) (C_is_number : Cal P w K mg base G 1 "is_number" ["thing"] f_is_number 1) (C_are_two_names : Cal P w K mg base G 2 "are_two_names" ["high", "low"] f_are_two_names 2) (C_is_size : Cal P w K mg base G 2 "is_size" ["thing"] f_is_size 1) {f : Addr} {fd : FuncData} (F : Fun K "is_step" "is_step" s_is_step f fd) (gX : mg "is_step" = some (.ref f)) (bX : Binds K fd ["thing"] []) : Cal P w K mg base G 3 "is_step" ["thing"] f_is_step 1 :=
  cal_of F sc_is_step gX F.kp bX fun cdv A outer s H E hr tk hp =>
  (pssv_cons (psv_if (pwv_or (ptv_not (ptv_val (pev_isi "tuple" Z.z_isinstance Z.z_tuple (pvv_var 0)))) (pwv_or (ptv_eq hr.units (pev_len Z.z_len (pvav_cons (pvv_var 0) pvav_nil)).toV (PEv.toV pev_int)) (pwv_or1 (ptv_not (ptv_val (pev_isi "str" Z.z_isinstance Z.z_str (pev_ix hr.units (pvv_var 0) (PEv.toV pev_int)).toV)))))).pt (pssv_one (psv_ret pev_bl)) pssv_nil)
  (pssv_one (psv_match (pev_var 0) (pcv_seq rfl sc_is_step.nd hr.units (.cons .lit (.cons (.cap 1 rfl (.inl rfl) (.inl rfl)) (.cons (.cap 2 rfl (.inl rfl) (.inl rfl)) .nil))) (pssv_one (psv_ret (pev_and (pev_callC C_is_name hr (by decide) tk (prv_v 1 prv_nil)) (pev_one (pev_callC C_is_number hr (by decide) tk (prv_v 2 prv_nil))))))
  (pcv_seq rfl sc_is_step.nd hr.units (.cons .lit (.cons (.cap 1 rfl (.inl rfl) (.inl rfl)) .nil)) (pssv_one (psv_retQ (pqv_callC C_is_name hr (by decide) tk (prv_v 1 prv_nil))))
  (pcv_seq rfl sc_is_step.nd hr.units (.cons .lit (.cons (.cap 3 rfl (.inl rfl) (.inl rfl)) (.cons (.cap 4 rfl (.inl rfl) (.inl rfl)) .nil))) (pssv_one (psv_ret (pev_and (pev_callC C_is_name hr (by decide) tk (prv_v 3 prv_nil)) (pev_one (pev_callC C_is_name hr (by decide) tk (prv_v 4 prv_nil))))))
  (pcv_seq rfl sc_is_step.nd hr.units (.cons .lit (.cons (.cap 1 rfl (.inl rfl) (.inl rfl)) (.cons (.cap 5 rfl (.inl rfl) (.inl rfl)) .nil))) (pssv_one (psv_ret (pev_and (pev_callC C_is_name hr (by decide) tk (prv_v 1 prv_nil)) (pev_one (pev_callC C_is_number hr (by decide) tk (prv_v 5 prv_nil))))))
  (pcv_seq rfl sc_is_step.nd hr.units (.cons .lit (.cons (.cap 1 rfl (.inl rfl) (.inl rfl)) .nil)) (pssv_one (psv_retQ (pqv_callC C_is_name hr (by decide) tk (prv_v 1 prv_nil))))
  (pcv_seq rfl sc_is_step.nd hr.units (.cons .lit (.cons (.cap 1 rfl (.inl rfl) (.inl rfl)) (.cons (.cap 6 rfl (.inl rfl) (.inl rfl)) (.cons (.cap 7 rfl (.inl rfl) (.inl rfl)) (.cons (.cap 8 rfl (.inl rfl) (.inl rfl)) .nil))))) (pssv_one (psv_ret (pev_and (pev_callC C_is_name hr (by decide) tk (prv_v 1 prv_nil)) (pev_and (pev_callC C_are_two_names hr (by decide) tk (prv_v 6 (prv_v 7 prv_nil))) (pev_one (pev_callC C_is_size hr (by decide) tk (prv_v 8 prv_nil)))))))
  (pcv_seq rfl sc_is_step.nd hr.units (.cons .lit (.cons (.cap 6 rfl (.inl rfl) (.inl rfl)) (.cons (.cap 7 rfl (.inl rfl) (.inl rfl)) (.cons (.cap 1 rfl (.inl rfl) (.inl rfl)) (.cons (.cap 8 rfl (.inl rfl) (.inl rfl)) .nil))))) (pssv_one (psv_ret (pev_and (pev_callC C_is_name hr (by decide) tk (prv_v 1 prv_nil)) (pev_and (pev_callC C_are_two_names hr (by decide) tk (prv_v 6 (prv_v 7 prv_nil))) (pev_one (pev_callC C_is_size hr (by decide) tk (prv_v 8 prv_nil)))))))
  (pcv_any (pssv_one (psv_ret pev_bl)))))))))))))
theorem ok__law_cell_at (Z : Zs mg)  {f : Addr} {fd : FuncData} (F : Fun K "_law_cell_at" "_law_cell_at" s__law_cell_at f fd) (gX : mg "_law_cell_at" = some (.ref f)) (bX : Binds K fd ["_law_script", "_law_k"] []) : Cal P w K mg base G 1 "_law_cell_at" ["_law_script", "_law_k"] f__law_cell_at 2 :=
  cal_of F sc__law_cell_at gX F.kp bX fun cdv A outer s H E hr tk hp =>
  (pssv_cons (psv_if (ptv_lt (pvv_var 1) (pev_len Z.z_len (pvav_cons (pvv_var 0) pvav_nil)).toV) (pssv_one (psv_ret (pev_ix hr.units (pvv_var 0) (pvv_var 1)))) pssv_nil)
  (pssv_one (psv_ret pev_int)))
theorem ok__law_signs (Z : Zs mg)  {f : Addr} {fd : FuncData} (F : Fun K "_law_signs" "_law_signs" s__law_signs f fd) (gX : mg "_law_signs" = some (.ref f)) (bX : Binds K fd [] []) : Cal P w K mg base G 1 "_law_signs" [] f__law_signs 0 :=
  cal_of F sc__law_signs gX F.kp bX fun cdv A outer s H E hr tk hp =>
  (pssv_cons (psv_set 0 sc__law_signs.nd rfl (.inl rfl) pev_str)
  (pssv_one (psv_ret (pev_add (pvv_var 0) (PEv.toV pev_str)))))
theorem ok__law_text_by (Z : Zs mg) (C__law_signs : Cal P w K mg base G 1 "_law_signs" [] f__law_signs 0) {f : Addr} {fd : FuncData} (F : Fun K "_law_text_by" "_law_text_by" s__law_text_by f fd) (gX : mg "_law_text_by" = some (.ref f)) (bX : Binds K fd ["_law_cell", "_law_odd"] []) : Cal P w K mg base G 2 "_law_text_by" ["_law_cell", "_law_odd"] f__law_text_by 2 :=
  cal_of F sc__law_text_by gX F.kp bX fun cdv A outer s H E hr tk hp =>
  (pssv_cons (psv_set 2 sc__law_text_by.nd rfl (.inr rfl) (pev_call0C C__law_signs hr (by decide) tk))
  (pssv_cons (psv_set 3 sc__law_text_by.nd rfl (.inl rfl) (pev_mod (pvv_var 0) (PEv.toV pev_int)))
  (pssv_cons (psv_ownLc 4 5 rfl sc__law_text_by.nd rfl rfl (sw_true rfl rfl rfl (by kernel_rfl)) (piv_range1 Z.z_range (pvav_cons (pvv_var 3) pvav_nil)) (blk_of rfl (by kernel_rfl)) (fun _ _ _ _ _ => (pg_name sc__law_text_by.nd rfl (.inl rfl))) (fun _ _ _ _ _ => ptsv_nil) (fun _ _ _ _ _ => (pev_ix hr.units (pvv_var 2) (pev_add (PEv.toV pev_int) (pev_mod (pev_add (pev_div (pvv_var 0) (PEv.toV pev_int)).toV (pev_mul (pvv_var 5) (pev_add (PEv.toV pev_int) (pev_mod (pev_div (pvv_var 0) (PEv.toV pev_int)).toV (PEv.toV pev_int)).toV).toV).toV).toV (PEv.toV pev_int)).toV).toV)))
  (pssv_cons (psv_if (pwv_and (ptv_gt (pvv_var 3) (PEv.toV pev_int)) (pwv_and1 (ptv_gt (pev_mod (pvv_var 1) (PEv.toV pev_int)).toV (PEv.toV pev_int)))).pt (pssv_one (psv_putIx (i := 4) (hu := hr.units) (he := (pev_ix hr.units (pvv_var 2) (pev_mod (pev_div (pvv_var 1) (pev_mul (PEv.toV pev_int) (pvv_var 3)).toV).toV (pev_len Z.z_len (pvav_cons (pvv_var 2) pvav_nil)).toV).toV)) (hix := (pev_mod (pev_div (pvv_var 1) (PEv.toV pev_int)).toV (pvv_var 3))))) pssv_nil)
  (pssv_one (psv_ret (pev_join pev_str (pvav_cons (pvv_var 4) pvav_nil))))))))
theorem ok__law_number_by (Z : Zs mg)  {f : Addr} {fd : FuncData} (F : Fun K "_law_number_by" "_law_number_by" s__law_number_by f fd) (gX : mg "_law_number_by" = some (.ref f)) (bX : Binds K fd ["_law_cell"] []) : Cal P w K mg base G 1 "_law_number_by" ["_law_cell"] f__law_number_by 1 :=
  cal_of F sc__law_number_by gX F.kp bX fun cdv A outer s H E hr tk hp =>
  (pssv_cons (psv_if (ptv_eq hr.units (pev_mod (pvv_var 0) (PEv.toV pev_int)).toV (PEv.toV pev_int)) (pssv_one (psv_ret (pev_mod (pev_div (pvv_var 0) (PEv.toV pev_int)).toV (PEv.toV pev_int)))) pssv_nil)
  (pssv_cons (psv_if (ptv_eq hr.units (pev_mod (pvv_var 0) (PEv.toV pev_int)).toV (PEv.toV pev_int)) (pssv_one (psv_ret (pev_ix hr.units (pfv_lst (pav_cons pev_int (pav_cons pev_int (pav_cons pev_int (pav_cons pev_int (pav_cons pev_int pav_nil)))))).toV (pev_mod (pev_div (pvv_var 0) (PEv.toV pev_int)).toV (PEv.toV pev_int)).toV))) pssv_nil)
  (pssv_cons (psv_if (ptv_eq hr.units (pev_mod (pvv_var 0) (PEv.toV pev_int)).toV (PEv.toV pev_int)) (pssv_one (psv_ret (pev_add (PEv.toV pev_int) (pev_mod (pev_div (pvv_var 0) (PEv.toV pev_int)).toV (PEv.toV pev_int)).toV))) pssv_nil)
  (pssv_one (psv_ret (pev_mul (pev_mod (pvv_var 0) (pev_pow (PEv.toV pev_int) (PEv.toV pev_int)).toV).toV (pev_ix hr.units (pfv_lst (pav_cons pev_int (pav_cons (pev_neg (PEv.toV pev_int)) pav_nil))).toV (pev_mod (pev_div (pvv_var 0) (PEv.toV pev_int)).toV (PEv.toV pev_int)).toV).toV))))))
theorem ok__law_is_name (Z : Zs mg)  {f : Addr} {fd : FuncData} (F : Fun K "_law_is_name" "_law_is_name" s__law_is_name f fd) (gX : mg "_law_is_name" = some (.ref f)) (bX : Binds K fd ["_law_thing"] []) : Cal P w K mg base G 1 "_law_is_name" ["_law_thing"] f__law_is_name 1 :=
  cal_of F sc__law_is_name gX F.kp bX fun cdv A outer s H E hr tk hp =>
  (pssv_cons (psv_if (pwv_or (ptv_not (ptv_val (pev_isi "str" Z.z_isinstance Z.z_str (pvv_var 0)))) (pwv_or1 (ptv_not (ptv_lele (PEv.toV pev_int) (pev_len Z.z_len (pvav_cons (pvv_var 0) pvav_nil)).toV (PEv.toV pev_int))))).pt (pssv_one (psv_ret pev_bl)) pssv_nil)
  (pssv_one (psv_ret (pev_eq hr.units (pfv_lc (j := 1) rfl sc__law_is_name.nd (piv_seq (pev_var 0)) (blk_of rfl (by kernel_rfl)) (fun _ _ _ _ _ => (pg_name sc__law_is_name.nd rfl (.inl rfl))) (fun _ _ _ _ _ => (ptsv_one (ptv_notin hr.units (pvv_var 1) (PEv.toV pev_str)))) (fun _ _ _ _ _ => (pev_var 1))).toV (pfv_lst pav_nil).toV))))
theorem ok__law_is_number (Z : Zs mg)  {f : Addr} {fd : FuncData} (F : Fun K "_law_is_number" "_law_is_number" s__law_is_number f fd) (gX : mg "_law_is_number" = some (.ref f)) (bX : Binds K fd ["_law_thing"] []) : Cal P w K mg base G 1 "_law_is_number" ["_law_thing"] f__law_is_number 1 :=
  cal_of F sc__law_is_number gX F.kp bX fun cdv A outer s H E hr tk hp =>
  (pssv_one (psv_ret (pev_and (pev_isi "int" Z.z_isinstance Z.z_int (pvv_var 0)) (pev_one (pev_not (pev_isi "bool" Z.z_isinstance Z.z_bool (pvv_var 0)))))))
theorem ok__law_kinds (Z : Zs mg)  {f : Addr} {fd : FuncData} (F : Fun K "_law_kinds" "_law_kinds" s__law_kinds f fd) (gX : mg "_law_kinds" = some (.ref f)) (bX : Binds K fd ["_law_word"] []) : Cal P w K mg base G 1 "_law_kinds" ["_law_word"] f__law_kinds 1 :=
  cal_of F sc__law_kinds gX F.kp bX fun cdv A outer s H E hr tk hp =>
  (pssv_cons (psv_if (pwv_or (ptv_eq hr.units (pvv_var 0) (PEv.toV pev_str)) (pwv_or1 (ptv_eq hr.units (pvv_var 0) (PEv.toV pev_str)))).pt (pssv_one (psv_ret pev_str)) pssv_nil)
  (pssv_cons (psv_if (pwv_or (ptv_eq hr.units (pvv_var 0) (PEv.toV pev_str)) (pwv_or1 (ptv_eq hr.units (pvv_var 0) (PEv.toV pev_str)))).pt (pssv_one (psv_ret pev_str)) pssv_nil)
  (pssv_cons (psv_if (ptv_eq hr.units (pvv_var 0) (PEv.toV pev_str)) (pssv_one (psv_ret pev_str)) pssv_nil)
  (pssv_one (psv_ret pev_str)))))
theorem ok__law_is_step (Z : Zs mg) (C__law_kinds : Cal P w K mg base G 1 "_law_kinds" ["_law_word"] f__law_kinds 1) (C__law_is_name : Cal P w K mg base G 1 "_law_is_name" ["_law_thing"] f__law_is_name 1) (C__law_is_number : Cal P w K mg base G 1 "_law_is_number" ["_law_thing"] f__law_is_number 1) {f : Addr} {fd : FuncData} (F : Fun K "_law_is_step" "_law_is_step" s__law_is_step f fd) (gX : mg "_law_is_step" = some (.ref f)) (bX : Binds K fd ["_law_word", "_law_parts"] []) : Cal P w K mg base G 2 "_law_is_step" ["_law_word", "_law_parts"] f__law_is_step 2 :=
  cal_of F sc__law_is_step gX F.kp bX fun cdv A outer s H E hr tk hp =>
  (pssv_cons (psv_if (pwv_or (ptv_notin hr.units (pvv_var 0) (pfv_lst (pav_cons pev_str (pav_cons pev_str (pav_cons pev_str (pav_cons pev_str (pav_cons pev_str (pav_cons pev_str (pav_cons pev_str pav_nil)))))))).toV) (pwv_or1 (ptv_ne hr.units (pev_len Z.z_len (pvav_cons (pvv_var 1) pvav_nil)).toV (pev_len Z.z_len (pvav_cons (pev_callC C__law_kinds hr (by decide) tk (prv_v 0 prv_nil)).toV pvav_nil)).toV))).pt (pssv_one (psv_ret pev_bl)) pssv_nil)
  (pssv_cons (psv_for 2 hp tk rfl (piv_range1 Z.z_range (pvav_cons (pev_len Z.z_len (pvav_cons (pvv_var 1) pvav_nil)).toV pvav_nil)) (pg_name sc__law_is_step.nd rfl (.inl rfl)) fun _ tk1 => (pssv_cons (psv_set 3 sc__law_is_step.nd rfl (.inl rfl) (pev_ix hr.units (pev_callC C__law_kinds hr (by decide) tk1 (prv_v 0 prv_nil)).toV (pvv_var 2)))
  (pssv_cons (psv_if (pwv_or (pwv_and (ptv_eq hr.units (pvv_var 3) (PEv.toV pev_str)) (pwv_and1 (ptv_not (ptv_val (pev_callC C__law_is_name hr (by decide) tk1 (prv_e (pev_ix hr.units (pvv_var 1) (pvv_var 2)) prv_nil)))))).pt (pwv_or1 (pwv_and (ptv_ne hr.units (pvv_var 3) (PEv.toV pev_str)) (pwv_and1 (ptv_not (ptv_val (pev_callC C__law_is_number hr (by decide) tk1 (prv_e (pev_ix hr.units (pvv_var 1) (pvv_var 2)) prv_nil)))))).pt)).pt (pssv_one (psv_ret pev_bl)) pssv_nil)
  (pssv_one (psv_if (pwv_and (ptv_eq hr.units (pvv_var 3) (PEv.toV pev_str)) (pwv_and1 (ptv_not (ptv_lele (PEv.toV pev_int) (pev_ix hr.units (pvv_var 1) (pvv_var 2)).toV (PEv.toV pev_int))))).pt (pssv_one (psv_ret pev_bl)) pssv_nil)))))
  (pssv_cons (psv_if (ptv_eq hr.units (pvv_var 0) (PEv.toV pev_str)) (pssv_one (psv_ret (pev_ne hr.units (pev_ix hr.units (pvv_var 1) (PEv.toV pev_int)).toV (pev_ix hr.units (pvv_var 1) (PEv.toV pev_int)).toV))) pssv_nil)
  (pssv_one (psv_ret (pev_or (pev_ne hr.units (pvv_var 0) (PEv.toV pev_str)) (pev_one (pev_ne hr.units (pev_ix hr.units (pvv_var 1) (PEv.toV pev_int)).toV (pev_ix hr.units (pvv_var 1) (PEv.toV pev_int)).toV))))))))
theorem ok__law_part_by (Z : Zs mg) (C__law_cell_at : Cal P w K mg base G 1 "_law_cell_at" ["_law_script", "_law_k"] f__law_cell_at 2) {f : Addr} {fd : FuncData} (F : Fun K "_law_part_by" "_law_part_by" s__law_part_by f fd) (gX : mg "_law_part_by" = some (.ref f)) (bX : Binds K fd ["_law_script", "_law_k", "_law_text", "_law_number", "_law_kind"] []) : Cal P w K mg base G 2 "_law_part_by" ["_law_script", "_law_k", "_law_text", "_law_number", "_law_kind"] f__law_part_by 5 :=
  cal_of F sc__law_part_by gX F.kp bX fun cdv A outer s H E hr tk hp =>
  (pssv_cons (psv_set 5 sc__law_part_by.nd rfl (.inl rfl) (pev_callC C__law_cell_at hr (by decide) tk (prv_v 0 (prv_e (pev_add (PEv.toV pev_int) (pvv_var 1)) prv_nil))))
  (pssv_cons (psv_set 6 sc__law_part_by.nd rfl (.inl rfl) (pfv_lst (pav_cons (pev_var 2) (pav_cons (pev_var 3) (pav_cons pev_bl (pav_cons pev_non (pav_cons (pfv_lst (pav_cons (pev_var 2) pav_nil)).toE (pav_cons pev_str (pav_cons (pev_sub (pev_sub (pev_pow (PEv.toV pev_int) (PEv.toV pev_int)).toV (PEv.toV pev_int)).toV (pev_mod (pev_div (pvv_var 5) (PEv.toV pev_int)).toV (PEv.toV pev_int)).toV) pav_nil)))))))).toE)
  (pssv_cons (psv_if (ptv_eq hr.units (pev_mod (pvv_var 5) (PEv.toV pev_int)).toV (PEv.toV pev_int)) (pssv_one (psv_ret (pev_ix hr.units (pvv_var 6) (pev_mod (pev_div (pvv_var 5) (PEv.toV pev_int)).toV (PEv.toV pev_int)).toV))) pssv_nil)
  (pssv_cons (psv_if (ptv_eq hr.units (pvv_var 4) (PEv.toV pev_str)) (pssv_one (psv_ret (pev_ix hr.units (pfv_lst (pav_cons pev_str (pav_cons pev_str (pav_cons pev_str (pav_cons pev_str pav_nil))))).toV (pev_mod (pev_div (pvv_var 5) (PEv.toV pev_int)).toV (PEv.toV pev_int)).toV))) pssv_nil)
  (pssv_one (psv_ret (pev_var 3)))))))
theorem ok__law_same (Z : Zs mg)  {f : Addr} {fd : FuncData} (F : Fun K "_law_same" "_law_same" s__law_same f fd) (gX : mg "_law_same" = some (.ref f)) (bX : Binds K fd ["_law_found", "_law_due"] []) : Cal P w K mg base G 1 "_law_same" ["_law_found", "_law_due"] f__law_same 2 :=
  cal_of F sc__law_same gX F.kp bX fun cdv A outer s H E hr tk hp =>
  (pssv_one (psv_ret (pev_and (pev_isi "bool" Z.z_isinstance Z.z_bool (pvv_var 0)) (pev_one (pev_eq hr.units (pvv_var 0) (pvv_var 1))))))
theorem ok_law (Z : Zs mg) (C__law_text_by : Cal P w K mg base G 2 "_law_text_by" ["_law_cell", "_law_odd"] f__law_text_by 2) (C__law_number_by : Cal P w K mg base G 1 "_law_number_by" ["_law_cell"] f__law_number_by 1) (C__law_kinds : Cal P w K mg base G 1 "_law_kinds" ["_law_word"] f__law_kinds 1) (C__law_cell_at : Cal P w K mg base G 1 "_law_cell_at" ["_law_script", "_law_k"] f__law_cell_at 2) (C__law_part_by : Cal P w K mg base G 2 "_law_part_by" ["_law_script", "_law_k", "_law_text", "_law_number", "_law_kind"] f__law_part_by 5) (C__law_same : Cal P w K mg base G 1 "_law_same" ["_law_found", "_law_due"] f__law_same 2) (C_is_step : Cal P w K mg base G 3 "is_step" ["thing"] f_is_step 1) (C__law_is_step : Cal P w K mg base G 2 "_law_is_step" ["_law_word", "_law_parts"] f__law_is_step 2) (C_is_name : Cal P w K mg base G 1 "is_name" ["thing"] f_is_name 1) (C_is_number : Cal P w K mg base G 1 "is_number" ["thing"] f_is_number 1) (C__law_is_name : Cal P w K mg base G 1 "_law_is_name" ["_law_thing"] f__law_is_name 1) {f : Addr} {fd : FuncData} (F : Fun K "law" "law" s_law f fd) : FnOk P w K mg base (L2.CX P w) 4 f fd ["_law_script"] (spF K G f_law 1) :=
  fn_okT F sc_law fun cdv A outer s H E hr tk hp =>
  (pssv_cons (psv_set 1 sc_law.nd rfl (.inr rfl) (pev_callC C__law_text_by hr (by decide) tk (prv_e (pev_callC C__law_cell_at hr (by decide) tk (prv_v 0 (prv_e pev_int prv_nil))) (prv_e (pev_callC C__law_cell_at hr (by decide) tk (prv_v 0 (prv_e pev_int prv_nil))) prv_nil))))
  (pssv_cons (psv_set 2 sc_law.nd rfl (.inr rfl) (pev_callC C__law_number_by hr (by decide) tk (prv_e (pev_callC C__law_cell_at hr (by decide) tk (prv_v 0 (prv_e pev_int prv_nil))) prv_nil)))
  (pssv_cons (psv_set 3 sc_law.nd rfl (.inl rfl) (pfv_lst (pav_cons pev_str (pav_cons pev_str (pav_cons pev_str (pav_cons pev_str (pav_cons pev_str (pav_cons pev_str (pav_cons pev_str (pav_cons pev_str (pav_cons pev_str (pav_cons (pev_var 1) (pav_cons pev_str (pav_cons pev_str pav_nil))))))))))))).toE)
  (pssv_cons (psv_set 4 sc_law.nd rfl (.inl rfl) (pev_ix hr.units (pvv_var 3) (pev_mod (pev_callC C__law_cell_at hr (by decide) tk (prv_v 0 (prv_e pev_int prv_nil))).toV (PEv.toV pev_int)).toV))
  (pssv_cons (psv_set 5 sc_law.nd rfl (.inr rfl) (pev_callC C__law_kinds hr (by decide) tk (prv_v 4 prv_nil)))
  (pssv_cons (psv_set 6 sc_law.nd rfl (.inl rfl) (pev_len Z.z_len (pvav_cons (pvv_var 5) pvav_nil)))
  (pssv_cons (psv_if (ptv_eq hr.units (pev_mod (pev_callC C__law_cell_at hr (by decide) tk (prv_v 0 (prv_e pev_int prv_nil))).toV (PEv.toV pev_int)).toV (PEv.toV pev_int)) (pssv_one (psv_set 6 sc_law.nd rfl (.inl rfl) (pev_mod (pev_div (pev_callC C__law_cell_at hr (by decide) tk (prv_v 0 (prv_e pev_int prv_nil))).toV (PEv.toV pev_int)).toV (PEv.toV pev_int)))) pssv_nil)
  (pssv_cons (psv_setLc 7 11 rfl sc_law.nd rfl rfl (sw_true rfl rfl rfl (by kernel_rfl)) (piv_range1 Z.z_range (pvav_cons (pvv_var 6) pvav_nil)) (blk_of rfl (by kernel_rfl)) (fun _ _ _ _ _ => (pg_name sc_law.nd rfl (.inl rfl))) (fun _ _ _ _ _ => ptsv_nil) (fun _ _ _ _ _ => (pev_callC C__law_part_by hr (by decide) tkW (prv_v 0 (prv_v 11 (prv_v 1 (prv_v 2 (prv_e (pev_ix hr.units (pev_add (pvv_var 5) (PEv.toV pev_str)).toV (pvv_var 11)) prv_nil))))))))
  (pssv_cons (psv_set 8 sc_law.nd rfl (.inl rfl) (pev_tupOf Z.z_tuple (pvav_cons (pev_add (pfv_lst (pav_cons (pev_var 4) pav_nil)).toV (pvv_var 7)).toV pvav_nil)))
  (pssv_cons (psv_if (pwv_or (ptv_not (ptv_val (pev_callC C__law_same hr (by decide) tk (prv_e (pev_callC C_is_name hr (by decide) tk (prv_v 1 prv_nil)) (prv_e (pev_callC C__law_is_name hr (by decide) tk (prv_v 1 prv_nil)) prv_nil))))) (pwv_or1 (ptv_not (ptv_val (pev_callC C__law_same hr (by decide) tk (prv_e (pev_callC C_is_number hr (by decide) tk (prv_v 2 prv_nil)) (prv_e pev_bl prv_nil))))))).pt (pssv_one (psv_ret pev_bl)) pssv_nil)
  (pssv_cons (psv_if (ptv_not (ptv_val (pev_callC C__law_same hr (by decide) tk (prv_e (pev_callC C_is_step hr (by decide) tk (prv_v 8 prv_nil)) (prv_e (pev_callC C__law_is_step hr (by decide) tk (prv_v 4 (prv_v 7 prv_nil))) prv_nil))))) (pssv_one (psv_ret pev_bl)) pssv_nil)
  (pssv_cons (psv_set 9 sc_law.nd rfl (.inl rfl) (pfv_lst (pav_cons pev_non (pav_cons pev_bl (pav_cons pev_bl (pav_cons (pev_add (pfv_lst (pav_cons (pev_var 4) pav_nil)).toV (pvv_var 7)) (pav_cons (pev_tup pav_nil) (pav_cons (pev_tup (pav_cons (pev_var 2) (pav_cons (pev_var 1) pav_nil))) (pav_cons (pfv_disp (.cons (pev_var 4) (pev_var 7) .nil)).toE pav_nil)))))))).toE)
  (pssv_cons (psv_for 10 hp tk rfl (piv_seq (pev_add (pvv_var 9) (pfv_lst (pav_cons (pev_tupOf Z.z_tuple (pvav_cons (pev_add (pfv_lst (pav_cons (pfv_lst (pav_cons (pev_var 4) pav_nil)).toE pav_nil)).toV (pvv_var 7)).toV pvav_nil)) (pav_cons (pev_tupOf Z.z_tuple (pvav_cons (pev_add (pfv_lst (pav_cons pfv_d0.toE pav_nil)).toV (pvv_var 7)).toV pvav_nil)) (pav_cons (pev_tupOf Z.z_tuple (pvav_cons (pev_add (pfv_lst (pav_cons (pev_tup (pav_cons (pev_var 4) pav_nil)) pav_nil)).toV (pvv_var 7)).toV pvav_nil)) pav_nil)))).toV)) (pg_name sc_law.nd rfl (.inl rfl)) fun _ tk1 => (pssv_cons (psv_if (pwv_or (ptv_not (ptv_val (pev_callC C__law_same hr (by decide) tk1 (prv_e (pev_callC C_is_name hr (by decide) tk1 (prv_v 10 prv_nil)) (prv_e pev_bl prv_nil))))) (pwv_or1 (ptv_not (ptv_val (pev_callC C__law_same hr (by decide) tk1 (prv_e (pev_callC C_is_number hr (by decide) tk1 (prv_v 10 prv_nil)) (prv_e pev_bl prv_nil))))))).pt (pssv_one (psv_ret pev_bl)) pssv_nil)
  (pssv_one (psv_if (ptv_not (ptv_val (pev_callC C__law_same hr (by decide) tk1 (prv_e (pev_callC C_is_step hr (by decide) tk1 (prv_v 10 prv_nil)) (prv_e pev_bl prv_nil))))) (pssv_one (psv_ret pev_bl)) pssv_nil))))
  (pssv_one (psv_ret (pev_and (pev_callC C__law_same hr (by decide) tk (prv_e (pev_callC C_is_name hr (by decide) tk (prv_v 2 prv_nil)) (prv_e pev_bl prv_nil))) (pev_and (pev_callC C__law_same hr (by decide) tk (prv_e (pev_callC C_is_number hr (by decide) tk (prv_v 1 prv_nil)) (prv_e pev_bl prv_nil))) (pev_one (pev_callC C__law_same hr (by decide) tk (prv_e (pev_callC C_is_step hr (by decide) tk (prv_v 1 prv_nil)) (prv_e pev_bl prv_nil)))))))))))))))))))))
end
end K01

namespace K01
open PySem Fmx

def isNm (x : Str) : Bool := decide (1 ≤ x.length ∧ x.length ≤ 8) && x.cps.toList.all fun c => decide (97 ≤ c) && decide (c ≤ 122)
def nmD : D → Bool
  | .str x => isNm x
  | _ => false
def nrD : D → Bool
  | .int _ => true
  | _ => false
def szD : D → Bool
  | .int i => decide (2 ≤ i) && decide (i ≤ 1000000)
  | _ => false
def chOf : D → Nat
  | .str x => x.cps.getD 0 0
  | _ => 0
/-- a value that isinstance may be asked of -/
def goodD (d : D) : Prop := ∃ n, tyD d = some n
theorem is_number_eq (r : R) (B : Bk) (hr : r.lent = true) (h : goodD r.d) : f_is_number [r] B = some (.ok ⟨.shr, .bl (nrD r.d)⟩, B) := by
  obtain ⟨t, d⟩ := r
  obtain ⟨n, h⟩ := h
  cases d <;> cases h <;> (simp only [f_is_number, fnF, b_is_number, ite_ap, mbind, mlift, mret, fVar, vVar, fC, fOp, fUn, fNil, fCons, fFn, fTst, tst, fAndT, fOrT, fNotT, fAnd, fOr, fIf, fChain, fCall, callM, fRE, fRV, fR0, lend, fCallO, callO, fCallQ, callQ, sNext, sBrk, sCnt, sSeq, sE, sSet, sOwn, sRet, sRetF, sRetO, sRetN, sDrop, sIf, sSetQ, sRetQ, sMatch, cNone, cAny, cSeq, put, putO, start0, R.lent, R.d, fIts, fFnI, fPair, fUnit, sFrz, fD0, fDisp, fPairs, fSl, fNo, fPart, intOf, fJoin, strOf, List.getElem?_cons_zero, List.getElem?_cons_succ, List.set_cons_zero, List.set_cons_succ, List.map_cons, List.map_nil, List.length_cons, List.length_nil, List.cons_append, List.nil_append, List.replicate, Option.map_some, Option.map_none, Option.bind_some, Option.bind_none, if_true, Bool.not_true, Bool.not_false, Bool.false_eq_true, if_false, Nat.reduceAdd, Nat.reduceSub, eq_self_iff_true, Nat.zero_add]; rfl)
theorem law_is_number_eq (r : R) (B : Bk) (hr : r.lent = true) (h : goodD r.d) : f__law_is_number [r] B = some (.ok ⟨.shr, .bl (nrD r.d)⟩, B) := by
  obtain ⟨t, d⟩ := r
  obtain ⟨n, h⟩ := h
  cases d <;> cases h <;> (simp only [f__law_is_number, fnF, b__law_is_number, ite_ap, mbind, mlift, mret, fVar, vVar, fC, fOp, fUn, fNil, fCons, fFn, fTst, tst, fAndT, fOrT, fNotT, fAnd, fOr, fIf, fChain, fCall, callM, fRE, fRV, fR0, lend, fCallO, callO, fCallQ, callQ, sNext, sBrk, sCnt, sSeq, sE, sSet, sOwn, sRet, sRetF, sRetO, sRetN, sDrop, sIf, sSetQ, sRetQ, sMatch, cNone, cAny, cSeq, put, putO, start0, R.lent, R.d, fIts, fFnI, fPair, fUnit, sFrz, fD0, fDisp, fPairs, fSl, fNo, fPart, intOf, fJoin, strOf, List.getElem?_cons_zero, List.getElem?_cons_succ, List.set_cons_zero, List.set_cons_succ, List.map_cons, List.map_nil, List.length_cons, List.length_nil, List.cons_append, List.nil_append, List.replicate, Option.map_some, Option.map_none, Option.bind_some, Option.bind_none, if_true, Bool.not_true, Bool.not_false, Bool.false_eq_true, if_false, Nat.reduceAdd, Nat.reduceSub, eq_self_iff_true, Nat.zero_add]; rfl)
theorem is_name_str (x : Str) (B : Bk) (hx : x.length ≤ sizeLine) : f_is_name [⟨.shr, .str x⟩] B = some (.ok ⟨.shr, .bl (isNm x)⟩, B) := by
  have hs : sizeLine = 16777216 := sizeLine_eq
  have e1 : gLe (.int 1) (.int x.length) = some (.bl (decide ((1:Int) ≤ x.length))) := rfl
  have e2 : gLe (.int x.length) (.int 8) = some (.bl (decide ((x.length : Int) ≤ 8))) := rfl
  have e3 : gLen [.str x] = some (.int x.length) := by simp [gLen, lenD, hx]
  have e4 : isiD "str" (.str x) = some (.bl true) := rfl
  have lc : (1 ≤ x.length ∧ x.length ≤ 8) → fLc 1 (fIts (fVar 0)) fYes (fChain gLe gLe (fC (.str "a")) (vVar 1) (fC (.str "z"))) [some ⟨.shr, .str x⟩, none] B = some (.ok (.lst ((charsD x).map fun d => .bl (decide (97 ≤ chOf d) && decide (chOf d ≤ 122)))), B) := fun h => by
    refine lc_all _ rfl (by simp only [charsD, List.length_map, Array.length_toList]; have := h.2; unfold Str.length at this; omega) fun d hd => ?_
    obtain ⟨c, hc, rfl⟩ := List.mem_map.mp hd
    have hc : chOf (.str ⟨#[c]⟩) = c := rfl
    simp only [ite_ap, mbind, mlift, mret, fVar, vVar, fC, fOp, fUn, fNil, fCons, fFn, fTst, tst, fAndT, fOrT, fNotT, fAnd, fOr, fIf, fChain, fCall, callM, fRE, fRV, fR0, lend, fCallO, callO, fCallQ, callQ, sNext, sBrk, sCnt, sSeq, sE, sSet, sOwn, sRet, sRetF, sRetO, sRetN, sDrop, sIf, sSetQ, sRetQ, sMatch, cNone, cAny, cSeq, put, putO, start0, R.lent, R.d, fIts, fFnI, fPair, fUnit, sFrz, fD0, fDisp, fPairs, fSl, fNo, fPart, intOf, fJoin, strOf, List.getElem?_cons_zero, List.getElem?_cons_succ, List.set_cons_zero, List.set_cons_succ, List.map_cons, List.map_nil, List.length_cons, List.length_nil, List.cons_append, List.nil_append, List.replicate, Option.map_some, Option.map_none, Option.bind_some, Option.bind_none, if_true, Bool.not_true, Bool.not_false, Bool.false_eq_true, if_false, Nat.reduceAdd, Nat.reduceSub, eq_self_iff_true, Nat.zero_add, lit_a, lit_z, le_char1, hc]
    cases decide (97 ≤ c) <;> simp only [ite_ap, mbind, mlift, mret, fVar, vVar, fC, fOp, fUn, fNil, fCons, fFn, fTst, tst, fAndT, fOrT, fNotT, fAnd, fOr, fIf, fChain, fCall, callM, fRE, fRV, fR0, lend, fCallO, callO, fCallQ, callQ, sNext, sBrk, sCnt, sSeq, sE, sSet, sOwn, sRet, sRetF, sRetO, sRetN, sDrop, sIf, sSetQ, sRetQ, sMatch, cNone, cAny, cSeq, put, putO, start0, R.lent, R.d, fIts, fFnI, fPair, fUnit, sFrz, fD0, fDisp, fPairs, fSl, fNo, fPart, intOf, fJoin, strOf, List.getElem?_cons_zero, List.getElem?_cons_succ, List.set_cons_zero, List.set_cons_succ, List.map_cons, List.map_nil, List.length_cons, List.length_nil, List.cons_append, List.nil_append, List.replicate, Option.map_some, Option.map_none, Option.bind_some, Option.bind_none, if_true, Bool.not_true, Bool.not_false, Bool.false_eq_true, if_false, Nat.reduceAdd, Nat.reduceSub, eq_self_iff_true, Nat.zero_add, le_char1, Bool.false_and, Bool.true_and]
  have eb : ∀ l : List Nat, blsD ((l.map fun c => D.str ⟨#[c]⟩).map fun d => .bl (decide (97 ≤ chOf d) && decide (chOf d ≤ 122))) = some (l.map fun c => decide (97 ≤ c) && decide (c ≤ 122)) := fun l => by
    induction l with
    | nil => rfl
    | cons c r ih => simp only [List.map_cons, blsD, ih]; rfl
  simp only [f_is_name, fnF, b_is_name, ite_ap, mbind, mlift, mret, fVar, vVar, fC, fOp, fUn, fNil, fCons, fFn, fTst, tst, fAndT, fOrT, fNotT, fAnd, fOr, fIf, fChain, fCall, callM, fRE, fRV, fR0, lend, fCallO, callO, fCallQ, callQ, sNext, sBrk, sCnt, sSeq, sE, sSet, sOwn, sRet, sRetF, sRetO, sRetN, sDrop, sIf, sSetQ, sRetQ, sMatch, cNone, cAny, cSeq, put, putO, start0, R.lent, R.d, fIts, fFnI, fPair, fUnit, sFrz, fD0, fDisp, fPairs, fSl, fNo, fPart, intOf, fJoin, strOf, List.getElem?_cons_zero, List.getElem?_cons_succ, List.set_cons_zero, List.set_cons_succ, List.map_cons, List.map_nil, List.length_cons, List.length_nil, List.cons_append, List.nil_append, List.replicate, Option.map_some, Option.map_none, Option.bind_some, Option.bind_none, if_true, Bool.not_true, Bool.not_false, Bool.false_eq_true, if_false, Nat.reduceAdd, Nat.reduceSub, eq_self_iff_true, Nat.zero_add, e1, e2, e3, e4]
  by_cases h1 : 1 ≤ x.length
  · by_cases h2 : x.length ≤ 8
    · have l := lc ⟨h1, h2⟩
      have h1' : (1:Int) ≤ x.length := by omega
      have h2' : (x.length:Int) ≤ 8 := by omega
      simp only [h1', h2', decide_true, ite_ap, mbind, mlift, mret, fVar, vVar, fC, fOp, fUn, fNil, fCons, fFn, fTst, tst, fAndT, fOrT, fNotT, fAnd, fOr, fIf, fChain, fCall, callM, fRE, fRV, fR0, lend, fCallO, callO, fCallQ, callQ, sNext, sBrk, sCnt, sSeq, sE, sSet, sOwn, sRet, sRetF, sRetO, sRetN, sDrop, sIf, sSetQ, sRetQ, sMatch, cNone, cAny, cSeq, put, putO, start0, R.lent, R.d, fIts, fFnI, fPair, fUnit, sFrz, fD0, fDisp, fPairs, fSl, fNo, fPart, intOf, fJoin, strOf, List.getElem?_cons_zero, List.getElem?_cons_succ, List.set_cons_zero, List.set_cons_succ, List.map_cons, List.map_nil, List.length_cons, List.length_nil, List.cons_append, List.nil_append, List.replicate, Option.map_some, Option.map_none, Option.bind_some, Option.bind_none, if_true, Bool.not_true, Bool.not_false, Bool.false_eq_true, if_false, Nat.reduceAdd, Nat.reduceSub, eq_self_iff_true, Nat.zero_add, e2]
      have l2 := l
      simp only [fLc] at l2
      rw [l]
      simp only [ite_ap, mbind, mlift, mret, fVar, vVar, fC, fOp, fUn, fNil, fCons, fFn, fTst, tst, fAndT, fOrT, fNotT, fAnd, fOr, fIf, fChain, fCall, callM, fRE, fRV, fR0, lend, fCallO, callO, fCallQ, callQ, sNext, sBrk, sCnt, sSeq, sE, sSet, sOwn, sRet, sRetF, sRetO, sRetN, sDrop, sIf, sSetQ, sRetQ, sMatch, cNone, cAny, cSeq, put, putO, start0, R.lent, R.d, fIts, fFnI, fPair, fUnit, sFrz, fD0, fDisp, fPairs, fSl, fNo, fPart, intOf, fJoin, strOf, List.getElem?_cons_zero, List.getElem?_cons_succ, List.set_cons_zero, List.set_cons_succ, List.map_cons, List.map_nil, List.length_cons, List.length_nil, List.cons_append, List.nil_append, List.replicate, Option.map_some, Option.map_none, Option.bind_some, Option.bind_none, if_true, Bool.not_true, Bool.not_false, Bool.false_eq_true, if_false, Nat.reduceAdd, Nat.reduceSub, eq_self_iff_true, Nat.zero_add, gAll, charsD, eb]
      simp [isNm, h1, h2, List.all_map]
    · have h1' : (1:Int) ≤ x.length := by omega
      have h2' : ¬ (x.length:Int) ≤ 8 := by omega
      simp only [h1', h2', decide_true, decide_false, ite_ap, mbind, mlift, mret, fVar, vVar, fC, fOp, fUn, fNil, fCons, fFn, fTst, tst, fAndT, fOrT, fNotT, fAnd, fOr, fIf, fChain, fCall, callM, fRE, fRV, fR0, lend, fCallO, callO, fCallQ, callQ, sNext, sBrk, sCnt, sSeq, sE, sSet, sOwn, sRet, sRetF, sRetO, sRetN, sDrop, sIf, sSetQ, sRetQ, sMatch, cNone, cAny, cSeq, put, putO, start0, R.lent, R.d, fIts, fFnI, fPair, fUnit, sFrz, fD0, fDisp, fPairs, fSl, fNo, fPart, intOf, fJoin, strOf, List.getElem?_cons_zero, List.getElem?_cons_succ, List.set_cons_zero, List.set_cons_succ, List.map_cons, List.map_nil, List.length_cons, List.length_nil, List.cons_append, List.nil_append, List.replicate, Option.map_some, Option.map_none, Option.bind_some, Option.bind_none, if_true, Bool.not_true, Bool.not_false, Bool.false_eq_true, if_false, Nat.reduceAdd, Nat.reduceSub, eq_self_iff_true, Nat.zero_add, e2]
      simp [isNm, h1, h2]
  · have h1' : ¬ (1:Int) ≤ x.length := by omega
    simp only [h1', decide_false, ite_ap, mbind, mlift, mret, fVar, vVar, fC, fOp, fUn, fNil, fCons, fFn, fTst, tst, fAndT, fOrT, fNotT, fAnd, fOr, fIf, fChain, fCall, callM, fRE, fRV, fR0, lend, fCallO, callO, fCallQ, callQ, sNext, sBrk, sCnt, sSeq, sE, sSet, sOwn, sRet, sRetF, sRetO, sRetN, sDrop, sIf, sSetQ, sRetQ, sMatch, cNone, cAny, cSeq, put, putO, start0, R.lent, R.d, fIts, fFnI, fPair, fUnit, sFrz, fD0, fDisp, fPairs, fSl, fNo, fPart, intOf, fJoin, strOf, List.getElem?_cons_zero, List.getElem?_cons_succ, List.set_cons_zero, List.set_cons_succ, List.map_cons, List.map_nil, List.length_cons, List.length_nil, List.cons_append, List.nil_append, List.replicate, Option.map_some, Option.map_none, Option.bind_some, Option.bind_none, if_true, Bool.not_true, Bool.not_false, Bool.false_eq_true, if_false, Nat.reduceAdd, Nat.reduceSub, eq_self_iff_true, Nat.zero_add]
    simp [isNm, h1]
theorem is_name_eq (r : R) (B : Bk) (hr : r.tag = .shr) (h : goodD r.d) (hx : ∀ x, r.d = .str x → x.length ≤ sizeLine) : f_is_name [r] B = some (.ok ⟨.shr, .bl (nmD r.d)⟩, B) := by
  obtain ⟨t, d⟩ := r
  cases hr
  obtain ⟨n, h⟩ := h
  cases d with
  | str x => exact is_name_str x B (hx x rfl)
  | _ => cases h <;> (simp only [f_is_name, fnF, b_is_name, ite_ap, mbind, mlift, mret, fVar, vVar, fC, fOp, fUn, fNil, fCons, fFn, fTst, tst, fAndT, fOrT, fNotT, fAnd, fOr, fIf, fChain, fCall, callM, fRE, fRV, fR0, lend, fCallO, callO, fCallQ, callQ, sNext, sBrk, sCnt, sSeq, sE, sSet, sOwn, sRet, sRetF, sRetO, sRetN, sDrop, sIf, sSetQ, sRetQ, sMatch, cNone, cAny, cSeq, put, putO, start0, R.lent, R.d, fIts, fFnI, fPair, fUnit, sFrz, fD0, fDisp, fPairs, fSl, fNo, fPart, intOf, fJoin, strOf, List.getElem?_cons_zero, List.getElem?_cons_succ, List.set_cons_zero, List.set_cons_succ, List.map_cons, List.map_nil, List.length_cons, List.length_nil, List.cons_append, List.nil_append, List.replicate, Option.map_some, Option.map_none, Option.bind_some, Option.bind_none, if_true, Bool.not_true, Bool.not_false, Bool.false_eq_true, if_false, Nat.reduceAdd, Nat.reduceSub, eq_self_iff_true, Nat.zero_add]; rfl)
theorem in_az (c : Nat) : gIn true (.str ⟨#[c]⟩) (.str "abcdefghijklmnopqrstuvwxyz") = some (.bl (!(decide (97 ≤ c) && decide (c ≤ 122)))) := by
  have e : (("abcdefghijklmnopqrstuvwxyz" : Str)).cps.toList = (List.range 26).map (97 + ·) := by decide +kernel
  have k : gIn true (.str ⟨#[c]⟩) (.str "abcdefghijklmnopqrstuvwxyz") = some (.bl (decide (c ∈ (("abcdefghijklmnopqrstuvwxyz" : Str)).cps.toList) != true)) := rfl
  rw [k, e]
  congr 2
  have : (c ∈ (List.range 26).map (97 + ·)) ↔ 97 ≤ c ∧ c ≤ 122 := by
    rw [List.mem_map]
    constructor
    · rintro ⟨a, ha, rfl⟩; rw [List.mem_range] at ha; omega
    · intro h; exact ⟨c - 97, List.mem_range.mpr (by omega), by omega⟩
  by_cases h : 97 ≤ c ∧ c ≤ 122
  · simp [this, h]
  · simp only [this, h, decide_false]
    by_cases h1 : 97 ≤ c
    · have : ¬ c ≤ 122 := fun z => h ⟨h1, z⟩
      simp [h1, this]
    · simp [h1]
theorem GS_char {x : Str} (h : GS x) {c : Nat} (hc : c ∈ x.cps.toList) : GS ⟨#[c]⟩ := ⟨by show 1 ≤ 1000000; decide, fun d hd => by
  have : d = c := by simpa using hd
  rw [this]; exact h.2 c hc⟩
theorem lst_nil_eq (ds : List D) (xs : List Str) (hd : ds = xs.map .str) (hx : ∀ x ∈ xs, GS x) : gEq (.lst ds) (.lst []) = some (.bl ds.isEmpty) := by
  subst hd
  unfold gEq
  rw [show (D.lst []) = D.lst (([] : List Str).map .str) from rfl, eqD_strs hx (fun _ h => by cases h)]
  cases xs <;> rfl
theorem law_is_name_str (x : Str) (B : Bk) (hgs : GS x) (hx : x.length ≤ sizeLine) : f__law_is_name [⟨.shr, .str x⟩] B = some (.ok ⟨.shr, .bl (isNm x)⟩, B) := by
  have hs : sizeLine = 16777216 := sizeLine_eq
  have e1 : gLe (.int 1) (.int x.length) = some (.bl (decide ((1:Int) ≤ x.length))) := rfl
  have e2 : gLe (.int x.length) (.int 8) = some (.bl (decide ((x.length : Int) ≤ 8))) := rfl
  have e3 : gLen [.str x] = some (.int x.length) := by simp [gLen, lenD, hx]
  have e4 : isiD "str" (.str x) = some (.bl true) := rfl
  have lc : (1 ≤ x.length ∧ x.length ≤ 8) → fLc 1 (fIts (fVar 0)) (fTst (fOp (gIn true) (vVar 1) (fC (.str "abcdefghijklmnopqrstuvwxyz")))) (fVar 1) [some ⟨.shr, .str x⟩, none] B = some (.ok (.lst (((charsD x).filter fun d => !(decide (97 ≤ chOf d) && decide (chOf d ≤ 122))).map id)), B) := fun h => by
    refine lc_filter _ _ rfl (by simp only [charsD, List.length_map, Array.length_toList]; have := h.2; unfold Str.length at this; omega) (fun d hd => ?_) fun d hd _ => ?_
    · obtain ⟨c, hc, rfl⟩ := List.mem_map.mp hd
      have hc : chOf (.str ⟨#[c]⟩) = c := rfl
      simp only [ite_ap, mbind, mlift, mret, fVar, vVar, fC, fOp, fUn, fNil, fCons, fFn, fTst, tst, fAndT, fOrT, fNotT, fAnd, fOr, fIf, fChain, fCall, callM, fRE, fRV, fR0, lend, fCallO, callO, fCallQ, callQ, sNext, sBrk, sCnt, sSeq, sE, sSet, sOwn, sRet, sRetF, sRetO, sRetN, sDrop, sIf, sSetQ, sRetQ, sMatch, cNone, cAny, cSeq, put, putO, start0, R.lent, R.d, fIts, fFnI, fPair, fUnit, sFrz, fD0, fDisp, fPairs, fSl, fNo, fPart, intOf, fJoin, strOf, List.getElem?_cons_zero, List.getElem?_cons_succ, List.set_cons_zero, List.set_cons_succ, List.map_cons, List.map_nil, List.length_cons, List.length_nil, List.cons_append, List.nil_append, List.replicate, Option.map_some, Option.map_none, Option.bind_some, Option.bind_none, if_true, Bool.not_true, Bool.not_false, Bool.false_eq_true, if_false, Nat.reduceAdd, Nat.reduceSub, eq_self_iff_true, Nat.zero_add, in_az, hc]
    · simp only [ite_ap, mbind, mlift, mret, fVar, vVar, fC, fOp, fUn, fNil, fCons, fFn, fTst, tst, fAndT, fOrT, fNotT, fAnd, fOr, fIf, fChain, fCall, callM, fRE, fRV, fR0, lend, fCallO, callO, fCallQ, callQ, sNext, sBrk, sCnt, sSeq, sE, sSet, sOwn, sRet, sRetF, sRetO, sRetN, sDrop, sIf, sSetQ, sRetQ, sMatch, cNone, cAny, cSeq, put, putO, start0, R.lent, R.d, fIts, fFnI, fPair, fUnit, sFrz, fD0, fDisp, fPairs, fSl, fNo, fPart, intOf, fJoin, strOf, List.getElem?_cons_zero, List.getElem?_cons_succ, List.set_cons_zero, List.set_cons_succ, List.map_cons, List.map_nil, List.length_cons, List.length_nil, List.cons_append, List.nil_append, List.replicate, Option.map_some, Option.map_none, Option.bind_some, Option.bind_none, if_true, Bool.not_true, Bool.not_false, Bool.false_eq_true, if_false, Nat.reduceAdd, Nat.reduceSub, eq_self_iff_true, Nat.zero_add, id]
  simp only [f__law_is_name, fnF, b__law_is_name, ite_ap, mbind, mlift, mret, fVar, vVar, fC, fOp, fUn, fNil, fCons, fFn, fTst, tst, fAndT, fOrT, fNotT, fAnd, fOr, fIf, fChain, fCall, callM, fRE, fRV, fR0, lend, fCallO, callO, fCallQ, callQ, sNext, sBrk, sCnt, sSeq, sE, sSet, sOwn, sRet, sRetF, sRetO, sRetN, sDrop, sIf, sSetQ, sRetQ, sMatch, cNone, cAny, cSeq, put, putO, start0, R.lent, R.d, fIts, fFnI, fPair, fUnit, sFrz, fD0, fDisp, fPairs, fSl, fNo, fPart, intOf, fJoin, strOf, List.getElem?_cons_zero, List.getElem?_cons_succ, List.set_cons_zero, List.set_cons_succ, List.map_cons, List.map_nil, List.length_cons, List.length_nil, List.cons_append, List.nil_append, List.replicate, Option.map_some, Option.map_none, Option.bind_some, Option.bind_none, if_true, Bool.not_true, Bool.not_false, Bool.false_eq_true, if_false, Nat.reduceAdd, Nat.reduceSub, eq_self_iff_true, Nat.zero_add, e1, e2, e3, e4]
  by_cases h1 : 1 ≤ x.length
  · by_cases h2 : x.length ≤ 8
    · have l := lc ⟨h1, h2⟩
      have h1' : (1:Int) ≤ x.length := by omega
      have h2' : (x.length:Int) ≤ 8 := by omega
      simp only [h1', h2', decide_true, ite_ap, mbind, mlift, mret, fVar, vVar, fC, fOp, fUn, fNil, fCons, fFn, fTst, tst, fAndT, fOrT, fNotT, fAnd, fOr, fIf, fChain, fCall, callM, fRE, fRV, fR0, lend, fCallO, callO, fCallQ, callQ, sNext, sBrk, sCnt, sSeq, sE, sSet, sOwn, sRet, sRetF, sRetO, sRetN, sDrop, sIf, sSetQ, sRetQ, sMatch, cNone, cAny, cSeq, put, putO, start0, R.lent, R.d, fIts, fFnI, fPair, fUnit, sFrz, fD0, fDisp, fPairs, fSl, fNo, fPart, intOf, fJoin, strOf, List.getElem?_cons_zero, List.getElem?_cons_succ, List.set_cons_zero, List.set_cons_succ, List.map_cons, List.map_nil, List.length_cons, List.length_nil, List.cons_append, List.nil_append, List.replicate, Option.map_some, Option.map_none, Option.bind_some, Option.bind_none, if_true, Bool.not_true, Bool.not_false, Bool.false_eq_true, if_false, Nat.reduceAdd, Nat.reduceSub, eq_self_iff_true, Nat.zero_add, e2]
      rw [l]
      have z : Fmx.gLst [] = some (.lst []) := rfl
      simp only [ite_ap, mbind, mlift, mret, fVar, vVar, fC, fOp, fUn, fNil, fCons, fFn, fTst, tst, fAndT, fOrT, fNotT, fAnd, fOr, fIf, fChain, fCall, callM, fRE, fRV, fR0, lend, fCallO, callO, fCallQ, callQ, sNext, sBrk, sCnt, sSeq, sE, sSet, sOwn, sRet, sRetF, sRetO, sRetN, sDrop, sIf, sSetQ, sRetQ, sMatch, cNone, cAny, cSeq, put, putO, start0, R.lent, R.d, fIts, fFnI, fPair, fUnit, sFrz, fD0, fDisp, fPairs, fSl, fNo, fPart, intOf, fJoin, strOf, List.getElem?_cons_zero, List.getElem?_cons_succ, List.set_cons_zero, List.set_cons_succ, List.map_cons, List.map_nil, List.length_cons, List.length_nil, List.cons_append, List.nil_append, List.replicate, Option.map_some, Option.map_none, Option.bind_some, Option.bind_none, if_true, Bool.not_true, Bool.not_false, Bool.false_eq_true, if_false, Nat.reduceAdd, Nat.reduceSub, eq_self_iff_true, Nat.zero_add, List.map_id, z]
      have em : ∀ l : List Nat, ((l.map fun c => D.str ⟨#[c]⟩).filter fun d => !(decide (97 ≤ chOf d) && decide (chOf d ≤ 122))) = ((l.filter fun c => !(decide (97 ≤ c) && decide (c ≤ 122))).map fun c => (⟨#[c]⟩ : Str)).map .str := fun l => by
        induction l with
        | nil => rfl
        | cons c r ih =>
          have hc : chOf (.str ⟨#[c]⟩) = c := rfl
          simp only [List.map_cons, List.filter_cons, hc, ih]
          split <;> rfl
      rw [show (charsD x) = x.cps.toList.map fun c => D.str ⟨#[c]⟩ from rfl]
      rw [lst_nil_eq _ _ (em x.cps.toList) fun y hy => by
        obtain ⟨c, hc, rfl⟩ := List.mem_map.mp hy
        exact GS_char hgs (List.mem_filter.mp hc).1]
      simp only [ite_ap, mbind, mlift, mret, fVar, vVar, fC, fOp, fUn, fNil, fCons, fFn, fTst, tst, fAndT, fOrT, fNotT, fAnd, fOr, fIf, fChain, fCall, callM, fRE, fRV, fR0, lend, fCallO, callO, fCallQ, callQ, sNext, sBrk, sCnt, sSeq, sE, sSet, sOwn, sRet, sRetF, sRetO, sRetN, sDrop, sIf, sSetQ, sRetQ, sMatch, cNone, cAny, cSeq, put, putO, start0, R.lent, R.d, fIts, fFnI, fPair, fUnit, sFrz, fD0, fDisp, fPairs, fSl, fNo, fPart, intOf, fJoin, strOf, List.getElem?_cons_zero, List.getElem?_cons_succ, List.set_cons_zero, List.set_cons_succ, List.map_cons, List.map_nil, List.length_cons, List.length_nil, List.cons_append, List.nil_append, List.replicate, Option.map_some, Option.map_none, Option.bind_some, Option.bind_none, if_true, Bool.not_true, Bool.not_false, Bool.false_eq_true, if_false, Nat.reduceAdd, Nat.reduceSub, eq_self_iff_true, Nat.zero_add]
      have : ∀ l : List Nat, (((l.map fun c => D.str ⟨#[c]⟩).filter fun d => !(decide (97 ≤ chOf d) && decide (chOf d ≤ 122))).isEmpty) = l.all fun c => decide (97 ≤ c) && decide (c ≤ 122) := fun l => by
        induction l with
        | nil => rfl
        | cons c r ih =>
          have hc : chOf (.str ⟨#[c]⟩) = c := rfl
          simp only [List.map_cons, List.all_cons, List.filter_cons, hc]
          cases decide (97 ≤ c) && decide (c ≤ 122)
          · simp
          · simpa using ih
      rw [this]
      simp [isNm, h1, h2]
    · have h1' : (1:Int) ≤ x.length := by omega
      have h2' : ¬ (x.length:Int) ≤ 8 := by omega
      simp only [h1', h2', decide_true, decide_false, ite_ap, mbind, mlift, mret, fVar, vVar, fC, fOp, fUn, fNil, fCons, fFn, fTst, tst, fAndT, fOrT, fNotT, fAnd, fOr, fIf, fChain, fCall, callM, fRE, fRV, fR0, lend, fCallO, callO, fCallQ, callQ, sNext, sBrk, sCnt, sSeq, sE, sSet, sOwn, sRet, sRetF, sRetO, sRetN, sDrop, sIf, sSetQ, sRetQ, sMatch, cNone, cAny, cSeq, put, putO, start0, R.lent, R.d, fIts, fFnI, fPair, fUnit, sFrz, fD0, fDisp, fPairs, fSl, fNo, fPart, intOf, fJoin, strOf, List.getElem?_cons_zero, List.getElem?_cons_succ, List.set_cons_zero, List.set_cons_succ, List.map_cons, List.map_nil, List.length_cons, List.length_nil, List.cons_append, List.nil_append, List.replicate, Option.map_some, Option.map_none, Option.bind_some, Option.bind_none, if_true, Bool.not_true, Bool.not_false, Bool.false_eq_true, if_false, Nat.reduceAdd, Nat.reduceSub, eq_self_iff_true, Nat.zero_add, e2]
      simp [isNm, h1, h2]
  · have h1' : ¬ (1:Int) ≤ x.length := by omega
    simp only [h1', decide_false, ite_ap, mbind, mlift, mret, fVar, vVar, fC, fOp, fUn, fNil, fCons, fFn, fTst, tst, fAndT, fOrT, fNotT, fAnd, fOr, fIf, fChain, fCall, callM, fRE, fRV, fR0, lend, fCallO, callO, fCallQ, callQ, sNext, sBrk, sCnt, sSeq, sE, sSet, sOwn, sRet, sRetF, sRetO, sRetN, sDrop, sIf, sSetQ, sRetQ, sMatch, cNone, cAny, cSeq, put, putO, start0, R.lent, R.d, fIts, fFnI, fPair, fUnit, sFrz, fD0, fDisp, fPairs, fSl, fNo, fPart, intOf, fJoin, strOf, List.getElem?_cons_zero, List.getElem?_cons_succ, List.set_cons_zero, List.set_cons_succ, List.map_cons, List.map_nil, List.length_cons, List.length_nil, List.cons_append, List.nil_append, List.replicate, Option.map_some, Option.map_none, Option.bind_some, Option.bind_none, if_true, Bool.not_true, Bool.not_false, Bool.false_eq_true, if_false, Nat.reduceAdd, Nat.reduceSub, eq_self_iff_true, Nat.zero_add]
    simp [isNm, h1]
theorem law_is_name_eq (r : R) (B : Bk) (hr : r.tag = .shr) (h : goodD r.d) (hx : ∀ x, r.d = .str x → GS x ∧ x.length ≤ sizeLine) : f__law_is_name [r] B = some (.ok ⟨.shr, .bl (nmD r.d)⟩, B) := by
  obtain ⟨t, d⟩ := r
  cases hr
  obtain ⟨n, h⟩ := h
  cases d with
  | str x => exact law_is_name_str x B (hx x rfl).1 (hx x rfl).2
  | _ => cases h <;> (simp only [f__law_is_name, fnF, b__law_is_name, ite_ap, mbind, mlift, mret, fVar, vVar, fC, fOp, fUn, fNil, fCons, fFn, fTst, tst, fAndT, fOrT, fNotT, fAnd, fOr, fIf, fChain, fCall, callM, fRE, fRV, fR0, lend, fCallO, callO, fCallQ, callQ, sNext, sBrk, sCnt, sSeq, sE, sSet, sOwn, sRet, sRetF, sRetO, sRetN, sDrop, sIf, sSetQ, sRetQ, sMatch, cNone, cAny, cSeq, put, putO, start0, R.lent, R.d, fIts, fFnI, fPair, fUnit, sFrz, fD0, fDisp, fPairs, fSl, fNo, fPart, intOf, fJoin, strOf, List.getElem?_cons_zero, List.getElem?_cons_succ, List.set_cons_zero, List.set_cons_succ, List.map_cons, List.map_nil, List.length_cons, List.length_nil, List.cons_append, List.nil_append, List.replicate, Option.map_some, Option.map_none, Option.bind_some, Option.bind_none, if_true, Bool.not_true, Bool.not_false, Bool.false_eq_true, if_false, Nat.reduceAdd, Nat.reduceSub, eq_self_iff_true, Nat.zero_add]; rfl)
def partD (d : D) : Prop := goodD d ∧ ∀ x, d = .str x → GS x
theorem GS.le {x : Str} (h : GS x) : x.length ≤ sizeLine := by have := h.1; rw [sizeLine_eq]; omega
theorem nm_eq {d : D} (B : Bk) (h : partD d) : f_is_name [⟨.shr, d⟩] B = some (.ok ⟨.shr, .bl (nmD d)⟩, B) := is_name_eq ⟨.shr, d⟩ B rfl h.1 fun x e => GS.le (h.2 x e)
theorem lnm_eq {d : D} (B : Bk) (h : partD d) : f__law_is_name [⟨.shr, d⟩] B = some (.ok ⟨.shr, .bl (nmD d)⟩, B) := law_is_name_eq ⟨.shr, d⟩ B rfl h.1 fun x e => ⟨h.2 x e, GS.le (h.2 x e)⟩
theorem nr_eq {d : D} (B : Bk) (h : partD d) : f_is_number [⟨.shr, d⟩] B = some (.ok ⟨.shr, .bl (nrD d)⟩, B) := is_number_eq ⟨.shr, d⟩ B rfl h.1
theorem lnr_eq {d : D} (B : Bk) (h : partD d) : f__law_is_number [⟨.shr, d⟩] B = some (.ok ⟨.shr, .bl (nrD d)⟩, B) := law_is_number_eq ⟨.shr, d⟩ B rfl h.1
theorem ndec (i j : Int) : gLe (.int i) (.int j) = some (.bl (decide (i ≤ j))) := rfl
theorem sz_eq {d : D} (B : Bk) (h : partD d) : f_is_size [⟨.shr, d⟩] B = some (.ok ⟨.shr, .bl (szD d)⟩, B) := by
  have k := nr_eq B h
  simp only [f_is_size, fnF, b_is_size, ite_ap, mbind, mlift, mret, fVar, vVar, fC, fOp, fUn, fNil, fCons, fFn, fTst, tst, fAndT, fOrT, fNotT, fAnd, fOr, fIf, fChain, fCall, callM, fRE, fRV, fR0, lend, fCallO, callO, fCallQ, callQ, sNext, sBrk, sCnt, sSeq, sE, sSet, sOwn, sRet, sRetF, sRetO, sRetN, sDrop, sIf, sSetQ, sRetQ, sMatch, cNone, cAny, cSeq, put, putO, start0, R.lent, R.d, fIts, fFnI, fPair, fUnit, sFrz, fD0, fDisp, fPairs, fSl, fNo, fPart, intOf, fJoin, strOf, List.getElem?_cons_zero, List.getElem?_cons_succ, List.set_cons_zero, List.set_cons_succ, List.map_cons, List.map_nil, List.length_cons, List.length_nil, List.cons_append, List.nil_append, List.replicate, Option.map_some, Option.map_none, Option.bind_some, Option.bind_none, if_true, Bool.not_true, Bool.not_false, Bool.false_eq_true, if_false, Nat.reduceAdd, Nat.reduceSub, eq_self_iff_true, Nat.zero_add, k]
  cases d with
  | int i =>
    simp only [nrD, ndec, ite_ap, mbind, mlift, mret, fVar, vVar, fC, fOp, fUn, fNil, fCons, fFn, fTst, tst, fAndT, fOrT, fNotT, fAnd, fOr, fIf, fChain, fCall, callM, fRE, fRV, fR0, lend, fCallO, callO, fCallQ, callQ, sNext, sBrk, sCnt, sSeq, sE, sSet, sOwn, sRet, sRetF, sRetO, sRetN, sDrop, sIf, sSetQ, sRetQ, sMatch, cNone, cAny, cSeq, put, putO, start0, R.lent, R.d, fIts, fFnI, fPair, fUnit, sFrz, fD0, fDisp, fPairs, fSl, fNo, fPart, intOf, fJoin, strOf, List.getElem?_cons_zero, List.getElem?_cons_succ, List.set_cons_zero, List.set_cons_succ, List.map_cons, List.map_nil, List.length_cons, List.length_nil, List.cons_append, List.nil_append, List.replicate, Option.map_some, Option.map_none, Option.bind_some, Option.bind_none, if_true, Bool.not_true, Bool.not_false, Bool.false_eq_true, if_false, Nat.reduceAdd, Nat.reduceSub, eq_self_iff_true, Nat.zero_add, szD]
    by_cases h1 : 2 ≤ i
    · simp only [h1, decide_true, ite_ap, mbind, mlift, mret, fVar, vVar, fC, fOp, fUn, fNil, fCons, fFn, fTst, tst, fAndT, fOrT, fNotT, fAnd, fOr, fIf, fChain, fCall, callM, fRE, fRV, fR0, lend, fCallO, callO, fCallQ, callQ, sNext, sBrk, sCnt, sSeq, sE, sSet, sOwn, sRet, sRetF, sRetO, sRetN, sDrop, sIf, sSetQ, sRetQ, sMatch, cNone, cAny, cSeq, put, putO, start0, R.lent, R.d, fIts, fFnI, fPair, fUnit, sFrz, fD0, fDisp, fPairs, fSl, fNo, fPart, intOf, fJoin, strOf, List.getElem?_cons_zero, List.getElem?_cons_succ, List.set_cons_zero, List.set_cons_succ, List.map_cons, List.map_nil, List.length_cons, List.length_nil, List.cons_append, List.nil_append, List.replicate, Option.map_some, Option.map_none, Option.bind_some, Option.bind_none, if_true, Bool.not_true, Bool.not_false, Bool.false_eq_true, if_false, Nat.reduceAdd, Nat.reduceSub, eq_self_iff_true, Nat.zero_add, ndec, Bool.true_and]
    · simp only [h1, decide_false, ite_ap, mbind, mlift, mret, fVar, vVar, fC, fOp, fUn, fNil, fCons, fFn, fTst, tst, fAndT, fOrT, fNotT, fAnd, fOr, fIf, fChain, fCall, callM, fRE, fRV, fR0, lend, fCallO, callO, fCallQ, callQ, sNext, sBrk, sCnt, sSeq, sE, sSet, sOwn, sRet, sRetF, sRetO, sRetN, sDrop, sIf, sSetQ, sRetQ, sMatch, cNone, cAny, cSeq, put, putO, start0, R.lent, R.d, fIts, fFnI, fPair, fUnit, sFrz, fD0, fDisp, fPairs, fSl, fNo, fPart, intOf, fJoin, strOf, List.getElem?_cons_zero, List.getElem?_cons_succ, List.set_cons_zero, List.set_cons_succ, List.map_cons, List.map_nil, List.length_cons, List.length_nil, List.cons_append, List.nil_append, List.replicate, Option.map_some, Option.map_none, Option.bind_some, Option.bind_none, if_true, Bool.not_true, Bool.not_false, Bool.false_eq_true, if_false, Nat.reduceAdd, Nat.reduceSub, eq_self_iff_true, Nat.zero_add, Bool.false_and]
  | _ => simp only [nrD, ite_ap, mbind, mlift, mret, fVar, vVar, fC, fOp, fUn, fNil, fCons, fFn, fTst, tst, fAndT, fOrT, fNotT, fAnd, fOr, fIf, fChain, fCall, callM, fRE, fRV, fR0, lend, fCallO, callO, fCallQ, callQ, sNext, sBrk, sCnt, sSeq, sE, sSet, sOwn, sRet, sRetF, sRetO, sRetN, sDrop, sIf, sSetQ, sRetQ, sMatch, cNone, cAny, cSeq, put, putO, start0, R.lent, R.d, fIts, fFnI, fPair, fUnit, sFrz, fD0, fDisp, fPairs, fSl, fNo, fPart, intOf, fJoin, strOf, List.getElem?_cons_zero, List.getElem?_cons_succ, List.set_cons_zero, List.set_cons_succ, List.map_cons, List.map_nil, List.length_cons, List.length_nil, List.cons_append, List.nil_append, List.replicate, Option.map_some, Option.map_none, Option.bind_some, Option.bind_none, if_true, Bool.not_true, Bool.not_false, Bool.false_eq_true, if_false, Nat.reduceAdd, Nat.reduceSub, eq_self_iff_true, Nat.zero_add, szD]
def neD : D → D → Bool
  | .str x, .str y => x != y
  | _, _ => false
def twoD (a b : D) : Bool := nmD a && (nmD b && neD a b)
theorem two_eq {a b : D} (B : Bk) (ha : partD a) (hb : partD b) : f_are_two_names [⟨.shr, a⟩, ⟨.shr, b⟩] B = some (.ok ⟨.shr, .bl (twoD a b)⟩, B) := by
  have k := nm_eq B ha
  have k2 := nm_eq B hb
  simp only [f_are_two_names, fnF, b_are_two_names, ite_ap, mbind, mlift, mret, fVar, vVar, fC, fOp, fUn, fNil, fCons, fFn, fTst, tst, fAndT, fOrT, fNotT, fAnd, fOr, fIf, fChain, fCall, callM, fRE, fRV, fR0, lend, fCallO, callO, fCallQ, callQ, sNext, sBrk, sCnt, sSeq, sE, sSet, sOwn, sRet, sRetF, sRetO, sRetN, sDrop, sIf, sSetQ, sRetQ, sMatch, cNone, cAny, cSeq, put, putO, start0, R.lent, R.d, fIts, fFnI, fPair, fUnit, sFrz, fD0, fDisp, fPairs, fSl, fNo, fPart, intOf, fJoin, strOf, List.getElem?_cons_zero, List.getElem?_cons_succ, List.set_cons_zero, List.set_cons_succ, List.map_cons, List.map_nil, List.length_cons, List.length_nil, List.cons_append, List.nil_append, List.replicate, Option.map_some, Option.map_none, Option.bind_some, Option.bind_none, if_true, Bool.not_true, Bool.not_false, Bool.false_eq_true, if_false, Nat.reduceAdd, Nat.reduceSub, eq_self_iff_true, Nat.zero_add, k, k2, twoD]
  cases h1 : nmD a with
  | false => simp only [ite_ap, mbind, mlift, mret, fVar, vVar, fC, fOp, fUn, fNil, fCons, fFn, fTst, tst, fAndT, fOrT, fNotT, fAnd, fOr, fIf, fChain, fCall, callM, fRE, fRV, fR0, lend, fCallO, callO, fCallQ, callQ, sNext, sBrk, sCnt, sSeq, sE, sSet, sOwn, sRet, sRetF, sRetO, sRetN, sDrop, sIf, sSetQ, sRetQ, sMatch, cNone, cAny, cSeq, put, putO, start0, R.lent, R.d, fIts, fFnI, fPair, fUnit, sFrz, fD0, fDisp, fPairs, fSl, fNo, fPart, intOf, fJoin, strOf, List.getElem?_cons_zero, List.getElem?_cons_succ, List.set_cons_zero, List.set_cons_succ, List.map_cons, List.map_nil, List.length_cons, List.length_nil, List.cons_append, List.nil_append, List.replicate, Option.map_some, Option.map_none, Option.bind_some, Option.bind_none, if_true, Bool.not_true, Bool.not_false, Bool.false_eq_true, if_false, Nat.reduceAdd, Nat.reduceSub, eq_self_iff_true, Nat.zero_add, Bool.false_and]
  | true =>
    cases h2 : nmD b with
    | false => simp only [ite_ap, mbind, mlift, mret, fVar, vVar, fC, fOp, fUn, fNil, fCons, fFn, fTst, tst, fAndT, fOrT, fNotT, fAnd, fOr, fIf, fChain, fCall, callM, fRE, fRV, fR0, lend, fCallO, callO, fCallQ, callQ, sNext, sBrk, sCnt, sSeq, sE, sSet, sOwn, sRet, sRetF, sRetO, sRetN, sDrop, sIf, sSetQ, sRetQ, sMatch, cNone, cAny, cSeq, put, putO, start0, R.lent, R.d, fIts, fFnI, fPair, fUnit, sFrz, fD0, fDisp, fPairs, fSl, fNo, fPart, intOf, fJoin, strOf, List.getElem?_cons_zero, List.getElem?_cons_succ, List.set_cons_zero, List.set_cons_succ, List.map_cons, List.map_nil, List.length_cons, List.length_nil, List.cons_append, List.nil_append, List.replicate, Option.map_some, Option.map_none, Option.bind_some, Option.bind_none, if_true, Bool.not_true, Bool.not_false, Bool.false_eq_true, if_false, Nat.reduceAdd, Nat.reduceSub, eq_self_iff_true, Nat.zero_add, k2, h2, Bool.false_and, Bool.and_false]
    | true =>
      obtain ⟨x, rfl⟩ : ∃ x, a = .str x := by cases a <;> first | exact ⟨_, rfl⟩ | cases h1
      obtain ⟨y, rfl⟩ : ∃ x, b = .str x := by cases b <;> first | exact ⟨_, rfl⟩ | cases h2
      simp only [ite_ap, mbind, mlift, mret, fVar, vVar, fC, fOp, fUn, fNil, fCons, fFn, fTst, tst, fAndT, fOrT, fNotT, fAnd, fOr, fIf, fChain, fCall, callM, fRE, fRV, fR0, lend, fCallO, callO, fCallQ, callQ, sNext, sBrk, sCnt, sSeq, sE, sSet, sOwn, sRet, sRetF, sRetO, sRetN, sDrop, sIf, sSetQ, sRetQ, sMatch, cNone, cAny, cSeq, put, putO, start0, R.lent, R.d, fIts, fFnI, fPair, fUnit, sFrz, fD0, fDisp, fPairs, fSl, fNo, fPart, intOf, fJoin, strOf, List.getElem?_cons_zero, List.getElem?_cons_succ, List.set_cons_zero, List.set_cons_succ, List.map_cons, List.map_nil, List.length_cons, List.length_nil, List.cons_append, List.nil_append, List.replicate, Option.map_some, Option.map_none, Option.bind_some, Option.bind_none, if_true, Bool.not_true, Bool.not_false, Bool.false_eq_true, if_false, Nat.reduceAdd, Nat.reduceSub, eq_self_iff_true, Nat.zero_add, k2, h2, gNe_str (ha.2 x rfl) (hb.2 y rfl), Bool.true_and, neD]
def stepD (w : Str) (ps : List D) : Bool := match ps with
  | [a] => if w == "drop" then nmD a else if w == "turn" then nmD a else false
  | [a, b] => if w == "add" then nmD a && nrD b else if w == "name" then nmD a && nmD b else if w == "shift" then nmD a && nrD b else false
  | [a, b, c, d] => if w == "part" then nmD a && (twoD b c && szD d) else if w == "join" then nmD c && (twoD a b && szD d) else false
  | _ => false
theorem GSl : ∀ x ∈ ([("add" : Str), "drop", "name", "shift", "turn", "part", "join", "n", "i", "s", "ni", "nn", "nnns", "Add", "", "a", "b", "ab", "abcdefgh"] : List Str), GS x := by
  have h : ∀ x ∈ ([("add" : Str), "drop", "name", "shift", "turn", "part", "join", "n", "i", "s", "ni", "nn", "nnns", "Add", "", "a", "b", "ab", "abcdefgh"] : List Str), x.length ≤ 1000000 ∧ ∀ c ∈ x.cps.toList, c < 1114112 := by decide +kernel
  exact h
theorem lit_eq {w : Str} (hw : GS w) (x : Str) (hx : GS x) : eqD (.str w) (.str x) = some (w == x) := eqD_str hw hx
theorem is_step_eq {w : Str} {ps : List D} (B : Bk) (hw : GS w) (hp : ∀ d ∈ ps, partD d) : f_is_step [⟨.shr, .tup (.str w :: ps)⟩] B = some (.ok ⟨.shr, .bl (stepD w ps)⟩, B) := by
  have e1 : isiD "tuple" (.tup (.str w :: ps)) = some (.bl true) := rfl
  have e2 : gLen [.tup (.str w :: ps)] = some (.int ((ps.length + 1 : Nat) : Int)) := rfl
  have e3 : gIx (.tup (.str w :: ps)) (.int 0) = some (.str w) := L2.atI_nat (j := 0) rfl
  have e4 : isiD "str" (.str w) = some (.bl true) := rfl
  have e5 : (((ps.length + 1 : Nat) : Int) == 0) = false := by simp; omega
  have L : ∀ x ∈ ([("add" : Str), "drop", "name", "shift", "turn", "part", "join"] : List Str), eqD (.str w) (.str x) = some (w == x) := fun x hx => eqD_str hw (GSl x (by revert x; decide +kernel))
  have l1 := L "add" (by simp)
  have l2 := L "drop" (by simp)
  have l3 := L "name" (by simp)
  have l4 := L "shift" (by simp)
  have l5 := L "turn" (by simp)
  have l6 := L "part" (by simp)
  have l7 := L "join" (by simp)
  match ps, hp with
  | [], _ =>
    simp [f_is_step, fnF, b_is_step, ite_ap, mbind, mlift, mret, fVar, vVar, fC, fOp, fUn, fNil, fCons, fFn, fTst, tst, fAndT, fOrT, fNotT, fAnd, fOr, fIf, fChain, fCall, callM, fRE, fRV, fR0, lend, fCallO, callO, fCallQ, callQ, sNext, sBrk, sCnt, sSeq, sE, sSet, sOwn, sRet, sRetF, sRetO, sRetN, sDrop, sIf, sSetQ, sRetQ, sMatch, cNone, cAny, cSeq, put, putO, start0, R.lent, R.d, fIts, fFnI, fPair, fUnit, sFrz, fD0, fDisp, fPairs, fSl, fNo, fPart, intOf, fJoin, strOf, List.getElem?_cons_zero, List.getElem?_cons_succ, List.set_cons_zero, List.set_cons_succ, List.map_cons, List.map_nil, List.length_cons, List.length_nil, List.cons_append, List.nil_append, List.replicate, Option.map_some, Option.map_none, Option.bind_some, Option.bind_none, if_true, Bool.not_true, Bool.not_false, Bool.false_eq_true, if_false, Nat.reduceAdd, Nat.reduceSub, eq_self_iff_true, Nat.zero_add, e1, e2, e3, e4, gEq_int, e5, mSeq, stepD]
  | [a], hp =>
    have ha := nm_eq B (hp a (by simp))
    cases k2 : (w == ("drop" : Str)) <;> cases k5 : (w == ("turn" : Str)) <;> simp [f_is_step, fnF, b_is_step, ite_ap, mbind, mlift, mret, fVar, vVar, fC, fOp, fUn, fNil, fCons, fFn, fTst, tst, fAndT, fOrT, fNotT, fAnd, fOr, fIf, fChain, fCall, callM, fRE, fRV, fR0, lend, fCallO, callO, fCallQ, callQ, sNext, sBrk, sCnt, sSeq, sE, sSet, sOwn, sRet, sRetF, sRetO, sRetN, sDrop, sIf, sSetQ, sRetQ, sMatch, cNone, cAny, cSeq, put, putO, start0, R.lent, R.d, fIts, fFnI, fPair, fUnit, sFrz, fD0, fDisp, fPairs, fSl, fNo, fPart, intOf, fJoin, strOf, List.getElem?_cons_zero, List.getElem?_cons_succ, List.set_cons_zero, List.set_cons_succ, List.map_cons, List.map_nil, List.length_cons, List.length_nil, List.cons_append, List.nil_append, List.replicate, Option.map_some, Option.map_none, Option.bind_some, Option.bind_none, if_true, Bool.not_true, Bool.not_false, Bool.false_eq_true, if_false, Nat.reduceAdd, Nat.reduceSub, eq_self_iff_true, Nat.zero_add, e1, e2, e3, e4, gEq_int, e5, mSeq, stepD, mMatch, puts, l2, l5, k2, k5, ha]
  | [a, b], hp =>
    have ha := nm_eq B (hp a (by simp))
    have hb := nm_eq B (hp b (by simp))
    have hb' := nr_eq B (hp b (by simp))
    cases k2 : (w == ("add" : Str)) <;> cases k5 : (w == ("name" : Str)) <;> cases k6 : (w == ("shift" : Str)) <;> cases h1 : nmD a <;> simp [f_is_step, fnF, b_is_step, ite_ap, mbind, mlift, mret, fVar, vVar, fC, fOp, fUn, fNil, fCons, fFn, fTst, tst, fAndT, fOrT, fNotT, fAnd, fOr, fIf, fChain, fCall, callM, fRE, fRV, fR0, lend, fCallO, callO, fCallQ, callQ, sNext, sBrk, sCnt, sSeq, sE, sSet, sOwn, sRet, sRetF, sRetO, sRetN, sDrop, sIf, sSetQ, sRetQ, sMatch, cNone, cAny, cSeq, put, putO, start0, R.lent, R.d, fIts, fFnI, fPair, fUnit, sFrz, fD0, fDisp, fPairs, fSl, fNo, fPart, intOf, fJoin, strOf, List.getElem?_cons_zero, List.getElem?_cons_succ, List.set_cons_zero, List.set_cons_succ, List.map_cons, List.map_nil, List.length_cons, List.length_nil, List.cons_append, List.nil_append, List.replicate, Option.map_some, Option.map_none, Option.bind_some, Option.bind_none, if_true, Bool.not_true, Bool.not_false, Bool.false_eq_true, if_false, Nat.reduceAdd, Nat.reduceSub, eq_self_iff_true, Nat.zero_add, e1, e2, e3, e4, gEq_int, e5, mSeq, stepD, mMatch, puts, l1, l3, l4, k2, k5, k6, ha, hb, hb', h1]
  | [a, b, c], hp => simp [f_is_step, fnF, b_is_step, ite_ap, mbind, mlift, mret, fVar, vVar, fC, fOp, fUn, fNil, fCons, fFn, fTst, tst, fAndT, fOrT, fNotT, fAnd, fOr, fIf, fChain, fCall, callM, fRE, fRV, fR0, lend, fCallO, callO, fCallQ, callQ, sNext, sBrk, sCnt, sSeq, sE, sSet, sOwn, sRet, sRetF, sRetO, sRetN, sDrop, sIf, sSetQ, sRetQ, sMatch, cNone, cAny, cSeq, put, putO, start0, R.lent, R.d, fIts, fFnI, fPair, fUnit, sFrz, fD0, fDisp, fPairs, fSl, fNo, fPart, intOf, fJoin, strOf, List.getElem?_cons_zero, List.getElem?_cons_succ, List.set_cons_zero, List.set_cons_succ, List.map_cons, List.map_nil, List.length_cons, List.length_nil, List.cons_append, List.nil_append, List.replicate, Option.map_some, Option.map_none, Option.bind_some, Option.bind_none, if_true, Bool.not_true, Bool.not_false, Bool.false_eq_true, if_false, Nat.reduceAdd, Nat.reduceSub, eq_self_iff_true, Nat.zero_add, e1, e2, e3, e4, gEq_int, e5, mSeq, stepD, mMatch, puts]
  | [a, b, c, d], hp =>
    have ha := nm_eq B (hp a (by simp))
    have hc := nm_eq B (hp c (by simp))
    have hab := two_eq B (hp a (by simp)) (hp b (by simp))
    have hbc := two_eq B (hp b (by simp)) (hp c (by simp))
    have hd := sz_eq B (hp d (by simp))
    cases k2 : (w == ("part" : Str)) <;> cases k5 : (w == ("join" : Str)) <;> cases h1 : nmD a <;> cases h2 : nmD c <;> cases h3 : twoD a b <;> cases h4 : twoD b c <;> simp [f_is_step, fnF, b_is_step, ite_ap, mbind, mlift, mret, fVar, vVar, fC, fOp, fUn, fNil, fCons, fFn, fTst, tst, fAndT, fOrT, fNotT, fAnd, fOr, fIf, fChain, fCall, callM, fRE, fRV, fR0, lend, fCallO, callO, fCallQ, callQ, sNext, sBrk, sCnt, sSeq, sE, sSet, sOwn, sRet, sRetF, sRetO, sRetN, sDrop, sIf, sSetQ, sRetQ, sMatch, cNone, cAny, cSeq, put, putO, start0, R.lent, R.d, fIts, fFnI, fPair, fUnit, sFrz, fD0, fDisp, fPairs, fSl, fNo, fPart, intOf, fJoin, strOf, List.getElem?_cons_zero, List.getElem?_cons_succ, List.set_cons_zero, List.set_cons_succ, List.map_cons, List.map_nil, List.length_cons, List.length_nil, List.cons_append, List.nil_append, List.replicate, Option.map_some, Option.map_none, Option.bind_some, Option.bind_none, if_true, Bool.not_true, Bool.not_false, Bool.false_eq_true, if_false, Nat.reduceAdd, Nat.reduceSub, eq_self_iff_true, Nat.zero_add, e1, e2, e3, e4, gEq_int, e5, mSeq, stepD, mMatch, puts, l6, l7, k2, k5, ha, hc, hab, hbc, hd, h1, h2, h3, h4]
  | a :: b :: c :: d :: e :: r, hp =>
    have z0 : ¬ ((r.length : Int) + 1 + 1 + 1 + 1 + 1 + 1 = 0) := by omega
    simp [f_is_step, fnF, b_is_step, ite_ap, mbind, mlift, mret, fVar, vVar, fC, fOp, fUn, fNil, fCons, fFn, fTst, tst, fAndT, fOrT, fNotT, fAnd, fOr, fIf, fChain, fCall, callM, fRE, fRV, fR0, lend, fCallO, callO, fCallQ, callQ, sNext, sBrk, sCnt, sSeq, sE, sSet, sOwn, sRet, sRetF, sRetO, sRetN, sDrop, sIf, sSetQ, sRetQ, sMatch, cNone, cAny, cSeq, put, putO, start0, R.lent, R.d, fIts, fFnI, fPair, fUnit, sFrz, fD0, fDisp, fPairs, fSl, fNo, fPart, intOf, fJoin, strOf, List.getElem?_cons_zero, List.getElem?_cons_succ, List.set_cons_zero, List.set_cons_succ, List.map_cons, List.map_nil, List.length_cons, List.length_nil, List.cons_append, List.nil_append, List.replicate, Option.map_some, Option.map_none, Option.bind_some, Option.bind_none, if_true, Bool.not_true, Bool.not_false, Bool.false_eq_true, if_false, Nat.reduceAdd, Nat.reduceSub, eq_self_iff_true, Nat.zero_add, e1, e2, e3, e4, gEq_int, e5, mSeq, stepD, mMatch, puts, z0]
/-- the law's own -/
theorem kinds_eq (w : Str) (B : Bk) (hw : GS w) : f__law_kinds [⟨.shr, .str w⟩] B = some (.ok ⟨.shr, .str (if w == "drop" || w == "turn" then "n" else if w == "add" || w == "shift" then "ni" else if w == "name" then "nn" else "nnns")⟩, B) := by
  have L : ∀ x ∈ ([("add" : Str), "drop", "name", "shift", "turn", "part", "join"] : List Str), gEq (.str w) (.str x) = some (.bl (w == x)) := fun x hx => gEq_str hw (GSl x (by revert x; decide +kernel))
  have l1 := L "add" (by simp)
  have l2 := L "drop" (by simp)
  have l3 := L "name" (by simp)
  have l4 := L "shift" (by simp)
  have l5 := L "turn" (by simp)
  cases k2 : (w == ("drop" : Str)) <;> cases k5 : (w == ("turn" : Str)) <;> cases k1 : (w == ("add" : Str)) <;> cases k4 : (w == ("shift" : Str)) <;> cases k3 : (w == ("name" : Str)) <;> simp [f__law_kinds, fnF, b__law_kinds, ite_ap, mbind, mlift, mret, fVar, vVar, fC, fOp, fUn, fNil, fCons, fFn, fTst, tst, fAndT, fOrT, fNotT, fAnd, fOr, fIf, fChain, fCall, callM, fRE, fRV, fR0, lend, fCallO, callO, fCallQ, callQ, sNext, sBrk, sCnt, sSeq, sE, sSet, sOwn, sRet, sRetF, sRetO, sRetN, sDrop, sIf, sSetQ, sRetQ, sMatch, cNone, cAny, cSeq, put, putO, start0, R.lent, R.d, fIts, fFnI, fPair, fUnit, sFrz, fD0, fDisp, fPairs, fSl, fNo, fPart, intOf, fJoin, strOf, List.getElem?_cons_zero, List.getElem?_cons_succ, List.set_cons_zero, List.set_cons_succ, List.map_cons, List.map_nil, List.length_cons, List.length_nil, List.cons_append, List.nil_append, List.replicate, Option.map_some, Option.map_none, Option.bind_some, Option.bind_none, if_true, Bool.not_true, Bool.not_false, Bool.false_eq_true, if_false, Nat.reduceAdd, Nat.reduceSub, eq_self_iff_true, Nat.zero_add, l1, l2, l3, l4, l5, k1, k2, k3, k4, k5]
theorem q_add_drop : (("add" : Str) == "drop") = false := by decide +kernel
theorem q_add_name : (("add" : Str) == "name") = false := by decide +kernel
theorem q_add_shift : (("add" : Str) == "shift") = false := by decide +kernel
theorem q_add_turn : (("add" : Str) == "turn") = false := by decide +kernel
theorem q_add_part : (("add" : Str) == "part") = false := by decide +kernel
theorem q_add_join : (("add" : Str) == "join") = false := by decide +kernel
theorem q_drop_add : (("drop" : Str) == "add") = false := by decide +kernel
theorem q_drop_name : (("drop" : Str) == "name") = false := by decide +kernel
theorem q_drop_shift : (("drop" : Str) == "shift") = false := by decide +kernel
theorem q_drop_turn : (("drop" : Str) == "turn") = false := by decide +kernel
theorem q_drop_part : (("drop" : Str) == "part") = false := by decide +kernel
theorem q_drop_join : (("drop" : Str) == "join") = false := by decide +kernel
theorem q_name_add : (("name" : Str) == "add") = false := by decide +kernel
theorem q_name_drop : (("name" : Str) == "drop") = false := by decide +kernel
theorem q_name_shift : (("name" : Str) == "shift") = false := by decide +kernel
theorem q_name_turn : (("name" : Str) == "turn") = false := by decide +kernel
theorem q_name_part : (("name" : Str) == "part") = false := by decide +kernel
theorem q_name_join : (("name" : Str) == "join") = false := by decide +kernel
theorem q_shift_add : (("shift" : Str) == "add") = false := by decide +kernel
theorem q_shift_drop : (("shift" : Str) == "drop") = false := by decide +kernel
theorem q_shift_name : (("shift" : Str) == "name") = false := by decide +kernel
theorem q_shift_turn : (("shift" : Str) == "turn") = false := by decide +kernel
theorem q_shift_part : (("shift" : Str) == "part") = false := by decide +kernel
theorem q_shift_join : (("shift" : Str) == "join") = false := by decide +kernel
theorem q_turn_add : (("turn" : Str) == "add") = false := by decide +kernel
theorem q_turn_drop : (("turn" : Str) == "drop") = false := by decide +kernel
theorem q_turn_name : (("turn" : Str) == "name") = false := by decide +kernel
theorem q_turn_shift : (("turn" : Str) == "shift") = false := by decide +kernel
theorem q_turn_part : (("turn" : Str) == "part") = false := by decide +kernel
theorem q_turn_join : (("turn" : Str) == "join") = false := by decide +kernel
theorem q_part_add : (("part" : Str) == "add") = false := by decide +kernel
theorem q_part_drop : (("part" : Str) == "drop") = false := by decide +kernel
theorem q_part_name : (("part" : Str) == "name") = false := by decide +kernel
theorem q_part_shift : (("part" : Str) == "shift") = false := by decide +kernel
theorem q_part_turn : (("part" : Str) == "turn") = false := by decide +kernel
theorem q_part_join : (("part" : Str) == "join") = false := by decide +kernel
theorem q_join_add : (("join" : Str) == "add") = false := by decide +kernel
theorem q_join_drop : (("join" : Str) == "drop") = false := by decide +kernel
theorem q_join_name : (("join" : Str) == "name") = false := by decide +kernel
theorem q_join_shift : (("join" : Str) == "shift") = false := by decide +kernel
theorem q_join_turn : (("join" : Str) == "turn") = false := by decide +kernel
theorem q_join_part : (("join" : Str) == "part") = false := by decide +kernel
theorem q_n_i : (("n" : Str) == "i") = false := by decide +kernel
theorem q_n_s : (("n" : Str) == "s") = false := by decide +kernel
theorem q_i_n : (("i" : Str) == "n") = false := by decide +kernel
theorem q_i_s : (("i" : Str) == "s") = false := by decide +kernel
theorem q_s_n : (("s" : Str) == "n") = false := by decide +kernel
theorem q_s_i : (("s" : Str) == "i") = false := by decide +kernel
theorem ixS {x y : Str} {i : Int} (h : (decide (x.length ≤ 100) && (match L2.atI x.cps.toList i with | some c => decide ((⟨#[c]⟩ : Str) = y) | none => false)) = true) : gIx (.str x) (.int i) = some (.str y) := by
  rw [Bool.and_eq_true] at h
  have h1 : x.length ≤ 100 := of_decide_eq_true h.1
  have h2 : x.length ≤ sizeLine := by rw [sizeLine_eq]; omega
  show (if x.length ≤ sizeLine then (L2.atI x.cps.toList i).map fun c => D.str ⟨#[c]⟩ else none) = _
  rw [if_pos h2]
  have h3 := h.2
  split at h3
  · rename_i c hc
    rw [hc]
    have : (⟨#[c]⟩ : Str) = y := of_decide_eq_true h3
    rw [← this]; rfl
  · cases h3
theorem gsl (x : Str) (h : ([("add" : Str), "drop", "name", "shift", "turn", "part", "join", "n", "i", "s", "ni", "nn", "nnns", "Add", "", "a", "b", "ab", "abcdefgh"] : List Str).contains x = true) : GS x := GSl x (List.contains_iff_mem.mp h)
theorem kd (w k : Str) (B : Bk) (hw : GS w) (h : (if w == "drop" || w == "turn" then ("n" : Str) else if w == "add" || w == "shift" then "ni" else if w == "name" then "nn" else "nnns") = k) : f__law_kinds [⟨.shr, .str w⟩] B = some (.ok ⟨.shr, .str k⟩, B) := by
  rw [kinds_eq w B hw, h]
/-- a loop's round -/
def kindOk (k : Str) (d : D) : Bool := if k == "n" then nmD d else if k == "s" then szD d else nrD d
theorem inW (w : Str) : gIn true (.str w) (.lst [.str "add", .str "drop", .str "name", .str "shift", .str "turn", .str "part", .str "join"]) = some (.bl (!("add" == w || ("drop" == w || ("name" == w || ("shift" == w || ("turn" == w || ("part" == w || "join" == w)))))))) := by
  have : gIn true (.str w) (.lst [.str "add", .str "drop", .str "name", .str "shift", .str "turn", .str "part", .str "join"]) = some (.bl (inF (.str w) [.str "add", .str "drop", .str "name", .str "shift", .str "turn", .str "part", .str "join"] != true)) := rfl
  rw [this]
  simp [inF, eqF, vOf, L2.eqV]
theorem lst7 : Fmx.gLst [.str "add", .str "drop", .str "name", .str "shift", .str "turn", .str "part", .str "join"] = some (.lst [.str "add", .str "drop", .str "name", .str "shift", .str "turn", .str "part", .str "join"]) := rfl
theorem lenL (ps : List D) : gLen [.lst ps] = some (.int ps.length) := rfl
theorem lenStr {x : Str} {n : Nat} (h : decide (x.length = n ∧ n ≤ 100) = true) : gLen [.str x] = some (.int n) := by
  obtain ⟨h, hn⟩ := of_decide_eq_true h
  have h2 : x.length ≤ sizeLine := by rw [h, sizeLine_eq]; omega
  have h3 : n ≤ sizeLine := by rw [← h]; exact h2
  simp [gLen, lenD, h3, h]
theorem r1 : rngD 0 1 = [.int 0] := rfl
theorem r2 : rngD 0 2 = [.int 0, .int 1] := rfl
theorem r4 : rngD 0 4 = [.int 0, .int 1, .int 2, .int 3] := rfl
theorem rg (n : Nat) (h : n ≤ 100) : gRng1 [.int n] = some (rngD 0 n) := by
  have : inR (n : Int) = true := cd_t (by omega)
  simp [gRng1, this]
theorem ixL {ps : List D} {j : Nat} {d : D} (h : ps[j]? = some d) : gIx (.lst ps) (.int (j : Int)) = some d := L2.atI_nat h
theorem szLe {d : D} (h : nrD d = true) : ∃ i, d = .int i := by cases d <;> first | exact ⟨_, rfl⟩ | cases h
theorem nmSt {d : D} (h : nmD d = true) : ∃ i, d = .str i := by cases d <;> first | exact ⟨_, rfl⟩ | cases h
theorem szF {d : D} (h : nrD d = false) : szD d = false := by cases d <;> first | rfl | cases h
theorem ls_add {ps : List D} (B : Bk) (hp : ∀ d ∈ ps, partD d) : f__law_is_step [⟨.shr, .str "add"⟩, ⟨.shr, .lst ps⟩] B = some (.ok ⟨.shr, .bl (stepD "add" ps)⟩, B) := by
  have hk := kd "add" "ni" B (gsl _ (by decide +kernel)) (by decide +kernel)
  have hin := inW "add"
  have hlk : gLen [.str "ni"] = some (.int 2) := lenStr (n := 2) (by decide +kernel)
  have en_i : ∀ y : Str, GS y → gEq (.str "i") (.str y) = some (.bl ("i" == y)) := fun y hy => gEq_str (gsl _ (by decide +kernel)) hy
  have nn_i : ∀ y : Str, GS y → gNe (.str "i") (.str y) = some (.bl ("i" != y)) := fun y hy => gNe_str (gsl _ (by decide +kernel)) hy
  have en_n : ∀ y : Str, GS y → gEq (.str "n") (.str y) = some (.bl ("n" == y)) := fun y hy => gEq_str (gsl _ (by decide +kernel)) hy
  have nn_n : ∀ y : Str, GS y → gNe (.str "n") (.str y) = some (.bl ("n" != y)) := fun y hy => gNe_str (gsl _ (by decide +kernel)) hy
  have gn : GS "n" := gsl _ (by decide +kernel)
  have gs : GS "s" := gsl _ (by decide +kernel)
  have x0 : gIx (.str "ni") (.int 0) = some (.str "n") := ixS (by decide +kernel)
  have x1 : gIx (.str "ni") (.int 1) = some (.str "i") := ixS (by decide +kernel)
  have ew : ∀ y : Str, GS y → gEq (.str "add") (.str y) = some (.bl ("add" == y)) := fun y hy => gEq_str (gsl _ (by decide +kernel)) hy
  have nw : ∀ y : Str, GS y → gNe (.str "add") (.str y) = some (.bl ("add" != y)) := fun y hy => gNe_str (gsl _ (by decide +kernel)) hy
  have gp : GS "part" := gsl _ (by decide +kernel)
  have gj : GS "join" := gsl _ (by decide +kernel)
  by_cases hn : ps.length = 2
  · obtain ⟨a, b, rfl⟩ : ∃ a b, ps = [a, b] := by
      match ps, hn with
      | [a, b], _ => exact ⟨_, _, rfl⟩
    have pa := hp a (by simp)
    have na := lnm_eq B pa
    have ia := lnr_eq B pa
    have ga : gIx (.lst [a, b]) (.int 0) = some a := ixL (j := 0) rfl
    have pb := hp b (by simp)
    have nb := lnm_eq B pb
    have ib := lnr_eq B pb
    have gb : gIx (.lst [a, b]) (.int 1) = some b := ixL (j := 1) rfl
    have rr : gRng1 [.int 2] = some (rngD 0 2) := rg 2 (by omega)
    cases ha : nmD a <;> cases hb : nrD b <;> simp [f__law_is_step, fnF, b__law_is_step, ite_ap, mbind, mlift, mret, fVar, vVar, fC, fOp, fUn, fNil, fCons, fFn, fTst, tst, fAndT, fOrT, fNotT, fAnd, fOr, fIf, fChain, fCall, callM, fRE, fRV, fR0, lend, fCallO, callO, fCallQ, callQ, sNext, sBrk, sCnt, sSeq, sE, sSet, sOwn, sRet, sRetF, sRetO, sRetN, sDrop, sIf, sSetQ, sRetQ, sMatch, cNone, cAny, cSeq, put, putO, start0, R.lent, R.d, fIts, fFnI, fPair, fUnit, sFrz, fD0, fDisp, fPairs, fSl, fNo, fPart, intOf, fJoin, strOf, List.getElem?_cons_zero, List.getElem?_cons_succ, List.set_cons_zero, List.set_cons_succ, List.map_cons, List.map_nil, List.length_cons, List.length_nil, List.cons_append, List.nil_append, List.replicate, Option.map_some, Option.map_none, Option.bind_some, Option.bind_none, if_true, Bool.not_true, Bool.not_false, Bool.false_eq_true, if_false, Nat.reduceAdd, Nat.reduceSub, eq_self_iff_true, Nat.zero_add, lst7, hin, hk, hlk, lenL, gNe_int, q_add_drop, q_add_name, q_add_shift, q_add_turn, q_add_part, q_add_join, q_drop_add, q_drop_name, q_drop_shift, q_drop_turn, q_drop_part, q_drop_join, q_name_add, q_name_drop, q_name_shift, q_name_turn, q_name_part, q_name_join, q_shift_add, q_shift_drop, q_shift_name, q_shift_turn, q_shift_part, q_shift_join, q_turn_add, q_turn_drop, q_turn_name, q_turn_shift, q_turn_part, q_turn_join, q_part_add, q_part_drop, q_part_name, q_part_shift, q_part_turn, q_part_join, q_join_add, q_join_drop, q_join_name, q_join_shift, q_join_turn, q_join_part, q_n_i, q_n_s, q_i_n, q_i_s, q_s_n, q_s_i, stepD, ew _ gp, nw _ gj, bne, rg, r2, sFor, forGo, x0, x1, en_i _ gn, nn_i _ gn, en_i _ gs, en_n _ gn, nn_n _ gn, en_n _ gs, ga, na, ia, gb, nb, ib, rr, ha, hb]
  · have hn2 : ((ps.length : Int) == 2) = false := by simp; omega
    have hs : stepD "add" ps = false := by
      match ps, hn with
      | [], _ => rfl
      | [a], hn => simp [stepD, q_add_drop, q_add_name, q_add_shift, q_add_turn, q_add_part, q_add_join, q_drop_add, q_drop_name, q_drop_shift, q_drop_turn, q_drop_part, q_drop_join, q_name_add, q_name_drop, q_name_shift, q_name_turn, q_name_part, q_name_join, q_shift_add, q_shift_drop, q_shift_name, q_shift_turn, q_shift_part, q_shift_join, q_turn_add, q_turn_drop, q_turn_name, q_turn_shift, q_turn_part, q_turn_join, q_part_add, q_part_drop, q_part_name, q_part_shift, q_part_turn, q_part_join, q_join_add, q_join_drop, q_join_name, q_join_shift, q_join_turn, q_join_part, q_n_i, q_n_s, q_i_n, q_i_s, q_s_n, q_s_i] at hn ⊢
      | [a, b], hn => simp [stepD, q_add_drop, q_add_name, q_add_shift, q_add_turn, q_add_part, q_add_join, q_drop_add, q_drop_name, q_drop_shift, q_drop_turn, q_drop_part, q_drop_join, q_name_add, q_name_drop, q_name_shift, q_name_turn, q_name_part, q_name_join, q_shift_add, q_shift_drop, q_shift_name, q_shift_turn, q_shift_part, q_shift_join, q_turn_add, q_turn_drop, q_turn_name, q_turn_shift, q_turn_part, q_turn_join, q_part_add, q_part_drop, q_part_name, q_part_shift, q_part_turn, q_part_join, q_join_add, q_join_drop, q_join_name, q_join_shift, q_join_turn, q_join_part, q_n_i, q_n_s, q_i_n, q_i_s, q_s_n, q_s_i] at hn ⊢
      | [a, b, c], hn => rfl
      | [a, b, c, d], hn => simp [stepD, q_add_drop, q_add_name, q_add_shift, q_add_turn, q_add_part, q_add_join, q_drop_add, q_drop_name, q_drop_shift, q_drop_turn, q_drop_part, q_drop_join, q_name_add, q_name_drop, q_name_shift, q_name_turn, q_name_part, q_name_join, q_shift_add, q_shift_drop, q_shift_name, q_shift_turn, q_shift_part, q_shift_join, q_turn_add, q_turn_drop, q_turn_name, q_turn_shift, q_turn_part, q_turn_join, q_part_add, q_part_drop, q_part_name, q_part_shift, q_part_turn, q_part_join, q_join_add, q_join_drop, q_join_name, q_join_shift, q_join_turn, q_join_part, q_n_i, q_n_s, q_i_n, q_i_s, q_s_n, q_s_i] at hn ⊢
      | a :: b :: c :: d :: e :: r, hn => rfl
    rw [hs]
    simp [f__law_is_step, fnF, b__law_is_step, ite_ap, mbind, mlift, mret, fVar, vVar, fC, fOp, fUn, fNil, fCons, fFn, fTst, tst, fAndT, fOrT, fNotT, fAnd, fOr, fIf, fChain, fCall, callM, fRE, fRV, fR0, lend, fCallO, callO, fCallQ, callQ, sNext, sBrk, sCnt, sSeq, sE, sSet, sOwn, sRet, sRetF, sRetO, sRetN, sDrop, sIf, sSetQ, sRetQ, sMatch, cNone, cAny, cSeq, put, putO, start0, R.lent, R.d, fIts, fFnI, fPair, fUnit, sFrz, fD0, fDisp, fPairs, fSl, fNo, fPart, intOf, fJoin, strOf, List.getElem?_cons_zero, List.getElem?_cons_succ, List.set_cons_zero, List.set_cons_succ, List.map_cons, List.map_nil, List.length_cons, List.length_nil, List.cons_append, List.nil_append, List.replicate, Option.map_some, Option.map_none, Option.bind_some, Option.bind_none, if_true, Bool.not_true, Bool.not_false, Bool.false_eq_true, if_false, Nat.reduceAdd, Nat.reduceSub, eq_self_iff_true, Nat.zero_add, lst7, hin, hk, hlk, lenL, gNe_int, bne, hn2]
theorem ls_drop {ps : List D} (B : Bk) (hp : ∀ d ∈ ps, partD d) : f__law_is_step [⟨.shr, .str "drop"⟩, ⟨.shr, .lst ps⟩] B = some (.ok ⟨.shr, .bl (stepD "drop" ps)⟩, B) := by
  have hk := kd "drop" "n" B (gsl _ (by decide +kernel)) (by decide +kernel)
  have hin := inW "drop"
  have hlk : gLen [.str "n"] = some (.int 1) := lenStr (n := 1) (by decide +kernel)
  have en_n : ∀ y : Str, GS y → gEq (.str "n") (.str y) = some (.bl ("n" == y)) := fun y hy => gEq_str (gsl _ (by decide +kernel)) hy
  have nn_n : ∀ y : Str, GS y → gNe (.str "n") (.str y) = some (.bl ("n" != y)) := fun y hy => gNe_str (gsl _ (by decide +kernel)) hy
  have gn : GS "n" := gsl _ (by decide +kernel)
  have gs : GS "s" := gsl _ (by decide +kernel)
  have x0 : gIx (.str "n") (.int 0) = some (.str "n") := ixS (by decide +kernel)
  have ew : ∀ y : Str, GS y → gEq (.str "drop") (.str y) = some (.bl ("drop" == y)) := fun y hy => gEq_str (gsl _ (by decide +kernel)) hy
  have nw : ∀ y : Str, GS y → gNe (.str "drop") (.str y) = some (.bl ("drop" != y)) := fun y hy => gNe_str (gsl _ (by decide +kernel)) hy
  have gp : GS "part" := gsl _ (by decide +kernel)
  have gj : GS "join" := gsl _ (by decide +kernel)
  by_cases hn : ps.length = 1
  · obtain ⟨a, rfl⟩ : ∃ a, ps = [a] := by
      match ps, hn with
      | [a], _ => exact ⟨_, rfl⟩
    have pa := hp a (by simp)
    have na := lnm_eq B pa
    have ia := lnr_eq B pa
    have ga : gIx (.lst [a]) (.int 0) = some a := ixL (j := 0) rfl
    have rr : gRng1 [.int 1] = some (rngD 0 1) := rg 1 (by omega)
    cases ha : nmD a <;> simp [f__law_is_step, fnF, b__law_is_step, ite_ap, mbind, mlift, mret, fVar, vVar, fC, fOp, fUn, fNil, fCons, fFn, fTst, tst, fAndT, fOrT, fNotT, fAnd, fOr, fIf, fChain, fCall, callM, fRE, fRV, fR0, lend, fCallO, callO, fCallQ, callQ, sNext, sBrk, sCnt, sSeq, sE, sSet, sOwn, sRet, sRetF, sRetO, sRetN, sDrop, sIf, sSetQ, sRetQ, sMatch, cNone, cAny, cSeq, put, putO, start0, R.lent, R.d, fIts, fFnI, fPair, fUnit, sFrz, fD0, fDisp, fPairs, fSl, fNo, fPart, intOf, fJoin, strOf, List.getElem?_cons_zero, List.getElem?_cons_succ, List.set_cons_zero, List.set_cons_succ, List.map_cons, List.map_nil, List.length_cons, List.length_nil, List.cons_append, List.nil_append, List.replicate, Option.map_some, Option.map_none, Option.bind_some, Option.bind_none, if_true, Bool.not_true, Bool.not_false, Bool.false_eq_true, if_false, Nat.reduceAdd, Nat.reduceSub, eq_self_iff_true, Nat.zero_add, lst7, hin, hk, hlk, lenL, gNe_int, q_add_drop, q_add_name, q_add_shift, q_add_turn, q_add_part, q_add_join, q_drop_add, q_drop_name, q_drop_shift, q_drop_turn, q_drop_part, q_drop_join, q_name_add, q_name_drop, q_name_shift, q_name_turn, q_name_part, q_name_join, q_shift_add, q_shift_drop, q_shift_name, q_shift_turn, q_shift_part, q_shift_join, q_turn_add, q_turn_drop, q_turn_name, q_turn_shift, q_turn_part, q_turn_join, q_part_add, q_part_drop, q_part_name, q_part_shift, q_part_turn, q_part_join, q_join_add, q_join_drop, q_join_name, q_join_shift, q_join_turn, q_join_part, q_n_i, q_n_s, q_i_n, q_i_s, q_s_n, q_s_i, stepD, ew _ gp, nw _ gj, bne, rg, r1, sFor, forGo, x0, en_n _ gn, nn_n _ gn, en_n _ gs, ga, na, ia, rr, ha]
  · have hn2 : ((ps.length : Int) == 1) = false := by simp; omega
    have hs : stepD "drop" ps = false := by
      match ps, hn with
      | [], _ => rfl
      | [a], hn => simp [stepD, q_add_drop, q_add_name, q_add_shift, q_add_turn, q_add_part, q_add_join, q_drop_add, q_drop_name, q_drop_shift, q_drop_turn, q_drop_part, q_drop_join, q_name_add, q_name_drop, q_name_shift, q_name_turn, q_name_part, q_name_join, q_shift_add, q_shift_drop, q_shift_name, q_shift_turn, q_shift_part, q_shift_join, q_turn_add, q_turn_drop, q_turn_name, q_turn_shift, q_turn_part, q_turn_join, q_part_add, q_part_drop, q_part_name, q_part_shift, q_part_turn, q_part_join, q_join_add, q_join_drop, q_join_name, q_join_shift, q_join_turn, q_join_part, q_n_i, q_n_s, q_i_n, q_i_s, q_s_n, q_s_i] at hn ⊢
      | [a, b], hn => simp [stepD, q_add_drop, q_add_name, q_add_shift, q_add_turn, q_add_part, q_add_join, q_drop_add, q_drop_name, q_drop_shift, q_drop_turn, q_drop_part, q_drop_join, q_name_add, q_name_drop, q_name_shift, q_name_turn, q_name_part, q_name_join, q_shift_add, q_shift_drop, q_shift_name, q_shift_turn, q_shift_part, q_shift_join, q_turn_add, q_turn_drop, q_turn_name, q_turn_shift, q_turn_part, q_turn_join, q_part_add, q_part_drop, q_part_name, q_part_shift, q_part_turn, q_part_join, q_join_add, q_join_drop, q_join_name, q_join_shift, q_join_turn, q_join_part, q_n_i, q_n_s, q_i_n, q_i_s, q_s_n, q_s_i] at hn ⊢
      | [a, b, c], hn => rfl
      | [a, b, c, d], hn => simp [stepD, q_add_drop, q_add_name, q_add_shift, q_add_turn, q_add_part, q_add_join, q_drop_add, q_drop_name, q_drop_shift, q_drop_turn, q_drop_part, q_drop_join, q_name_add, q_name_drop, q_name_shift, q_name_turn, q_name_part, q_name_join, q_shift_add, q_shift_drop, q_shift_name, q_shift_turn, q_shift_part, q_shift_join, q_turn_add, q_turn_drop, q_turn_name, q_turn_shift, q_turn_part, q_turn_join, q_part_add, q_part_drop, q_part_name, q_part_shift, q_part_turn, q_part_join, q_join_add, q_join_drop, q_join_name, q_join_shift, q_join_turn, q_join_part, q_n_i, q_n_s, q_i_n, q_i_s, q_s_n, q_s_i] at hn ⊢
      | a :: b :: c :: d :: e :: r, hn => rfl
    rw [hs]
    simp [f__law_is_step, fnF, b__law_is_step, ite_ap, mbind, mlift, mret, fVar, vVar, fC, fOp, fUn, fNil, fCons, fFn, fTst, tst, fAndT, fOrT, fNotT, fAnd, fOr, fIf, fChain, fCall, callM, fRE, fRV, fR0, lend, fCallO, callO, fCallQ, callQ, sNext, sBrk, sCnt, sSeq, sE, sSet, sOwn, sRet, sRetF, sRetO, sRetN, sDrop, sIf, sSetQ, sRetQ, sMatch, cNone, cAny, cSeq, put, putO, start0, R.lent, R.d, fIts, fFnI, fPair, fUnit, sFrz, fD0, fDisp, fPairs, fSl, fNo, fPart, intOf, fJoin, strOf, List.getElem?_cons_zero, List.getElem?_cons_succ, List.set_cons_zero, List.set_cons_succ, List.map_cons, List.map_nil, List.length_cons, List.length_nil, List.cons_append, List.nil_append, List.replicate, Option.map_some, Option.map_none, Option.bind_some, Option.bind_none, if_true, Bool.not_true, Bool.not_false, Bool.false_eq_true, if_false, Nat.reduceAdd, Nat.reduceSub, eq_self_iff_true, Nat.zero_add, lst7, hin, hk, hlk, lenL, gNe_int, bne, hn2]
theorem ls_name {ps : List D} (B : Bk) (hp : ∀ d ∈ ps, partD d) : f__law_is_step [⟨.shr, .str "name"⟩, ⟨.shr, .lst ps⟩] B = some (.ok ⟨.shr, .bl (stepD "name" ps)⟩, B) := by
  have hk := kd "name" "nn" B (gsl _ (by decide +kernel)) (by decide +kernel)
  have hin := inW "name"
  have hlk : gLen [.str "nn"] = some (.int 2) := lenStr (n := 2) (by decide +kernel)
  have en_n : ∀ y : Str, GS y → gEq (.str "n") (.str y) = some (.bl ("n" == y)) := fun y hy => gEq_str (gsl _ (by decide +kernel)) hy
  have nn_n : ∀ y : Str, GS y → gNe (.str "n") (.str y) = some (.bl ("n" != y)) := fun y hy => gNe_str (gsl _ (by decide +kernel)) hy
  have gn : GS "n" := gsl _ (by decide +kernel)
  have gs : GS "s" := gsl _ (by decide +kernel)
  have x0 : gIx (.str "nn") (.int 0) = some (.str "n") := ixS (by decide +kernel)
  have x1 : gIx (.str "nn") (.int 1) = some (.str "n") := ixS (by decide +kernel)
  have ew : ∀ y : Str, GS y → gEq (.str "name") (.str y) = some (.bl ("name" == y)) := fun y hy => gEq_str (gsl _ (by decide +kernel)) hy
  have nw : ∀ y : Str, GS y → gNe (.str "name") (.str y) = some (.bl ("name" != y)) := fun y hy => gNe_str (gsl _ (by decide +kernel)) hy
  have gp : GS "part" := gsl _ (by decide +kernel)
  have gj : GS "join" := gsl _ (by decide +kernel)
  by_cases hn : ps.length = 2
  · obtain ⟨a, b, rfl⟩ : ∃ a b, ps = [a, b] := by
      match ps, hn with
      | [a, b], _ => exact ⟨_, _, rfl⟩
    have pa := hp a (by simp)
    have na := lnm_eq B pa
    have ia := lnr_eq B pa
    have ga : gIx (.lst [a, b]) (.int 0) = some a := ixL (j := 0) rfl
    have pb := hp b (by simp)
    have nb := lnm_eq B pb
    have ib := lnr_eq B pb
    have gb : gIx (.lst [a, b]) (.int 1) = some b := ixL (j := 1) rfl
    have rr : gRng1 [.int 2] = some (rngD 0 2) := rg 2 (by omega)
    cases ha : nmD a <;> cases hb : nmD b <;> simp [f__law_is_step, fnF, b__law_is_step, ite_ap, mbind, mlift, mret, fVar, vVar, fC, fOp, fUn, fNil, fCons, fFn, fTst, tst, fAndT, fOrT, fNotT, fAnd, fOr, fIf, fChain, fCall, callM, fRE, fRV, fR0, lend, fCallO, callO, fCallQ, callQ, sNext, sBrk, sCnt, sSeq, sE, sSet, sOwn, sRet, sRetF, sRetO, sRetN, sDrop, sIf, sSetQ, sRetQ, sMatch, cNone, cAny, cSeq, put, putO, start0, R.lent, R.d, fIts, fFnI, fPair, fUnit, sFrz, fD0, fDisp, fPairs, fSl, fNo, fPart, intOf, fJoin, strOf, List.getElem?_cons_zero, List.getElem?_cons_succ, List.set_cons_zero, List.set_cons_succ, List.map_cons, List.map_nil, List.length_cons, List.length_nil, List.cons_append, List.nil_append, List.replicate, Option.map_some, Option.map_none, Option.bind_some, Option.bind_none, if_true, Bool.not_true, Bool.not_false, Bool.false_eq_true, if_false, Nat.reduceAdd, Nat.reduceSub, eq_self_iff_true, Nat.zero_add, lst7, hin, hk, hlk, lenL, gNe_int, q_add_drop, q_add_name, q_add_shift, q_add_turn, q_add_part, q_add_join, q_drop_add, q_drop_name, q_drop_shift, q_drop_turn, q_drop_part, q_drop_join, q_name_add, q_name_drop, q_name_shift, q_name_turn, q_name_part, q_name_join, q_shift_add, q_shift_drop, q_shift_name, q_shift_turn, q_shift_part, q_shift_join, q_turn_add, q_turn_drop, q_turn_name, q_turn_shift, q_turn_part, q_turn_join, q_part_add, q_part_drop, q_part_name, q_part_shift, q_part_turn, q_part_join, q_join_add, q_join_drop, q_join_name, q_join_shift, q_join_turn, q_join_part, q_n_i, q_n_s, q_i_n, q_i_s, q_s_n, q_s_i, stepD, ew _ gp, nw _ gj, bne, rg, r2, sFor, forGo, x0, x1, en_n _ gn, nn_n _ gn, en_n _ gs, ga, na, ia, gb, nb, ib, rr, ha, hb]
  · have hn2 : ((ps.length : Int) == 2) = false := by simp; omega
    have hs : stepD "name" ps = false := by
      match ps, hn with
      | [], _ => rfl
      | [a], hn => simp [stepD, q_add_drop, q_add_name, q_add_shift, q_add_turn, q_add_part, q_add_join, q_drop_add, q_drop_name, q_drop_shift, q_drop_turn, q_drop_part, q_drop_join, q_name_add, q_name_drop, q_name_shift, q_name_turn, q_name_part, q_name_join, q_shift_add, q_shift_drop, q_shift_name, q_shift_turn, q_shift_part, q_shift_join, q_turn_add, q_turn_drop, q_turn_name, q_turn_shift, q_turn_part, q_turn_join, q_part_add, q_part_drop, q_part_name, q_part_shift, q_part_turn, q_part_join, q_join_add, q_join_drop, q_join_name, q_join_shift, q_join_turn, q_join_part, q_n_i, q_n_s, q_i_n, q_i_s, q_s_n, q_s_i] at hn ⊢
      | [a, b], hn => simp [stepD, q_add_drop, q_add_name, q_add_shift, q_add_turn, q_add_part, q_add_join, q_drop_add, q_drop_name, q_drop_shift, q_drop_turn, q_drop_part, q_drop_join, q_name_add, q_name_drop, q_name_shift, q_name_turn, q_name_part, q_name_join, q_shift_add, q_shift_drop, q_shift_name, q_shift_turn, q_shift_part, q_shift_join, q_turn_add, q_turn_drop, q_turn_name, q_turn_shift, q_turn_part, q_turn_join, q_part_add, q_part_drop, q_part_name, q_part_shift, q_part_turn, q_part_join, q_join_add, q_join_drop, q_join_name, q_join_shift, q_join_turn, q_join_part, q_n_i, q_n_s, q_i_n, q_i_s, q_s_n, q_s_i] at hn ⊢
      | [a, b, c], hn => rfl
      | [a, b, c, d], hn => simp [stepD, q_add_drop, q_add_name, q_add_shift, q_add_turn, q_add_part, q_add_join, q_drop_add, q_drop_name, q_drop_shift, q_drop_turn, q_drop_part, q_drop_join, q_name_add, q_name_drop, q_name_shift, q_name_turn, q_name_part, q_name_join, q_shift_add, q_shift_drop, q_shift_name, q_shift_turn, q_shift_part, q_shift_join, q_turn_add, q_turn_drop, q_turn_name, q_turn_shift, q_turn_part, q_turn_join, q_part_add, q_part_drop, q_part_name, q_part_shift, q_part_turn, q_part_join, q_join_add, q_join_drop, q_join_name, q_join_shift, q_join_turn, q_join_part, q_n_i, q_n_s, q_i_n, q_i_s, q_s_n, q_s_i] at hn ⊢
      | a :: b :: c :: d :: e :: r, hn => rfl
    rw [hs]
    simp [f__law_is_step, fnF, b__law_is_step, ite_ap, mbind, mlift, mret, fVar, vVar, fC, fOp, fUn, fNil, fCons, fFn, fTst, tst, fAndT, fOrT, fNotT, fAnd, fOr, fIf, fChain, fCall, callM, fRE, fRV, fR0, lend, fCallO, callO, fCallQ, callQ, sNext, sBrk, sCnt, sSeq, sE, sSet, sOwn, sRet, sRetF, sRetO, sRetN, sDrop, sIf, sSetQ, sRetQ, sMatch, cNone, cAny, cSeq, put, putO, start0, R.lent, R.d, fIts, fFnI, fPair, fUnit, sFrz, fD0, fDisp, fPairs, fSl, fNo, fPart, intOf, fJoin, strOf, List.getElem?_cons_zero, List.getElem?_cons_succ, List.set_cons_zero, List.set_cons_succ, List.map_cons, List.map_nil, List.length_cons, List.length_nil, List.cons_append, List.nil_append, List.replicate, Option.map_some, Option.map_none, Option.bind_some, Option.bind_none, if_true, Bool.not_true, Bool.not_false, Bool.false_eq_true, if_false, Nat.reduceAdd, Nat.reduceSub, eq_self_iff_true, Nat.zero_add, lst7, hin, hk, hlk, lenL, gNe_int, bne, hn2]
theorem ls_shift {ps : List D} (B : Bk) (hp : ∀ d ∈ ps, partD d) : f__law_is_step [⟨.shr, .str "shift"⟩, ⟨.shr, .lst ps⟩] B = some (.ok ⟨.shr, .bl (stepD "shift" ps)⟩, B) := by
  have hk := kd "shift" "ni" B (gsl _ (by decide +kernel)) (by decide +kernel)
  have hin := inW "shift"
  have hlk : gLen [.str "ni"] = some (.int 2) := lenStr (n := 2) (by decide +kernel)
  have en_i : ∀ y : Str, GS y → gEq (.str "i") (.str y) = some (.bl ("i" == y)) := fun y hy => gEq_str (gsl _ (by decide +kernel)) hy
  have nn_i : ∀ y : Str, GS y → gNe (.str "i") (.str y) = some (.bl ("i" != y)) := fun y hy => gNe_str (gsl _ (by decide +kernel)) hy
  have en_n : ∀ y : Str, GS y → gEq (.str "n") (.str y) = some (.bl ("n" == y)) := fun y hy => gEq_str (gsl _ (by decide +kernel)) hy
  have nn_n : ∀ y : Str, GS y → gNe (.str "n") (.str y) = some (.bl ("n" != y)) := fun y hy => gNe_str (gsl _ (by decide +kernel)) hy
  have gn : GS "n" := gsl _ (by decide +kernel)
  have gs : GS "s" := gsl _ (by decide +kernel)
  have x0 : gIx (.str "ni") (.int 0) = some (.str "n") := ixS (by decide +kernel)
  have x1 : gIx (.str "ni") (.int 1) = some (.str "i") := ixS (by decide +kernel)
  have ew : ∀ y : Str, GS y → gEq (.str "shift") (.str y) = some (.bl ("shift" == y)) := fun y hy => gEq_str (gsl _ (by decide +kernel)) hy
  have nw : ∀ y : Str, GS y → gNe (.str "shift") (.str y) = some (.bl ("shift" != y)) := fun y hy => gNe_str (gsl _ (by decide +kernel)) hy
  have gp : GS "part" := gsl _ (by decide +kernel)
  have gj : GS "join" := gsl _ (by decide +kernel)
  by_cases hn : ps.length = 2
  · obtain ⟨a, b, rfl⟩ : ∃ a b, ps = [a, b] := by
      match ps, hn with
      | [a, b], _ => exact ⟨_, _, rfl⟩
    have pa := hp a (by simp)
    have na := lnm_eq B pa
    have ia := lnr_eq B pa
    have ga : gIx (.lst [a, b]) (.int 0) = some a := ixL (j := 0) rfl
    have pb := hp b (by simp)
    have nb := lnm_eq B pb
    have ib := lnr_eq B pb
    have gb : gIx (.lst [a, b]) (.int 1) = some b := ixL (j := 1) rfl
    have rr : gRng1 [.int 2] = some (rngD 0 2) := rg 2 (by omega)
    cases ha : nmD a <;> cases hb : nrD b <;> simp [f__law_is_step, fnF, b__law_is_step, ite_ap, mbind, mlift, mret, fVar, vVar, fC, fOp, fUn, fNil, fCons, fFn, fTst, tst, fAndT, fOrT, fNotT, fAnd, fOr, fIf, fChain, fCall, callM, fRE, fRV, fR0, lend, fCallO, callO, fCallQ, callQ, sNext, sBrk, sCnt, sSeq, sE, sSet, sOwn, sRet, sRetF, sRetO, sRetN, sDrop, sIf, sSetQ, sRetQ, sMatch, cNone, cAny, cSeq, put, putO, start0, R.lent, R.d, fIts, fFnI, fPair, fUnit, sFrz, fD0, fDisp, fPairs, fSl, fNo, fPart, intOf, fJoin, strOf, List.getElem?_cons_zero, List.getElem?_cons_succ, List.set_cons_zero, List.set_cons_succ, List.map_cons, List.map_nil, List.length_cons, List.length_nil, List.cons_append, List.nil_append, List.replicate, Option.map_some, Option.map_none, Option.bind_some, Option.bind_none, if_true, Bool.not_true, Bool.not_false, Bool.false_eq_true, if_false, Nat.reduceAdd, Nat.reduceSub, eq_self_iff_true, Nat.zero_add, lst7, hin, hk, hlk, lenL, gNe_int, q_add_drop, q_add_name, q_add_shift, q_add_turn, q_add_part, q_add_join, q_drop_add, q_drop_name, q_drop_shift, q_drop_turn, q_drop_part, q_drop_join, q_name_add, q_name_drop, q_name_shift, q_name_turn, q_name_part, q_name_join, q_shift_add, q_shift_drop, q_shift_name, q_shift_turn, q_shift_part, q_shift_join, q_turn_add, q_turn_drop, q_turn_name, q_turn_shift, q_turn_part, q_turn_join, q_part_add, q_part_drop, q_part_name, q_part_shift, q_part_turn, q_part_join, q_join_add, q_join_drop, q_join_name, q_join_shift, q_join_turn, q_join_part, q_n_i, q_n_s, q_i_n, q_i_s, q_s_n, q_s_i, stepD, ew _ gp, nw _ gj, bne, rg, r2, sFor, forGo, x0, x1, en_i _ gn, nn_i _ gn, en_i _ gs, en_n _ gn, nn_n _ gn, en_n _ gs, ga, na, ia, gb, nb, ib, rr, ha, hb]
  · have hn2 : ((ps.length : Int) == 2) = false := by simp; omega
    have hs : stepD "shift" ps = false := by
      match ps, hn with
      | [], _ => rfl
      | [a], hn => simp [stepD, q_add_drop, q_add_name, q_add_shift, q_add_turn, q_add_part, q_add_join, q_drop_add, q_drop_name, q_drop_shift, q_drop_turn, q_drop_part, q_drop_join, q_name_add, q_name_drop, q_name_shift, q_name_turn, q_name_part, q_name_join, q_shift_add, q_shift_drop, q_shift_name, q_shift_turn, q_shift_part, q_shift_join, q_turn_add, q_turn_drop, q_turn_name, q_turn_shift, q_turn_part, q_turn_join, q_part_add, q_part_drop, q_part_name, q_part_shift, q_part_turn, q_part_join, q_join_add, q_join_drop, q_join_name, q_join_shift, q_join_turn, q_join_part, q_n_i, q_n_s, q_i_n, q_i_s, q_s_n, q_s_i] at hn ⊢
      | [a, b], hn => simp [stepD, q_add_drop, q_add_name, q_add_shift, q_add_turn, q_add_part, q_add_join, q_drop_add, q_drop_name, q_drop_shift, q_drop_turn, q_drop_part, q_drop_join, q_name_add, q_name_drop, q_name_shift, q_name_turn, q_name_part, q_name_join, q_shift_add, q_shift_drop, q_shift_name, q_shift_turn, q_shift_part, q_shift_join, q_turn_add, q_turn_drop, q_turn_name, q_turn_shift, q_turn_part, q_turn_join, q_part_add, q_part_drop, q_part_name, q_part_shift, q_part_turn, q_part_join, q_join_add, q_join_drop, q_join_name, q_join_shift, q_join_turn, q_join_part, q_n_i, q_n_s, q_i_n, q_i_s, q_s_n, q_s_i] at hn ⊢
      | [a, b, c], hn => rfl
      | [a, b, c, d], hn => simp [stepD, q_add_drop, q_add_name, q_add_shift, q_add_turn, q_add_part, q_add_join, q_drop_add, q_drop_name, q_drop_shift, q_drop_turn, q_drop_part, q_drop_join, q_name_add, q_name_drop, q_name_shift, q_name_turn, q_name_part, q_name_join, q_shift_add, q_shift_drop, q_shift_name, q_shift_turn, q_shift_part, q_shift_join, q_turn_add, q_turn_drop, q_turn_name, q_turn_shift, q_turn_part, q_turn_join, q_part_add, q_part_drop, q_part_name, q_part_shift, q_part_turn, q_part_join, q_join_add, q_join_drop, q_join_name, q_join_shift, q_join_turn, q_join_part, q_n_i, q_n_s, q_i_n, q_i_s, q_s_n, q_s_i] at hn ⊢
      | a :: b :: c :: d :: e :: r, hn => rfl
    rw [hs]
    simp [f__law_is_step, fnF, b__law_is_step, ite_ap, mbind, mlift, mret, fVar, vVar, fC, fOp, fUn, fNil, fCons, fFn, fTst, tst, fAndT, fOrT, fNotT, fAnd, fOr, fIf, fChain, fCall, callM, fRE, fRV, fR0, lend, fCallO, callO, fCallQ, callQ, sNext, sBrk, sCnt, sSeq, sE, sSet, sOwn, sRet, sRetF, sRetO, sRetN, sDrop, sIf, sSetQ, sRetQ, sMatch, cNone, cAny, cSeq, put, putO, start0, R.lent, R.d, fIts, fFnI, fPair, fUnit, sFrz, fD0, fDisp, fPairs, fSl, fNo, fPart, intOf, fJoin, strOf, List.getElem?_cons_zero, List.getElem?_cons_succ, List.set_cons_zero, List.set_cons_succ, List.map_cons, List.map_nil, List.length_cons, List.length_nil, List.cons_append, List.nil_append, List.replicate, Option.map_some, Option.map_none, Option.bind_some, Option.bind_none, if_true, Bool.not_true, Bool.not_false, Bool.false_eq_true, if_false, Nat.reduceAdd, Nat.reduceSub, eq_self_iff_true, Nat.zero_add, lst7, hin, hk, hlk, lenL, gNe_int, bne, hn2]
theorem ls_turn {ps : List D} (B : Bk) (hp : ∀ d ∈ ps, partD d) : f__law_is_step [⟨.shr, .str "turn"⟩, ⟨.shr, .lst ps⟩] B = some (.ok ⟨.shr, .bl (stepD "turn" ps)⟩, B) := by
  have hk := kd "turn" "n" B (gsl _ (by decide +kernel)) (by decide +kernel)
  have hin := inW "turn"
  have hlk : gLen [.str "n"] = some (.int 1) := lenStr (n := 1) (by decide +kernel)
  have en_n : ∀ y : Str, GS y → gEq (.str "n") (.str y) = some (.bl ("n" == y)) := fun y hy => gEq_str (gsl _ (by decide +kernel)) hy
  have nn_n : ∀ y : Str, GS y → gNe (.str "n") (.str y) = some (.bl ("n" != y)) := fun y hy => gNe_str (gsl _ (by decide +kernel)) hy
  have gn : GS "n" := gsl _ (by decide +kernel)
  have gs : GS "s" := gsl _ (by decide +kernel)
  have x0 : gIx (.str "n") (.int 0) = some (.str "n") := ixS (by decide +kernel)
  have ew : ∀ y : Str, GS y → gEq (.str "turn") (.str y) = some (.bl ("turn" == y)) := fun y hy => gEq_str (gsl _ (by decide +kernel)) hy
  have nw : ∀ y : Str, GS y → gNe (.str "turn") (.str y) = some (.bl ("turn" != y)) := fun y hy => gNe_str (gsl _ (by decide +kernel)) hy
  have gp : GS "part" := gsl _ (by decide +kernel)
  have gj : GS "join" := gsl _ (by decide +kernel)
  by_cases hn : ps.length = 1
  · obtain ⟨a, rfl⟩ : ∃ a, ps = [a] := by
      match ps, hn with
      | [a], _ => exact ⟨_, rfl⟩
    have pa := hp a (by simp)
    have na := lnm_eq B pa
    have ia := lnr_eq B pa
    have ga : gIx (.lst [a]) (.int 0) = some a := ixL (j := 0) rfl
    have rr : gRng1 [.int 1] = some (rngD 0 1) := rg 1 (by omega)
    cases ha : nmD a <;> simp [f__law_is_step, fnF, b__law_is_step, ite_ap, mbind, mlift, mret, fVar, vVar, fC, fOp, fUn, fNil, fCons, fFn, fTst, tst, fAndT, fOrT, fNotT, fAnd, fOr, fIf, fChain, fCall, callM, fRE, fRV, fR0, lend, fCallO, callO, fCallQ, callQ, sNext, sBrk, sCnt, sSeq, sE, sSet, sOwn, sRet, sRetF, sRetO, sRetN, sDrop, sIf, sSetQ, sRetQ, sMatch, cNone, cAny, cSeq, put, putO, start0, R.lent, R.d, fIts, fFnI, fPair, fUnit, sFrz, fD0, fDisp, fPairs, fSl, fNo, fPart, intOf, fJoin, strOf, List.getElem?_cons_zero, List.getElem?_cons_succ, List.set_cons_zero, List.set_cons_succ, List.map_cons, List.map_nil, List.length_cons, List.length_nil, List.cons_append, List.nil_append, List.replicate, Option.map_some, Option.map_none, Option.bind_some, Option.bind_none, if_true, Bool.not_true, Bool.not_false, Bool.false_eq_true, if_false, Nat.reduceAdd, Nat.reduceSub, eq_self_iff_true, Nat.zero_add, lst7, hin, hk, hlk, lenL, gNe_int, q_add_drop, q_add_name, q_add_shift, q_add_turn, q_add_part, q_add_join, q_drop_add, q_drop_name, q_drop_shift, q_drop_turn, q_drop_part, q_drop_join, q_name_add, q_name_drop, q_name_shift, q_name_turn, q_name_part, q_name_join, q_shift_add, q_shift_drop, q_shift_name, q_shift_turn, q_shift_part, q_shift_join, q_turn_add, q_turn_drop, q_turn_name, q_turn_shift, q_turn_part, q_turn_join, q_part_add, q_part_drop, q_part_name, q_part_shift, q_part_turn, q_part_join, q_join_add, q_join_drop, q_join_name, q_join_shift, q_join_turn, q_join_part, q_n_i, q_n_s, q_i_n, q_i_s, q_s_n, q_s_i, stepD, ew _ gp, nw _ gj, bne, rg, r1, sFor, forGo, x0, en_n _ gn, nn_n _ gn, en_n _ gs, ga, na, ia, rr, ha]
  · have hn2 : ((ps.length : Int) == 1) = false := by simp; omega
    have hs : stepD "turn" ps = false := by
      match ps, hn with
      | [], _ => rfl
      | [a], hn => simp [stepD, q_add_drop, q_add_name, q_add_shift, q_add_turn, q_add_part, q_add_join, q_drop_add, q_drop_name, q_drop_shift, q_drop_turn, q_drop_part, q_drop_join, q_name_add, q_name_drop, q_name_shift, q_name_turn, q_name_part, q_name_join, q_shift_add, q_shift_drop, q_shift_name, q_shift_turn, q_shift_part, q_shift_join, q_turn_add, q_turn_drop, q_turn_name, q_turn_shift, q_turn_part, q_turn_join, q_part_add, q_part_drop, q_part_name, q_part_shift, q_part_turn, q_part_join, q_join_add, q_join_drop, q_join_name, q_join_shift, q_join_turn, q_join_part, q_n_i, q_n_s, q_i_n, q_i_s, q_s_n, q_s_i] at hn ⊢
      | [a, b], hn => simp [stepD, q_add_drop, q_add_name, q_add_shift, q_add_turn, q_add_part, q_add_join, q_drop_add, q_drop_name, q_drop_shift, q_drop_turn, q_drop_part, q_drop_join, q_name_add, q_name_drop, q_name_shift, q_name_turn, q_name_part, q_name_join, q_shift_add, q_shift_drop, q_shift_name, q_shift_turn, q_shift_part, q_shift_join, q_turn_add, q_turn_drop, q_turn_name, q_turn_shift, q_turn_part, q_turn_join, q_part_add, q_part_drop, q_part_name, q_part_shift, q_part_turn, q_part_join, q_join_add, q_join_drop, q_join_name, q_join_shift, q_join_turn, q_join_part, q_n_i, q_n_s, q_i_n, q_i_s, q_s_n, q_s_i] at hn ⊢
      | [a, b, c], hn => rfl
      | [a, b, c, d], hn => simp [stepD, q_add_drop, q_add_name, q_add_shift, q_add_turn, q_add_part, q_add_join, q_drop_add, q_drop_name, q_drop_shift, q_drop_turn, q_drop_part, q_drop_join, q_name_add, q_name_drop, q_name_shift, q_name_turn, q_name_part, q_name_join, q_shift_add, q_shift_drop, q_shift_name, q_shift_turn, q_shift_part, q_shift_join, q_turn_add, q_turn_drop, q_turn_name, q_turn_shift, q_turn_part, q_turn_join, q_part_add, q_part_drop, q_part_name, q_part_shift, q_part_turn, q_part_join, q_join_add, q_join_drop, q_join_name, q_join_shift, q_join_turn, q_join_part, q_n_i, q_n_s, q_i_n, q_i_s, q_s_n, q_s_i] at hn ⊢
      | a :: b :: c :: d :: e :: r, hn => rfl
    rw [hs]
    simp [f__law_is_step, fnF, b__law_is_step, ite_ap, mbind, mlift, mret, fVar, vVar, fC, fOp, fUn, fNil, fCons, fFn, fTst, tst, fAndT, fOrT, fNotT, fAnd, fOr, fIf, fChain, fCall, callM, fRE, fRV, fR0, lend, fCallO, callO, fCallQ, callQ, sNext, sBrk, sCnt, sSeq, sE, sSet, sOwn, sRet, sRetF, sRetO, sRetN, sDrop, sIf, sSetQ, sRetQ, sMatch, cNone, cAny, cSeq, put, putO, start0, R.lent, R.d, fIts, fFnI, fPair, fUnit, sFrz, fD0, fDisp, fPairs, fSl, fNo, fPart, intOf, fJoin, strOf, List.getElem?_cons_zero, List.getElem?_cons_succ, List.set_cons_zero, List.set_cons_succ, List.map_cons, List.map_nil, List.length_cons, List.length_nil, List.cons_append, List.nil_append, List.replicate, Option.map_some, Option.map_none, Option.bind_some, Option.bind_none, if_true, Bool.not_true, Bool.not_false, Bool.false_eq_true, if_false, Nat.reduceAdd, Nat.reduceSub, eq_self_iff_true, Nat.zero_add, lst7, hin, hk, hlk, lenL, gNe_int, bne, hn2]
theorem ls_part {ps : List D} (B : Bk) (hp : ∀ d ∈ ps, partD d) : f__law_is_step [⟨.shr, .str "part"⟩, ⟨.shr, .lst ps⟩] B = some (.ok ⟨.shr, .bl (stepD "part" ps)⟩, B) := by
  have hk := kd "part" "nnns" B (gsl _ (by decide +kernel)) (by decide +kernel)
  have hin := inW "part"
  have hlk : gLen [.str "nnns"] = some (.int 4) := lenStr (n := 4) (by decide +kernel)
  have en_n : ∀ y : Str, GS y → gEq (.str "n") (.str y) = some (.bl ("n" == y)) := fun y hy => gEq_str (gsl _ (by decide +kernel)) hy
  have nn_n : ∀ y : Str, GS y → gNe (.str "n") (.str y) = some (.bl ("n" != y)) := fun y hy => gNe_str (gsl _ (by decide +kernel)) hy
  have en_s : ∀ y : Str, GS y → gEq (.str "s") (.str y) = some (.bl ("s" == y)) := fun y hy => gEq_str (gsl _ (by decide +kernel)) hy
  have nn_s : ∀ y : Str, GS y → gNe (.str "s") (.str y) = some (.bl ("s" != y)) := fun y hy => gNe_str (gsl _ (by decide +kernel)) hy
  have gn : GS "n" := gsl _ (by decide +kernel)
  have gs : GS "s" := gsl _ (by decide +kernel)
  have x0 : gIx (.str "nnns") (.int 0) = some (.str "n") := ixS (by decide +kernel)
  have x1 : gIx (.str "nnns") (.int 1) = some (.str "n") := ixS (by decide +kernel)
  have x2 : gIx (.str "nnns") (.int 2) = some (.str "n") := ixS (by decide +kernel)
  have x3 : gIx (.str "nnns") (.int 3) = some (.str "s") := ixS (by decide +kernel)
  have ew : ∀ y : Str, GS y → gEq (.str "part") (.str y) = some (.bl ("part" == y)) := fun y hy => gEq_str (gsl _ (by decide +kernel)) hy
  have nw : ∀ y : Str, GS y → gNe (.str "part") (.str y) = some (.bl ("part" != y)) := fun y hy => gNe_str (gsl _ (by decide +kernel)) hy
  have gp : GS "part" := gsl _ (by decide +kernel)
  have gj : GS "join" := gsl _ (by decide +kernel)
  by_cases hn : ps.length = 4
  · obtain ⟨a, b, c, d, rfl⟩ : ∃ a b c d, ps = [a, b, c, d] := by
      match ps, hn with
      | [a, b, c, d], _ => exact ⟨_, _, _, _, rfl⟩
    have pa := hp a (by simp)
    have na := lnm_eq B pa
    have ia := lnr_eq B pa
    have ga : gIx (.lst [a, b, c, d]) (.int 0) = some a := ixL (j := 0) rfl
    have pb := hp b (by simp)
    have nb := lnm_eq B pb
    have ib := lnr_eq B pb
    have gb : gIx (.lst [a, b, c, d]) (.int 1) = some b := ixL (j := 1) rfl
    have pc := hp c (by simp)
    have nc := lnm_eq B pc
    have ic := lnr_eq B pc
    have gc : gIx (.lst [a, b, c, d]) (.int 2) = some c := ixL (j := 2) rfl
    have pd := hp d (by simp)
    have nd := lnm_eq B pd
    have id := lnr_eq B pd
    have gd : gIx (.lst [a, b, c, d]) (.int 3) = some d := ixL (j := 3) rfl
    have rr : gRng1 [.int 4] = some (rngD 0 4) := rg 4 (by omega)
    cases ha : nmD a with
    | false => simp [f__law_is_step, fnF, b__law_is_step, ite_ap, mbind, mlift, mret, fVar, vVar, fC, fOp, fUn, fNil, fCons, fFn, fTst, tst, fAndT, fOrT, fNotT, fAnd, fOr, fIf, fChain, fCall, callM, fRE, fRV, fR0, lend, fCallO, callO, fCallQ, callQ, sNext, sBrk, sCnt, sSeq, sE, sSet, sOwn, sRet, sRetF, sRetO, sRetN, sDrop, sIf, sSetQ, sRetQ, sMatch, cNone, cAny, cSeq, put, putO, start0, R.lent, R.d, fIts, fFnI, fPair, fUnit, sFrz, fD0, fDisp, fPairs, fSl, fNo, fPart, intOf, fJoin, strOf, List.getElem?_cons_zero, List.getElem?_cons_succ, List.set_cons_zero, List.set_cons_succ, List.map_cons, List.map_nil, List.length_cons, List.length_nil, List.cons_append, List.nil_append, List.replicate, Option.map_some, Option.map_none, Option.bind_some, Option.bind_none, if_true, Bool.not_true, Bool.not_false, Bool.false_eq_true, if_false, Nat.reduceAdd, Nat.reduceSub, eq_self_iff_true, Nat.zero_add, lst7, hin, hk, hlk, lenL, gNe_int, q_add_drop, q_add_name, q_add_shift, q_add_turn, q_add_part, q_add_join, q_drop_add, q_drop_name, q_drop_shift, q_drop_turn, q_drop_part, q_drop_join, q_name_add, q_name_drop, q_name_shift, q_name_turn, q_name_part, q_name_join, q_shift_add, q_shift_drop, q_shift_name, q_shift_turn, q_shift_part, q_shift_join, q_turn_add, q_turn_drop, q_turn_name, q_turn_shift, q_turn_part, q_turn_join, q_part_add, q_part_drop, q_part_name, q_part_shift, q_part_turn, q_part_join, q_join_add, q_join_drop, q_join_name, q_join_shift, q_join_turn, q_join_part, q_n_i, q_n_s, q_i_n, q_i_s, q_s_n, q_s_i, stepD, ew _ gp, nw _ gj, bne, rg, r4, sFor, forGo, x0, x1, x2, x3, en_n _ gn, nn_n _ gn, en_n _ gs, en_s _ gn, nn_s _ gn, en_s _ gs, ga, na, ia, gb, nb, ib, gc, nc, ic, gd, nd, id, rr, ndec, ha, twoD]
    | true =>
      cases hb : nmD b with
      | false => simp [f__law_is_step, fnF, b__law_is_step, ite_ap, mbind, mlift, mret, fVar, vVar, fC, fOp, fUn, fNil, fCons, fFn, fTst, tst, fAndT, fOrT, fNotT, fAnd, fOr, fIf, fChain, fCall, callM, fRE, fRV, fR0, lend, fCallO, callO, fCallQ, callQ, sNext, sBrk, sCnt, sSeq, sE, sSet, sOwn, sRet, sRetF, sRetO, sRetN, sDrop, sIf, sSetQ, sRetQ, sMatch, cNone, cAny, cSeq, put, putO, start0, R.lent, R.d, fIts, fFnI, fPair, fUnit, sFrz, fD0, fDisp, fPairs, fSl, fNo, fPart, intOf, fJoin, strOf, List.getElem?_cons_zero, List.getElem?_cons_succ, List.set_cons_zero, List.set_cons_succ, List.map_cons, List.map_nil, List.length_cons, List.length_nil, List.cons_append, List.nil_append, List.replicate, Option.map_some, Option.map_none, Option.bind_some, Option.bind_none, if_true, Bool.not_true, Bool.not_false, Bool.false_eq_true, if_false, Nat.reduceAdd, Nat.reduceSub, eq_self_iff_true, Nat.zero_add, lst7, hin, hk, hlk, lenL, gNe_int, q_add_drop, q_add_name, q_add_shift, q_add_turn, q_add_part, q_add_join, q_drop_add, q_drop_name, q_drop_shift, q_drop_turn, q_drop_part, q_drop_join, q_name_add, q_name_drop, q_name_shift, q_name_turn, q_name_part, q_name_join, q_shift_add, q_shift_drop, q_shift_name, q_shift_turn, q_shift_part, q_shift_join, q_turn_add, q_turn_drop, q_turn_name, q_turn_shift, q_turn_part, q_turn_join, q_part_add, q_part_drop, q_part_name, q_part_shift, q_part_turn, q_part_join, q_join_add, q_join_drop, q_join_name, q_join_shift, q_join_turn, q_join_part, q_n_i, q_n_s, q_i_n, q_i_s, q_s_n, q_s_i, stepD, ew _ gp, nw _ gj, bne, rg, r4, sFor, forGo, x0, x1, x2, x3, en_n _ gn, nn_n _ gn, en_n _ gs, en_s _ gn, nn_s _ gn, en_s _ gs, ga, na, ia, gb, nb, ib, gc, nc, ic, gd, nd, id, rr, ndec, ha, hb, twoD]
      | true =>
        cases hc : nmD c with
        | false => simp [f__law_is_step, fnF, b__law_is_step, ite_ap, mbind, mlift, mret, fVar, vVar, fC, fOp, fUn, fNil, fCons, fFn, fTst, tst, fAndT, fOrT, fNotT, fAnd, fOr, fIf, fChain, fCall, callM, fRE, fRV, fR0, lend, fCallO, callO, fCallQ, callQ, sNext, sBrk, sCnt, sSeq, sE, sSet, sOwn, sRet, sRetF, sRetO, sRetN, sDrop, sIf, sSetQ, sRetQ, sMatch, cNone, cAny, cSeq, put, putO, start0, R.lent, R.d, fIts, fFnI, fPair, fUnit, sFrz, fD0, fDisp, fPairs, fSl, fNo, fPart, intOf, fJoin, strOf, List.getElem?_cons_zero, List.getElem?_cons_succ, List.set_cons_zero, List.set_cons_succ, List.map_cons, List.map_nil, List.length_cons, List.length_nil, List.cons_append, List.nil_append, List.replicate, Option.map_some, Option.map_none, Option.bind_some, Option.bind_none, if_true, Bool.not_true, Bool.not_false, Bool.false_eq_true, if_false, Nat.reduceAdd, Nat.reduceSub, eq_self_iff_true, Nat.zero_add, lst7, hin, hk, hlk, lenL, gNe_int, q_add_drop, q_add_name, q_add_shift, q_add_turn, q_add_part, q_add_join, q_drop_add, q_drop_name, q_drop_shift, q_drop_turn, q_drop_part, q_drop_join, q_name_add, q_name_drop, q_name_shift, q_name_turn, q_name_part, q_name_join, q_shift_add, q_shift_drop, q_shift_name, q_shift_turn, q_shift_part, q_shift_join, q_turn_add, q_turn_drop, q_turn_name, q_turn_shift, q_turn_part, q_turn_join, q_part_add, q_part_drop, q_part_name, q_part_shift, q_part_turn, q_part_join, q_join_add, q_join_drop, q_join_name, q_join_shift, q_join_turn, q_join_part, q_n_i, q_n_s, q_i_n, q_i_s, q_s_n, q_s_i, stepD, ew _ gp, nw _ gj, bne, rg, r4, sFor, forGo, x0, x1, x2, x3, en_n _ gn, nn_n _ gn, en_n _ gs, en_s _ gn, nn_s _ gn, en_s _ gs, ga, na, ia, gb, nb, ib, gc, nc, ic, gd, nd, id, rr, ndec, ha, hb, hc, twoD]
        | true =>
          cases hd : nrD d with
          | false => simp [f__law_is_step, fnF, b__law_is_step, ite_ap, mbind, mlift, mret, fVar, vVar, fC, fOp, fUn, fNil, fCons, fFn, fTst, tst, fAndT, fOrT, fNotT, fAnd, fOr, fIf, fChain, fCall, callM, fRE, fRV, fR0, lend, fCallO, callO, fCallQ, callQ, sNext, sBrk, sCnt, sSeq, sE, sSet, sOwn, sRet, sRetF, sRetO, sRetN, sDrop, sIf, sSetQ, sRetQ, sMatch, cNone, cAny, cSeq, put, putO, start0, R.lent, R.d, fIts, fFnI, fPair, fUnit, sFrz, fD0, fDisp, fPairs, fSl, fNo, fPart, intOf, fJoin, strOf, List.getElem?_cons_zero, List.getElem?_cons_succ, List.set_cons_zero, List.set_cons_succ, List.map_cons, List.map_nil, List.length_cons, List.length_nil, List.cons_append, List.nil_append, List.replicate, Option.map_some, Option.map_none, Option.bind_some, Option.bind_none, if_true, Bool.not_true, Bool.not_false, Bool.false_eq_true, if_false, Nat.reduceAdd, Nat.reduceSub, eq_self_iff_true, Nat.zero_add, lst7, hin, hk, hlk, lenL, gNe_int, q_add_drop, q_add_name, q_add_shift, q_add_turn, q_add_part, q_add_join, q_drop_add, q_drop_name, q_drop_shift, q_drop_turn, q_drop_part, q_drop_join, q_name_add, q_name_drop, q_name_shift, q_name_turn, q_name_part, q_name_join, q_shift_add, q_shift_drop, q_shift_name, q_shift_turn, q_shift_part, q_shift_join, q_turn_add, q_turn_drop, q_turn_name, q_turn_shift, q_turn_part, q_turn_join, q_part_add, q_part_drop, q_part_name, q_part_shift, q_part_turn, q_part_join, q_join_add, q_join_drop, q_join_name, q_join_shift, q_join_turn, q_join_part, q_n_i, q_n_s, q_i_n, q_i_s, q_s_n, q_s_i, stepD, ew _ gp, nw _ gj, bne, rg, r4, sFor, forGo, x0, x1, x2, x3, en_n _ gn, nn_n _ gn, en_n _ gs, en_s _ gn, nn_s _ gn, en_s _ gs, ga, na, ia, gb, nb, ib, gc, nc, ic, gd, nd, id, rr, ndec, ha, hb, hc, hd, twoD, szF hd]
          | true =>
            obtain ⟨i, rfl⟩ := szLe hd
            obtain ⟨xa, rfl⟩ := nmSt ha
            obtain ⟨xb, rfl⟩ := nmSt hb
            obtain ⟨xc, rfl⟩ := nmSt hc
            have nab := gNe_str (pa.2 _ rfl) (pb.2 _ rfl)
            have nbc := gNe_str (pb.2 _ rfl) (pc.2 _ rfl)
            by_cases h1 : 2 ≤ i
            · by_cases h2 : i ≤ 1000000
              · simp [f__law_is_step, fnF, b__law_is_step, ite_ap, mbind, mlift, mret, fVar, vVar, fC, fOp, fUn, fNil, fCons, fFn, fTst, tst, fAndT, fOrT, fNotT, fAnd, fOr, fIf, fChain, fCall, callM, fRE, fRV, fR0, lend, fCallO, callO, fCallQ, callQ, sNext, sBrk, sCnt, sSeq, sE, sSet, sOwn, sRet, sRetF, sRetO, sRetN, sDrop, sIf, sSetQ, sRetQ, sMatch, cNone, cAny, cSeq, put, putO, start0, R.lent, R.d, fIts, fFnI, fPair, fUnit, sFrz, fD0, fDisp, fPairs, fSl, fNo, fPart, intOf, fJoin, strOf, List.getElem?_cons_zero, List.getElem?_cons_succ, List.set_cons_zero, List.set_cons_succ, List.map_cons, List.map_nil, List.length_cons, List.length_nil, List.cons_append, List.nil_append, List.replicate, Option.map_some, Option.map_none, Option.bind_some, Option.bind_none, if_true, Bool.not_true, Bool.not_false, Bool.false_eq_true, if_false, Nat.reduceAdd, Nat.reduceSub, eq_self_iff_true, Nat.zero_add, lst7, hin, hk, hlk, lenL, gNe_int, q_add_drop, q_add_name, q_add_shift, q_add_turn, q_add_part, q_add_join, q_drop_add, q_drop_name, q_drop_shift, q_drop_turn, q_drop_part, q_drop_join, q_name_add, q_name_drop, q_name_shift, q_name_turn, q_name_part, q_name_join, q_shift_add, q_shift_drop, q_shift_name, q_shift_turn, q_shift_part, q_shift_join, q_turn_add, q_turn_drop, q_turn_name, q_turn_shift, q_turn_part, q_turn_join, q_part_add, q_part_drop, q_part_name, q_part_shift, q_part_turn, q_part_join, q_join_add, q_join_drop, q_join_name, q_join_shift, q_join_turn, q_join_part, q_n_i, q_n_s, q_i_n, q_i_s, q_s_n, q_s_i, stepD, ew _ gp, nw _ gj, bne, rg, r4, sFor, forGo, x0, x1, x2, x3, en_n _ gn, nn_n _ gn, en_n _ gs, en_s _ gn, nn_s _ gn, en_s _ gs, ga, na, ia, gb, nb, ib, gc, nc, ic, gd, nd, id, rr, ndec, ha, hb, hc, hd, twoD, szD, h1, h2, nab, nbc, neD]
              · simp [f__law_is_step, fnF, b__law_is_step, ite_ap, mbind, mlift, mret, fVar, vVar, fC, fOp, fUn, fNil, fCons, fFn, fTst, tst, fAndT, fOrT, fNotT, fAnd, fOr, fIf, fChain, fCall, callM, fRE, fRV, fR0, lend, fCallO, callO, fCallQ, callQ, sNext, sBrk, sCnt, sSeq, sE, sSet, sOwn, sRet, sRetF, sRetO, sRetN, sDrop, sIf, sSetQ, sRetQ, sMatch, cNone, cAny, cSeq, put, putO, start0, R.lent, R.d, fIts, fFnI, fPair, fUnit, sFrz, fD0, fDisp, fPairs, fSl, fNo, fPart, intOf, fJoin, strOf, List.getElem?_cons_zero, List.getElem?_cons_succ, List.set_cons_zero, List.set_cons_succ, List.map_cons, List.map_nil, List.length_cons, List.length_nil, List.cons_append, List.nil_append, List.replicate, Option.map_some, Option.map_none, Option.bind_some, Option.bind_none, if_true, Bool.not_true, Bool.not_false, Bool.false_eq_true, if_false, Nat.reduceAdd, Nat.reduceSub, eq_self_iff_true, Nat.zero_add, lst7, hin, hk, hlk, lenL, gNe_int, q_add_drop, q_add_name, q_add_shift, q_add_turn, q_add_part, q_add_join, q_drop_add, q_drop_name, q_drop_shift, q_drop_turn, q_drop_part, q_drop_join, q_name_add, q_name_drop, q_name_shift, q_name_turn, q_name_part, q_name_join, q_shift_add, q_shift_drop, q_shift_name, q_shift_turn, q_shift_part, q_shift_join, q_turn_add, q_turn_drop, q_turn_name, q_turn_shift, q_turn_part, q_turn_join, q_part_add, q_part_drop, q_part_name, q_part_shift, q_part_turn, q_part_join, q_join_add, q_join_drop, q_join_name, q_join_shift, q_join_turn, q_join_part, q_n_i, q_n_s, q_i_n, q_i_s, q_s_n, q_s_i, stepD, ew _ gp, nw _ gj, bne, rg, r4, sFor, forGo, x0, x1, x2, x3, en_n _ gn, nn_n _ gn, en_n _ gs, en_s _ gn, nn_s _ gn, en_s _ gs, ga, na, ia, gb, nb, ib, gc, nc, ic, gd, nd, id, rr, ndec, ha, hb, hc, hd, twoD, szD, h1, h2, nab, nbc, neD]
            · simp [f__law_is_step, fnF, b__law_is_step, ite_ap, mbind, mlift, mret, fVar, vVar, fC, fOp, fUn, fNil, fCons, fFn, fTst, tst, fAndT, fOrT, fNotT, fAnd, fOr, fIf, fChain, fCall, callM, fRE, fRV, fR0, lend, fCallO, callO, fCallQ, callQ, sNext, sBrk, sCnt, sSeq, sE, sSet, sOwn, sRet, sRetF, sRetO, sRetN, sDrop, sIf, sSetQ, sRetQ, sMatch, cNone, cAny, cSeq, put, putO, start0, R.lent, R.d, fIts, fFnI, fPair, fUnit, sFrz, fD0, fDisp, fPairs, fSl, fNo, fPart, intOf, fJoin, strOf, List.getElem?_cons_zero, List.getElem?_cons_succ, List.set_cons_zero, List.set_cons_succ, List.map_cons, List.map_nil, List.length_cons, List.length_nil, List.cons_append, List.nil_append, List.replicate, Option.map_some, Option.map_none, Option.bind_some, Option.bind_none, if_true, Bool.not_true, Bool.not_false, Bool.false_eq_true, if_false, Nat.reduceAdd, Nat.reduceSub, eq_self_iff_true, Nat.zero_add, lst7, hin, hk, hlk, lenL, gNe_int, q_add_drop, q_add_name, q_add_shift, q_add_turn, q_add_part, q_add_join, q_drop_add, q_drop_name, q_drop_shift, q_drop_turn, q_drop_part, q_drop_join, q_name_add, q_name_drop, q_name_shift, q_name_turn, q_name_part, q_name_join, q_shift_add, q_shift_drop, q_shift_name, q_shift_turn, q_shift_part, q_shift_join, q_turn_add, q_turn_drop, q_turn_name, q_turn_shift, q_turn_part, q_turn_join, q_part_add, q_part_drop, q_part_name, q_part_shift, q_part_turn, q_part_join, q_join_add, q_join_drop, q_join_name, q_join_shift, q_join_turn, q_join_part, q_n_i, q_n_s, q_i_n, q_i_s, q_s_n, q_s_i, stepD, ew _ gp, nw _ gj, bne, rg, r4, sFor, forGo, x0, x1, x2, x3, en_n _ gn, nn_n _ gn, en_n _ gs, en_s _ gn, nn_s _ gn, en_s _ gs, ga, na, ia, gb, nb, ib, gc, nc, ic, gd, nd, id, rr, ndec, ha, hb, hc, hd, twoD, szD, h1, nab, nbc, neD]
  · have hn2 : ((ps.length : Int) == 4) = false := by simp; omega
    have hs : stepD "part" ps = false := by
      match ps, hn with
      | [], _ => rfl
      | [a], hn => simp [stepD, q_add_drop, q_add_name, q_add_shift, q_add_turn, q_add_part, q_add_join, q_drop_add, q_drop_name, q_drop_shift, q_drop_turn, q_drop_part, q_drop_join, q_name_add, q_name_drop, q_name_shift, q_name_turn, q_name_part, q_name_join, q_shift_add, q_shift_drop, q_shift_name, q_shift_turn, q_shift_part, q_shift_join, q_turn_add, q_turn_drop, q_turn_name, q_turn_shift, q_turn_part, q_turn_join, q_part_add, q_part_drop, q_part_name, q_part_shift, q_part_turn, q_part_join, q_join_add, q_join_drop, q_join_name, q_join_shift, q_join_turn, q_join_part, q_n_i, q_n_s, q_i_n, q_i_s, q_s_n, q_s_i] at hn ⊢
      | [a, b], hn => simp [stepD, q_add_drop, q_add_name, q_add_shift, q_add_turn, q_add_part, q_add_join, q_drop_add, q_drop_name, q_drop_shift, q_drop_turn, q_drop_part, q_drop_join, q_name_add, q_name_drop, q_name_shift, q_name_turn, q_name_part, q_name_join, q_shift_add, q_shift_drop, q_shift_name, q_shift_turn, q_shift_part, q_shift_join, q_turn_add, q_turn_drop, q_turn_name, q_turn_shift, q_turn_part, q_turn_join, q_part_add, q_part_drop, q_part_name, q_part_shift, q_part_turn, q_part_join, q_join_add, q_join_drop, q_join_name, q_join_shift, q_join_turn, q_join_part, q_n_i, q_n_s, q_i_n, q_i_s, q_s_n, q_s_i] at hn ⊢
      | [a, b, c], hn => rfl
      | [a, b, c, d], hn => simp [stepD, q_add_drop, q_add_name, q_add_shift, q_add_turn, q_add_part, q_add_join, q_drop_add, q_drop_name, q_drop_shift, q_drop_turn, q_drop_part, q_drop_join, q_name_add, q_name_drop, q_name_shift, q_name_turn, q_name_part, q_name_join, q_shift_add, q_shift_drop, q_shift_name, q_shift_turn, q_shift_part, q_shift_join, q_turn_add, q_turn_drop, q_turn_name, q_turn_shift, q_turn_part, q_turn_join, q_part_add, q_part_drop, q_part_name, q_part_shift, q_part_turn, q_part_join, q_join_add, q_join_drop, q_join_name, q_join_shift, q_join_turn, q_join_part, q_n_i, q_n_s, q_i_n, q_i_s, q_s_n, q_s_i] at hn ⊢
      | a :: b :: c :: d :: e :: r, hn => rfl
    rw [hs]
    simp [f__law_is_step, fnF, b__law_is_step, ite_ap, mbind, mlift, mret, fVar, vVar, fC, fOp, fUn, fNil, fCons, fFn, fTst, tst, fAndT, fOrT, fNotT, fAnd, fOr, fIf, fChain, fCall, callM, fRE, fRV, fR0, lend, fCallO, callO, fCallQ, callQ, sNext, sBrk, sCnt, sSeq, sE, sSet, sOwn, sRet, sRetF, sRetO, sRetN, sDrop, sIf, sSetQ, sRetQ, sMatch, cNone, cAny, cSeq, put, putO, start0, R.lent, R.d, fIts, fFnI, fPair, fUnit, sFrz, fD0, fDisp, fPairs, fSl, fNo, fPart, intOf, fJoin, strOf, List.getElem?_cons_zero, List.getElem?_cons_succ, List.set_cons_zero, List.set_cons_succ, List.map_cons, List.map_nil, List.length_cons, List.length_nil, List.cons_append, List.nil_append, List.replicate, Option.map_some, Option.map_none, Option.bind_some, Option.bind_none, if_true, Bool.not_true, Bool.not_false, Bool.false_eq_true, if_false, Nat.reduceAdd, Nat.reduceSub, eq_self_iff_true, Nat.zero_add, lst7, hin, hk, hlk, lenL, gNe_int, bne, hn2]
theorem ls_join {ps : List D} (B : Bk) (hp : ∀ d ∈ ps, partD d) : f__law_is_step [⟨.shr, .str "join"⟩, ⟨.shr, .lst ps⟩] B = some (.ok ⟨.shr, .bl (stepD "join" ps)⟩, B) := by
  have hk := kd "join" "nnns" B (gsl _ (by decide +kernel)) (by decide +kernel)
  have hin := inW "join"
  have hlk : gLen [.str "nnns"] = some (.int 4) := lenStr (n := 4) (by decide +kernel)
  have en_n : ∀ y : Str, GS y → gEq (.str "n") (.str y) = some (.bl ("n" == y)) := fun y hy => gEq_str (gsl _ (by decide +kernel)) hy
  have nn_n : ∀ y : Str, GS y → gNe (.str "n") (.str y) = some (.bl ("n" != y)) := fun y hy => gNe_str (gsl _ (by decide +kernel)) hy
  have en_s : ∀ y : Str, GS y → gEq (.str "s") (.str y) = some (.bl ("s" == y)) := fun y hy => gEq_str (gsl _ (by decide +kernel)) hy
  have nn_s : ∀ y : Str, GS y → gNe (.str "s") (.str y) = some (.bl ("s" != y)) := fun y hy => gNe_str (gsl _ (by decide +kernel)) hy
  have gn : GS "n" := gsl _ (by decide +kernel)
  have gs : GS "s" := gsl _ (by decide +kernel)
  have x0 : gIx (.str "nnns") (.int 0) = some (.str "n") := ixS (by decide +kernel)
  have x1 : gIx (.str "nnns") (.int 1) = some (.str "n") := ixS (by decide +kernel)
  have x2 : gIx (.str "nnns") (.int 2) = some (.str "n") := ixS (by decide +kernel)
  have x3 : gIx (.str "nnns") (.int 3) = some (.str "s") := ixS (by decide +kernel)
  have ew : ∀ y : Str, GS y → gEq (.str "join") (.str y) = some (.bl ("join" == y)) := fun y hy => gEq_str (gsl _ (by decide +kernel)) hy
  have nw : ∀ y : Str, GS y → gNe (.str "join") (.str y) = some (.bl ("join" != y)) := fun y hy => gNe_str (gsl _ (by decide +kernel)) hy
  have gp : GS "part" := gsl _ (by decide +kernel)
  have gj : GS "join" := gsl _ (by decide +kernel)
  by_cases hn : ps.length = 4
  · obtain ⟨a, b, c, d, rfl⟩ : ∃ a b c d, ps = [a, b, c, d] := by
      match ps, hn with
      | [a, b, c, d], _ => exact ⟨_, _, _, _, rfl⟩
    have pa := hp a (by simp)
    have na := lnm_eq B pa
    have ia := lnr_eq B pa
    have ga : gIx (.lst [a, b, c, d]) (.int 0) = some a := ixL (j := 0) rfl
    have pb := hp b (by simp)
    have nb := lnm_eq B pb
    have ib := lnr_eq B pb
    have gb : gIx (.lst [a, b, c, d]) (.int 1) = some b := ixL (j := 1) rfl
    have pc := hp c (by simp)
    have nc := lnm_eq B pc
    have ic := lnr_eq B pc
    have gc : gIx (.lst [a, b, c, d]) (.int 2) = some c := ixL (j := 2) rfl
    have pd := hp d (by simp)
    have nd := lnm_eq B pd
    have id := lnr_eq B pd
    have gd : gIx (.lst [a, b, c, d]) (.int 3) = some d := ixL (j := 3) rfl
    have rr : gRng1 [.int 4] = some (rngD 0 4) := rg 4 (by omega)
    cases ha : nmD a with
    | false => simp [f__law_is_step, fnF, b__law_is_step, ite_ap, mbind, mlift, mret, fVar, vVar, fC, fOp, fUn, fNil, fCons, fFn, fTst, tst, fAndT, fOrT, fNotT, fAnd, fOr, fIf, fChain, fCall, callM, fRE, fRV, fR0, lend, fCallO, callO, fCallQ, callQ, sNext, sBrk, sCnt, sSeq, sE, sSet, sOwn, sRet, sRetF, sRetO, sRetN, sDrop, sIf, sSetQ, sRetQ, sMatch, cNone, cAny, cSeq, put, putO, start0, R.lent, R.d, fIts, fFnI, fPair, fUnit, sFrz, fD0, fDisp, fPairs, fSl, fNo, fPart, intOf, fJoin, strOf, List.getElem?_cons_zero, List.getElem?_cons_succ, List.set_cons_zero, List.set_cons_succ, List.map_cons, List.map_nil, List.length_cons, List.length_nil, List.cons_append, List.nil_append, List.replicate, Option.map_some, Option.map_none, Option.bind_some, Option.bind_none, if_true, Bool.not_true, Bool.not_false, Bool.false_eq_true, if_false, Nat.reduceAdd, Nat.reduceSub, eq_self_iff_true, Nat.zero_add, lst7, hin, hk, hlk, lenL, gNe_int, q_add_drop, q_add_name, q_add_shift, q_add_turn, q_add_part, q_add_join, q_drop_add, q_drop_name, q_drop_shift, q_drop_turn, q_drop_part, q_drop_join, q_name_add, q_name_drop, q_name_shift, q_name_turn, q_name_part, q_name_join, q_shift_add, q_shift_drop, q_shift_name, q_shift_turn, q_shift_part, q_shift_join, q_turn_add, q_turn_drop, q_turn_name, q_turn_shift, q_turn_part, q_turn_join, q_part_add, q_part_drop, q_part_name, q_part_shift, q_part_turn, q_part_join, q_join_add, q_join_drop, q_join_name, q_join_shift, q_join_turn, q_join_part, q_n_i, q_n_s, q_i_n, q_i_s, q_s_n, q_s_i, stepD, ew _ gp, nw _ gj, bne, rg, r4, sFor, forGo, x0, x1, x2, x3, en_n _ gn, nn_n _ gn, en_n _ gs, en_s _ gn, nn_s _ gn, en_s _ gs, ga, na, ia, gb, nb, ib, gc, nc, ic, gd, nd, id, rr, ndec, ha, twoD]
    | true =>
      cases hb : nmD b with
      | false => simp [f__law_is_step, fnF, b__law_is_step, ite_ap, mbind, mlift, mret, fVar, vVar, fC, fOp, fUn, fNil, fCons, fFn, fTst, tst, fAndT, fOrT, fNotT, fAnd, fOr, fIf, fChain, fCall, callM, fRE, fRV, fR0, lend, fCallO, callO, fCallQ, callQ, sNext, sBrk, sCnt, sSeq, sE, sSet, sOwn, sRet, sRetF, sRetO, sRetN, sDrop, sIf, sSetQ, sRetQ, sMatch, cNone, cAny, cSeq, put, putO, start0, R.lent, R.d, fIts, fFnI, fPair, fUnit, sFrz, fD0, fDisp, fPairs, fSl, fNo, fPart, intOf, fJoin, strOf, List.getElem?_cons_zero, List.getElem?_cons_succ, List.set_cons_zero, List.set_cons_succ, List.map_cons, List.map_nil, List.length_cons, List.length_nil, List.cons_append, List.nil_append, List.replicate, Option.map_some, Option.map_none, Option.bind_some, Option.bind_none, if_true, Bool.not_true, Bool.not_false, Bool.false_eq_true, if_false, Nat.reduceAdd, Nat.reduceSub, eq_self_iff_true, Nat.zero_add, lst7, hin, hk, hlk, lenL, gNe_int, q_add_drop, q_add_name, q_add_shift, q_add_turn, q_add_part, q_add_join, q_drop_add, q_drop_name, q_drop_shift, q_drop_turn, q_drop_part, q_drop_join, q_name_add, q_name_drop, q_name_shift, q_name_turn, q_name_part, q_name_join, q_shift_add, q_shift_drop, q_shift_name, q_shift_turn, q_shift_part, q_shift_join, q_turn_add, q_turn_drop, q_turn_name, q_turn_shift, q_turn_part, q_turn_join, q_part_add, q_part_drop, q_part_name, q_part_shift, q_part_turn, q_part_join, q_join_add, q_join_drop, q_join_name, q_join_shift, q_join_turn, q_join_part, q_n_i, q_n_s, q_i_n, q_i_s, q_s_n, q_s_i, stepD, ew _ gp, nw _ gj, bne, rg, r4, sFor, forGo, x0, x1, x2, x3, en_n _ gn, nn_n _ gn, en_n _ gs, en_s _ gn, nn_s _ gn, en_s _ gs, ga, na, ia, gb, nb, ib, gc, nc, ic, gd, nd, id, rr, ndec, ha, hb, twoD]
      | true =>
        cases hc : nmD c with
        | false => simp [f__law_is_step, fnF, b__law_is_step, ite_ap, mbind, mlift, mret, fVar, vVar, fC, fOp, fUn, fNil, fCons, fFn, fTst, tst, fAndT, fOrT, fNotT, fAnd, fOr, fIf, fChain, fCall, callM, fRE, fRV, fR0, lend, fCallO, callO, fCallQ, callQ, sNext, sBrk, sCnt, sSeq, sE, sSet, sOwn, sRet, sRetF, sRetO, sRetN, sDrop, sIf, sSetQ, sRetQ, sMatch, cNone, cAny, cSeq, put, putO, start0, R.lent, R.d, fIts, fFnI, fPair, fUnit, sFrz, fD0, fDisp, fPairs, fSl, fNo, fPart, intOf, fJoin, strOf, List.getElem?_cons_zero, List.getElem?_cons_succ, List.set_cons_zero, List.set_cons_succ, List.map_cons, List.map_nil, List.length_cons, List.length_nil, List.cons_append, List.nil_append, List.replicate, Option.map_some, Option.map_none, Option.bind_some, Option.bind_none, if_true, Bool.not_true, Bool.not_false, Bool.false_eq_true, if_false, Nat.reduceAdd, Nat.reduceSub, eq_self_iff_true, Nat.zero_add, lst7, hin, hk, hlk, lenL, gNe_int, q_add_drop, q_add_name, q_add_shift, q_add_turn, q_add_part, q_add_join, q_drop_add, q_drop_name, q_drop_shift, q_drop_turn, q_drop_part, q_drop_join, q_name_add, q_name_drop, q_name_shift, q_name_turn, q_name_part, q_name_join, q_shift_add, q_shift_drop, q_shift_name, q_shift_turn, q_shift_part, q_shift_join, q_turn_add, q_turn_drop, q_turn_name, q_turn_shift, q_turn_part, q_turn_join, q_part_add, q_part_drop, q_part_name, q_part_shift, q_part_turn, q_part_join, q_join_add, q_join_drop, q_join_name, q_join_shift, q_join_turn, q_join_part, q_n_i, q_n_s, q_i_n, q_i_s, q_s_n, q_s_i, stepD, ew _ gp, nw _ gj, bne, rg, r4, sFor, forGo, x0, x1, x2, x3, en_n _ gn, nn_n _ gn, en_n _ gs, en_s _ gn, nn_s _ gn, en_s _ gs, ga, na, ia, gb, nb, ib, gc, nc, ic, gd, nd, id, rr, ndec, ha, hb, hc, twoD]
        | true =>
          cases hd : nrD d with
          | false => simp [f__law_is_step, fnF, b__law_is_step, ite_ap, mbind, mlift, mret, fVar, vVar, fC, fOp, fUn, fNil, fCons, fFn, fTst, tst, fAndT, fOrT, fNotT, fAnd, fOr, fIf, fChain, fCall, callM, fRE, fRV, fR0, lend, fCallO, callO, fCallQ, callQ, sNext, sBrk, sCnt, sSeq, sE, sSet, sOwn, sRet, sRetF, sRetO, sRetN, sDrop, sIf, sSetQ, sRetQ, sMatch, cNone, cAny, cSeq, put, putO, start0, R.lent, R.d, fIts, fFnI, fPair, fUnit, sFrz, fD0, fDisp, fPairs, fSl, fNo, fPart, intOf, fJoin, strOf, List.getElem?_cons_zero, List.getElem?_cons_succ, List.set_cons_zero, List.set_cons_succ, List.map_cons, List.map_nil, List.length_cons, List.length_nil, List.cons_append, List.nil_append, List.replicate, Option.map_some, Option.map_none, Option.bind_some, Option.bind_none, if_true, Bool.not_true, Bool.not_false, Bool.false_eq_true, if_false, Nat.reduceAdd, Nat.reduceSub, eq_self_iff_true, Nat.zero_add, lst7, hin, hk, hlk, lenL, gNe_int, q_add_drop, q_add_name, q_add_shift, q_add_turn, q_add_part, q_add_join, q_drop_add, q_drop_name, q_drop_shift, q_drop_turn, q_drop_part, q_drop_join, q_name_add, q_name_drop, q_name_shift, q_name_turn, q_name_part, q_name_join, q_shift_add, q_shift_drop, q_shift_name, q_shift_turn, q_shift_part, q_shift_join, q_turn_add, q_turn_drop, q_turn_name, q_turn_shift, q_turn_part, q_turn_join, q_part_add, q_part_drop, q_part_name, q_part_shift, q_part_turn, q_part_join, q_join_add, q_join_drop, q_join_name, q_join_shift, q_join_turn, q_join_part, q_n_i, q_n_s, q_i_n, q_i_s, q_s_n, q_s_i, stepD, ew _ gp, nw _ gj, bne, rg, r4, sFor, forGo, x0, x1, x2, x3, en_n _ gn, nn_n _ gn, en_n _ gs, en_s _ gn, nn_s _ gn, en_s _ gs, ga, na, ia, gb, nb, ib, gc, nc, ic, gd, nd, id, rr, ndec, ha, hb, hc, hd, twoD, szF hd]
          | true =>
            obtain ⟨i, rfl⟩ := szLe hd
            obtain ⟨xa, rfl⟩ := nmSt ha
            obtain ⟨xb, rfl⟩ := nmSt hb
            obtain ⟨xc, rfl⟩ := nmSt hc
            have nab := gNe_str (pa.2 _ rfl) (pb.2 _ rfl)
            have nbc := gNe_str (pb.2 _ rfl) (pc.2 _ rfl)
            by_cases h1 : 2 ≤ i
            · by_cases h2 : i ≤ 1000000
              · simp [f__law_is_step, fnF, b__law_is_step, ite_ap, mbind, mlift, mret, fVar, vVar, fC, fOp, fUn, fNil, fCons, fFn, fTst, tst, fAndT, fOrT, fNotT, fAnd, fOr, fIf, fChain, fCall, callM, fRE, fRV, fR0, lend, fCallO, callO, fCallQ, callQ, sNext, sBrk, sCnt, sSeq, sE, sSet, sOwn, sRet, sRetF, sRetO, sRetN, sDrop, sIf, sSetQ, sRetQ, sMatch, cNone, cAny, cSeq, put, putO, start0, R.lent, R.d, fIts, fFnI, fPair, fUnit, sFrz, fD0, fDisp, fPairs, fSl, fNo, fPart, intOf, fJoin, strOf, List.getElem?_cons_zero, List.getElem?_cons_succ, List.set_cons_zero, List.set_cons_succ, List.map_cons, List.map_nil, List.length_cons, List.length_nil, List.cons_append, List.nil_append, List.replicate, Option.map_some, Option.map_none, Option.bind_some, Option.bind_none, if_true, Bool.not_true, Bool.not_false, Bool.false_eq_true, if_false, Nat.reduceAdd, Nat.reduceSub, eq_self_iff_true, Nat.zero_add, lst7, hin, hk, hlk, lenL, gNe_int, q_add_drop, q_add_name, q_add_shift, q_add_turn, q_add_part, q_add_join, q_drop_add, q_drop_name, q_drop_shift, q_drop_turn, q_drop_part, q_drop_join, q_name_add, q_name_drop, q_name_shift, q_name_turn, q_name_part, q_name_join, q_shift_add, q_shift_drop, q_shift_name, q_shift_turn, q_shift_part, q_shift_join, q_turn_add, q_turn_drop, q_turn_name, q_turn_shift, q_turn_part, q_turn_join, q_part_add, q_part_drop, q_part_name, q_part_shift, q_part_turn, q_part_join, q_join_add, q_join_drop, q_join_name, q_join_shift, q_join_turn, q_join_part, q_n_i, q_n_s, q_i_n, q_i_s, q_s_n, q_s_i, stepD, ew _ gp, nw _ gj, bne, rg, r4, sFor, forGo, x0, x1, x2, x3, en_n _ gn, nn_n _ gn, en_n _ gs, en_s _ gn, nn_s _ gn, en_s _ gs, ga, na, ia, gb, nb, ib, gc, nc, ic, gd, nd, id, rr, ndec, ha, hb, hc, hd, twoD, szD, h1, h2, nab, nbc, neD]
              · simp [f__law_is_step, fnF, b__law_is_step, ite_ap, mbind, mlift, mret, fVar, vVar, fC, fOp, fUn, fNil, fCons, fFn, fTst, tst, fAndT, fOrT, fNotT, fAnd, fOr, fIf, fChain, fCall, callM, fRE, fRV, fR0, lend, fCallO, callO, fCallQ, callQ, sNext, sBrk, sCnt, sSeq, sE, sSet, sOwn, sRet, sRetF, sRetO, sRetN, sDrop, sIf, sSetQ, sRetQ, sMatch, cNone, cAny, cSeq, put, putO, start0, R.lent, R.d, fIts, fFnI, fPair, fUnit, sFrz, fD0, fDisp, fPairs, fSl, fNo, fPart, intOf, fJoin, strOf, List.getElem?_cons_zero, List.getElem?_cons_succ, List.set_cons_zero, List.set_cons_succ, List.map_cons, List.map_nil, List.length_cons, List.length_nil, List.cons_append, List.nil_append, List.replicate, Option.map_some, Option.map_none, Option.bind_some, Option.bind_none, if_true, Bool.not_true, Bool.not_false, Bool.false_eq_true, if_false, Nat.reduceAdd, Nat.reduceSub, eq_self_iff_true, Nat.zero_add, lst7, hin, hk, hlk, lenL, gNe_int, q_add_drop, q_add_name, q_add_shift, q_add_turn, q_add_part, q_add_join, q_drop_add, q_drop_name, q_drop_shift, q_drop_turn, q_drop_part, q_drop_join, q_name_add, q_name_drop, q_name_shift, q_name_turn, q_name_part, q_name_join, q_shift_add, q_shift_drop, q_shift_name, q_shift_turn, q_shift_part, q_shift_join, q_turn_add, q_turn_drop, q_turn_name, q_turn_shift, q_turn_part, q_turn_join, q_part_add, q_part_drop, q_part_name, q_part_shift, q_part_turn, q_part_join, q_join_add, q_join_drop, q_join_name, q_join_shift, q_join_turn, q_join_part, q_n_i, q_n_s, q_i_n, q_i_s, q_s_n, q_s_i, stepD, ew _ gp, nw _ gj, bne, rg, r4, sFor, forGo, x0, x1, x2, x3, en_n _ gn, nn_n _ gn, en_n _ gs, en_s _ gn, nn_s _ gn, en_s _ gs, ga, na, ia, gb, nb, ib, gc, nc, ic, gd, nd, id, rr, ndec, ha, hb, hc, hd, twoD, szD, h1, h2, nab, nbc, neD]
            · simp [f__law_is_step, fnF, b__law_is_step, ite_ap, mbind, mlift, mret, fVar, vVar, fC, fOp, fUn, fNil, fCons, fFn, fTst, tst, fAndT, fOrT, fNotT, fAnd, fOr, fIf, fChain, fCall, callM, fRE, fRV, fR0, lend, fCallO, callO, fCallQ, callQ, sNext, sBrk, sCnt, sSeq, sE, sSet, sOwn, sRet, sRetF, sRetO, sRetN, sDrop, sIf, sSetQ, sRetQ, sMatch, cNone, cAny, cSeq, put, putO, start0, R.lent, R.d, fIts, fFnI, fPair, fUnit, sFrz, fD0, fDisp, fPairs, fSl, fNo, fPart, intOf, fJoin, strOf, List.getElem?_cons_zero, List.getElem?_cons_succ, List.set_cons_zero, List.set_cons_succ, List.map_cons, List.map_nil, List.length_cons, List.length_nil, List.cons_append, List.nil_append, List.replicate, Option.map_some, Option.map_none, Option.bind_some, Option.bind_none, if_true, Bool.not_true, Bool.not_false, Bool.false_eq_true, if_false, Nat.reduceAdd, Nat.reduceSub, eq_self_iff_true, Nat.zero_add, lst7, hin, hk, hlk, lenL, gNe_int, q_add_drop, q_add_name, q_add_shift, q_add_turn, q_add_part, q_add_join, q_drop_add, q_drop_name, q_drop_shift, q_drop_turn, q_drop_part, q_drop_join, q_name_add, q_name_drop, q_name_shift, q_name_turn, q_name_part, q_name_join, q_shift_add, q_shift_drop, q_shift_name, q_shift_turn, q_shift_part, q_shift_join, q_turn_add, q_turn_drop, q_turn_name, q_turn_shift, q_turn_part, q_turn_join, q_part_add, q_part_drop, q_part_name, q_part_shift, q_part_turn, q_part_join, q_join_add, q_join_drop, q_join_name, q_join_shift, q_join_turn, q_join_part, q_n_i, q_n_s, q_i_n, q_i_s, q_s_n, q_s_i, stepD, ew _ gp, nw _ gj, bne, rg, r4, sFor, forGo, x0, x1, x2, x3, en_n _ gn, nn_n _ gn, en_n _ gs, en_s _ gn, nn_s _ gn, en_s _ gs, ga, na, ia, gb, nb, ib, gc, nc, ic, gd, nd, id, rr, ndec, ha, hb, hc, hd, twoD, szD, h1, nab, nbc, neD]
  · have hn2 : ((ps.length : Int) == 4) = false := by simp; omega
    have hs : stepD "join" ps = false := by
      match ps, hn with
      | [], _ => rfl
      | [a], hn => simp [stepD, q_add_drop, q_add_name, q_add_shift, q_add_turn, q_add_part, q_add_join, q_drop_add, q_drop_name, q_drop_shift, q_drop_turn, q_drop_part, q_drop_join, q_name_add, q_name_drop, q_name_shift, q_name_turn, q_name_part, q_name_join, q_shift_add, q_shift_drop, q_shift_name, q_shift_turn, q_shift_part, q_shift_join, q_turn_add, q_turn_drop, q_turn_name, q_turn_shift, q_turn_part, q_turn_join, q_part_add, q_part_drop, q_part_name, q_part_shift, q_part_turn, q_part_join, q_join_add, q_join_drop, q_join_name, q_join_shift, q_join_turn, q_join_part, q_n_i, q_n_s, q_i_n, q_i_s, q_s_n, q_s_i] at hn ⊢
      | [a, b], hn => simp [stepD, q_add_drop, q_add_name, q_add_shift, q_add_turn, q_add_part, q_add_join, q_drop_add, q_drop_name, q_drop_shift, q_drop_turn, q_drop_part, q_drop_join, q_name_add, q_name_drop, q_name_shift, q_name_turn, q_name_part, q_name_join, q_shift_add, q_shift_drop, q_shift_name, q_shift_turn, q_shift_part, q_shift_join, q_turn_add, q_turn_drop, q_turn_name, q_turn_shift, q_turn_part, q_turn_join, q_part_add, q_part_drop, q_part_name, q_part_shift, q_part_turn, q_part_join, q_join_add, q_join_drop, q_join_name, q_join_shift, q_join_turn, q_join_part, q_n_i, q_n_s, q_i_n, q_i_s, q_s_n, q_s_i] at hn ⊢
      | [a, b, c], hn => rfl
      | [a, b, c, d], hn => simp [stepD, q_add_drop, q_add_name, q_add_shift, q_add_turn, q_add_part, q_add_join, q_drop_add, q_drop_name, q_drop_shift, q_drop_turn, q_drop_part, q_drop_join, q_name_add, q_name_drop, q_name_shift, q_name_turn, q_name_part, q_name_join, q_shift_add, q_shift_drop, q_shift_name, q_shift_turn, q_shift_part, q_shift_join, q_turn_add, q_turn_drop, q_turn_name, q_turn_shift, q_turn_part, q_turn_join, q_part_add, q_part_drop, q_part_name, q_part_shift, q_part_turn, q_part_join, q_join_add, q_join_drop, q_join_name, q_join_shift, q_join_turn, q_join_part, q_n_i, q_n_s, q_i_n, q_i_s, q_s_n, q_s_i] at hn ⊢
      | a :: b :: c :: d :: e :: r, hn => rfl
    rw [hs]
    simp [f__law_is_step, fnF, b__law_is_step, ite_ap, mbind, mlift, mret, fVar, vVar, fC, fOp, fUn, fNil, fCons, fFn, fTst, tst, fAndT, fOrT, fNotT, fAnd, fOr, fIf, fChain, fCall, callM, fRE, fRV, fR0, lend, fCallO, callO, fCallQ, callQ, sNext, sBrk, sCnt, sSeq, sE, sSet, sOwn, sRet, sRetF, sRetO, sRetN, sDrop, sIf, sSetQ, sRetQ, sMatch, cNone, cAny, cSeq, put, putO, start0, R.lent, R.d, fIts, fFnI, fPair, fUnit, sFrz, fD0, fDisp, fPairs, fSl, fNo, fPart, intOf, fJoin, strOf, List.getElem?_cons_zero, List.getElem?_cons_succ, List.set_cons_zero, List.set_cons_succ, List.map_cons, List.map_nil, List.length_cons, List.length_nil, List.cons_append, List.nil_append, List.replicate, Option.map_some, Option.map_none, Option.bind_some, Option.bind_none, if_true, Bool.not_true, Bool.not_false, Bool.false_eq_true, if_false, Nat.reduceAdd, Nat.reduceSub, eq_self_iff_true, Nat.zero_add, lst7, hin, hk, hlk, lenL, gNe_int, bne, hn2]
end K01

namespace K01
open PySem Fmx
/-! the drawn things -/
def cell (ns : List Int) (k : Nat) : Int := ns[k]?.getD 0
theorem cell_eq (ns : List Int) (k : Nat) (B : Bk) : f__law_cell_at [⟨.shr, .scr ns⟩, ⟨.shr, .int (k : Int)⟩] B = some (.ok ⟨.shr, .int (cell ns k)⟩, B) := by
  have e1 : gLen [.scr ns] = some (.int ns.length) := rfl
  by_cases h : k < ns.length
  · have e2 : gIx (.scr ns) (.int (k : Int)) = some (.int ns[k]) := by
      show (L2.atI ns (k : Int)).map D.int = _
      rw [L2.atI_nat (List.getElem?_eq_getElem h)]; rfl
    have e3 : decide ((k : Int) < (ns.length : Int)) = true := decide_eq_true (by omega)
    simp [f__law_cell_at, fnF, b__law_cell_at, ite_ap, mbind, mlift, mret, fVar, vVar, fC, fOp, fUn, fNil, fCons, fFn, fTst, tst, fAndT, fOrT, fNotT, fAnd, fOr, fIf, fChain, fCall, callM, fRE, fRV, fR0, lend, fCallO, callO, fCallQ, callQ, sNext, sBrk, sCnt, sSeq, sE, sSet, sOwn, sRet, sRetF, sRetO, sRetN, sDrop, sIf, sSetQ, sRetQ, sMatch, cNone, cAny, cSeq, put, putO, start0, R.lent, R.d, fIts, fFnI, fPair, fUnit, sFrz, fD0, fDisp, fPairs, fSl, fNo, fPart, intOf, fJoin, strOf, List.getElem?_cons_zero, List.getElem?_cons_succ, List.set_cons_zero, List.set_cons_succ, List.map_cons, List.map_nil, List.length_cons, List.length_nil, List.cons_append, List.nil_append, List.replicate, Option.map_some, Option.map_none, Option.bind_some, Option.bind_none, if_true, Bool.not_true, Bool.not_false, Bool.false_eq_true, if_false, Nat.reduceAdd, Nat.reduceSub, eq_self_iff_true, Nat.zero_add, e1, gLt_c, e2, cell, List.getElem?_eq_getElem h, h]
  · have e3 : decide ((k : Int) < (ns.length : Int)) = false := decide_eq_false (by omega)
    have e4 : ns[k]? = none := List.getElem?_eq_none (by omega)
    simp [f__law_cell_at, fnF, b__law_cell_at, ite_ap, mbind, mlift, mret, fVar, vVar, fC, fOp, fUn, fNil, fCons, fFn, fTst, tst, fAndT, fOrT, fNotT, fAnd, fOr, fIf, fChain, fCall, callM, fRE, fRV, fR0, lend, fCallO, callO, fCallQ, callQ, sNext, sBrk, sCnt, sSeq, sE, sSet, sOwn, sRet, sRetF, sRetO, sRetN, sDrop, sIf, sSetQ, sRetQ, sMatch, cNone, cAny, cSeq, put, putO, start0, R.lent, R.d, fIts, fFnI, fPair, fUnit, sFrz, fD0, fDisp, fPairs, fSl, fNo, fPart, intOf, fJoin, strOf, List.getElem?_cons_zero, List.getElem?_cons_succ, List.set_cons_zero, List.set_cons_succ, List.map_cons, List.map_nil, List.length_cons, List.length_nil, List.cons_append, List.nil_append, List.replicate, Option.map_some, Option.map_none, Option.bind_some, Option.bind_none, if_true, Bool.not_true, Bool.not_false, Bool.false_eq_true, if_false, Nat.reduceAdd, Nat.reduceSub, eq_self_iff_true, Nat.zero_add, e1, gLt_c, cell, e4, h]
theorem pow60 : ∃ P : Int, 0 < P ∧ gPow (.int 10) (.int 60) = some (.int P) := ⟨10 ^ 60, by omega, gPow_c 10 60 (by omega) (by decide)⟩
theorem number_eq (c : Int) (B : Bk) : ∃ i, f__law_number_by [⟨.shr, .int c⟩] B = some (.ok ⟨.shr, .int i⟩, B) := by
  have m4 : gMod (.int c) (.int 4) = some (.int (c % 4)) := gMod_c _ _ (by omega)
  have d4 : gDiv (.int c) (.int 4) = some (.int (c / 4)) := gDiv_c _ _ (by omega)
  have m5 : ∀ x, gMod (.int x) (.int 5) = some (.int (x % 5)) := fun x => gMod_c _ _ (by omega)
  have m2 : ∀ x, gMod (.int x) (.int 2) = some (.int (x % 2)) := fun x => gMod_c _ _ (by omega)
  have m9 : ∀ x, gMod (.int x) (.int 999999) = some (.int (x % 999999)) := fun x => gMod_c _ _ (by omega)
  obtain ⟨P, hP, p60⟩ := pow60
  have mp : gMod (.int c) (.int P) = some (.int (c % P)) := gMod_c _ _ hP
  have l5 : Fmx.gLst [.int 2, .int 1, .int 1000000, .int 1000001, .int 999999] = some (.lst [.int 2, .int 1, .int 1000000, .int 1000001, .int 999999]) := rfl
  have l2 : Fmx.gLst [.int 1, .int (-1)] = some (.lst [.int 1, .int (-1)]) := rfl
  have ng : gNeg (.int 1) = some (.int (-1)) := rfl
  obtain ⟨d5, hd5, x5⟩ := ixLst (xs := [.int 2, .int 1, .int 1000000, .int 1000001, .int 999999]) (i := c / 4 % 5) (by omega) (by show _ < (5 : Int); omega)
  obtain ⟨d2, hd2, x2⟩ := ixLst (xs := [.int 1, .int (-1)]) (i := c / 4 % 2) (by omega) (by show _ < (2 : Int); omega)
  obtain ⟨i5, rfl⟩ : ∃ i, d5 = .int i := by simp at hd5; rcases hd5 with h | h | h | h | h <;> exact ⟨_, h⟩
  obtain ⟨i2, rfl, h2⟩ : ∃ i : Int, d2 = .int i ∧ (i = 1 ∨ i = -1) := by simp at hd2; exact hd2.elim (fun h => ⟨_, h, .inl rfl⟩) fun h => ⟨_, h, .inr rfl⟩
  have mu : gMul (.int (c % P)) (.int i2) = some (.int (c % P * i2)) := gMul_r _ _ (by rcases h2 with h | h <;> rw [h] <;> omega)
  by_cases k0 : c % 4 = 0
  · exact ⟨c / 4 % 5, by simp [f__law_number_by, fnF, b__law_number_by, ite_ap, mbind, mlift, mret, fVar, vVar, fC, fOp, fUn, fNil, fCons, fFn, fTst, tst, fAndT, fOrT, fNotT, fAnd, fOr, fIf, fChain, fCall, callM, fRE, fRV, fR0, lend, fCallO, callO, fCallQ, callQ, sNext, sBrk, sCnt, sSeq, sE, sSet, sOwn, sRet, sRetF, sRetO, sRetN, sDrop, sIf, sSetQ, sRetQ, sMatch, cNone, cAny, cSeq, put, putO, start0, R.lent, R.d, fIts, fFnI, fPair, fUnit, sFrz, fD0, fDisp, fPairs, fSl, fNo, fPart, intOf, fJoin, strOf, List.getElem?_cons_zero, List.getElem?_cons_succ, List.set_cons_zero, List.set_cons_succ, List.map_cons, List.map_nil, List.length_cons, List.length_nil, List.cons_append, List.nil_append, List.replicate, Option.map_some, Option.map_none, Option.bind_some, Option.bind_none, if_true, Bool.not_true, Bool.not_false, Bool.false_eq_true, if_false, Nat.reduceAdd, Nat.reduceSub, eq_self_iff_true, Nat.zero_add, m4, d4, m5, gEq_int, k0]⟩
  · by_cases k1 : c % 4 = 1
    · exact ⟨i5, by simp [f__law_number_by, fnF, b__law_number_by, ite_ap, mbind, mlift, mret, fVar, vVar, fC, fOp, fUn, fNil, fCons, fFn, fTst, tst, fAndT, fOrT, fNotT, fAnd, fOr, fIf, fChain, fCall, callM, fRE, fRV, fR0, lend, fCallO, callO, fCallQ, callQ, sNext, sBrk, sCnt, sSeq, sE, sSet, sOwn, sRet, sRetF, sRetO, sRetN, sDrop, sIf, sSetQ, sRetQ, sMatch, cNone, cAny, cSeq, put, putO, start0, R.lent, R.d, fIts, fFnI, fPair, fUnit, sFrz, fD0, fDisp, fPairs, fSl, fNo, fPart, intOf, fJoin, strOf, List.getElem?_cons_zero, List.getElem?_cons_succ, List.set_cons_zero, List.set_cons_succ, List.map_cons, List.map_nil, List.length_cons, List.length_nil, List.cons_append, List.nil_append, List.replicate, Option.map_some, Option.map_none, Option.bind_some, Option.bind_none, if_true, Bool.not_true, Bool.not_false, Bool.false_eq_true, if_false, Nat.reduceAdd, Nat.reduceSub, eq_self_iff_true, Nat.zero_add, m4, d4, m5, gEq_int, k1, l5, x5]⟩
    · by_cases k2 : c % 4 = 2
      · exact ⟨2 + c / 4 % 999999, by simp [f__law_number_by, fnF, b__law_number_by, ite_ap, mbind, mlift, mret, fVar, vVar, fC, fOp, fUn, fNil, fCons, fFn, fTst, tst, fAndT, fOrT, fNotT, fAnd, fOr, fIf, fChain, fCall, callM, fRE, fRV, fR0, lend, fCallO, callO, fCallQ, callQ, sNext, sBrk, sCnt, sSeq, sE, sSet, sOwn, sRet, sRetF, sRetO, sRetN, sDrop, sIf, sSetQ, sRetQ, sMatch, cNone, cAny, cSeq, put, putO, start0, R.lent, R.d, fIts, fFnI, fPair, fUnit, sFrz, fD0, fDisp, fPairs, fSl, fNo, fPart, intOf, fJoin, strOf, List.getElem?_cons_zero, List.getElem?_cons_succ, List.set_cons_zero, List.set_cons_succ, List.map_cons, List.map_nil, List.length_cons, List.length_nil, List.cons_append, List.nil_append, List.replicate, Option.map_some, Option.map_none, Option.bind_some, Option.bind_none, if_true, Bool.not_true, Bool.not_false, Bool.false_eq_true, if_false, Nat.reduceAdd, Nat.reduceSub, eq_self_iff_true, Nat.zero_add, m4, d4, m9, gEq_int, k2, gAdd_c]⟩
      · have k2' : (c % 4 == 2) = false := by simpa using k2
        exact ⟨c % P * i2, by simp [f__law_number_by, fnF, b__law_number_by, ite_ap, mbind, mlift, mret, fVar, vVar, fC, fOp, fUn, fNil, fCons, fFn, fTst, tst, fAndT, fOrT, fNotT, fAnd, fOr, fIf, fChain, fCall, callM, fRE, fRV, fR0, lend, fCallO, callO, fCallQ, callQ, sNext, sBrk, sCnt, sSeq, sE, sSet, sOwn, sRet, sRetF, sRetO, sRetN, sDrop, sIf, sSetQ, sRetQ, sMatch, cNone, cAny, cSeq, put, putO, start0, R.lent, R.d, fIts, fFnI, fPair, fUnit, sFrz, fD0, fDisp, fPairs, fSl, fNo, fPart, intOf, fJoin, strOf, List.getElem?_cons_zero, List.getElem?_cons_succ, List.set_cons_zero, List.set_cons_succ, List.map_cons, List.map_nil, List.length_cons, List.length_nil, List.cons_append, List.nil_append, List.replicate, Option.map_some, Option.map_none, Option.bind_some, Option.bind_none, if_true, Bool.not_true, Bool.not_false, Bool.false_eq_true, if_false, Nat.reduceAdd, Nat.reduceSub, eq_self_iff_true, Nat.zero_add, m4, d4, m2, gEq_int, k0, k1, k2, p60, mp, ng, l2, x2, mu]⟩
def signs : Str := " !\"#$&'()*+,-./0123456789:;<=>?@ABCDEFGHIJKLMNOPQRSTUVWXYZ[\\]^_`" ++ "abcdefghijklmnopqrstuvwxyz{|}~\n"
theorem signs_ok : signs.length = 95 ∧ ∀ c ∈ signs.cps.toList, c < 1114112 := by decide +kernel
theorem signs_eq (B : Bk) : f__law_signs [] B = some (.ok ⟨.shr, .str signs⟩, B) := by
  have e : gAdd (.str " !\"#$&'()*+,-./0123456789:;<=>?@ABCDEFGHIJKLMNOPQRSTUVWXYZ[\\]^_`") (.str "abcdefghijklmnopqrstuvwxyz{|}~\n") = some (.str signs) := by
    have h : ((" !\"#$&'()*+,-./0123456789:;<=>?@ABCDEFGHIJKLMNOPQRSTUVWXYZ[\\]^_`" : Str)).length + (("abcdefghijklmnopqrstuvwxyz{|}~\n" : Str)).length ≤ sizeLine := by
      rw [sizeLine_eq]; decide +kernel
    show gOr (gI (fun _ _ => true) (· + ·)) (gOr gAddS (gOr gCatL gCatT)) _ _ = _
    unfold gOr
    simp only [gI, gAddS, h, if_true]
    rfl
  simp [f__law_signs, fnF, b__law_signs, ite_ap, mbind, mlift, mret, fVar, vVar, fC, fOp, fUn, fNil, fCons, fFn, fTst, tst, fAndT, fOrT, fNotT, fAnd, fOr, fIf, fChain, fCall, callM, fRE, fRV, fR0, lend, fCallO, callO, fCallQ, callQ, sNext, sBrk, sCnt, sSeq, sE, sSet, sOwn, sRet, sRetF, sRetO, sRetN, sDrop, sIf, sSetQ, sRetQ, sMatch, cNone, cAny, cSeq, put, putO, start0, R.lent, R.d, fIts, fFnI, fPair, fUnit, sFrz, fD0, fDisp, fPairs, fSl, fNo, fPart, intOf, fJoin, strOf, List.getElem?_cons_zero, List.getElem?_cons_succ, List.set_cons_zero, List.set_cons_succ, List.map_cons, List.map_nil, List.length_cons, List.length_nil, List.cons_append, List.nil_append, List.replicate, Option.map_some, Option.map_none, Option.bind_some, Option.bind_none, if_true, Bool.not_true, Bool.not_false, Bool.false_eq_true, if_false, Nat.reduceAdd, Nat.reduceSub, eq_self_iff_true, Nat.zero_add, e]
def chD (d : D) : Prop := ∃ c, c < 1114112 ∧ d = .str ⟨#[c]⟩
theorem chs_strs : ∀ {ds : List D}, (∀ d ∈ ds, chD d) → ∃ xs : List Str, ds = xs.map .str ∧ ∀ x ∈ xs, x.length = 1 ∧ ∀ c ∈ x.cps.toList, c < 1114112
  | [], _ => ⟨[], rfl, fun _ h => by cases h⟩
  | d :: r, h => by
    obtain ⟨c, hc, rfl⟩ := h d List.mem_cons_self
    obtain ⟨xs, rfl, hx⟩ := chs_strs (ds := r) fun x hx => h x (List.mem_cons_of_mem _ hx)
    refine ⟨⟨#[c]⟩ :: xs, rfl, fun x hx' => ?_⟩
    rcases List.mem_cons.mp hx' with rfl | hx'
    · exact ⟨rfl, fun d hd => by have : d = c := by simpa using hd
                                 rw [this]; exact hc⟩
    · exact hx x hx'
theorem join_chs {ds : List D} (h : ∀ d ∈ ds, chD d) (hl0 : ds.length ≤ 100000) : ∃ x, GS x ∧ gJoin "" [.lst ds] = some (.str x) := by
  obtain ⟨xs, rfl, hx⟩ := chs_strs h
  have hl : xs.length ≤ 100000 := by simpa using hl0
  have hs : (xs.map (·.length)).sum = xs.length := by
    clear h hl0 hl
    induction xs with
    | nil => rfl
    | cons x r ih => rw [List.map_cons, List.sum_cons, (hx x List.mem_cons_self).1, ih fun y hy => hx y (List.mem_cons_of_mem _ hy), List.length_cons]; omega
  have h0 : (("" : Str)).length = 0 := by decide +kernel
  refine ⟨Txt.join "" xs, ⟨?_, ?_⟩, ?_⟩
  · show (Txt.join "" xs).cps.size ≤ _
    rw [← Array.length_toList, join_empty]
    have : ((xs.map fun x => x.cps.toList).flatten).length = (xs.map (·.length)).sum := by
      rw [List.length_flatten, List.map_map]
      congr 1
    rw [this, hs]; omega
  · rw [join_empty]
    intro c hc
    obtain ⟨l, hl', hcl⟩ := List.mem_flatten.mp hc
    obtain ⟨x, hx', rfl⟩ := List.mem_map.mp hl'
    exact (hx x hx').2 c hcl
  · have : strsD (xs.map .str) = some xs := strsD_map xs
    simp only [gJoin, this, Option.bind_some, hs, h0]
    rw [if_pos (by omega)]
theorem signs_ex (B : Bk) : ∃ S : Str, S.length = 95 ∧ (∀ c ∈ S.cps.toList, c < 1114112) ∧ f__law_signs [] B = some (.ok ⟨.shr, .str S⟩, B) := ⟨signs, signs_ok.1, signs_ok.2, signs_eq B⟩
theorem text_eq (c d : Int) (B : Bk) : ∃ x, GS x ∧ f__law_text_by [⟨.shr, .int c⟩, ⟨.shr, .int d⟩] B = some (.ok ⟨.shr, .str x⟩, B) := by
  obtain ⟨S, hS, hSc, hsg⟩ := signs_ex B
  have sl : S.length ≤ sizeLine := by rw [sizeLine_eq, hS]; omega
  have m11 : gMod (.int c) (.int 11) = some (.int (c % 11)) := gMod_c _ _ (by omega)
  have d11 : gDiv (.int c) (.int 11) = some (.int (c / 11)) := gDiv_c _ _ (by omega)
  have d286 : gDiv (.int c) (.int 286) = some (.int (c / 286)) := gDiv_c _ _ (by omega)
  have m25 : ∀ x, gMod (.int x) (.int 25) = some (.int (x % 25)) := fun x => gMod_c _ _ (by omega)
  have m26 : ∀ x, gMod (.int x) (.int 26) = some (.int (x % 26)) := fun x => gMod_c _ _ (by omega)
  have m3 : ∀ x, gMod (.int x) (.int 3) = some (.int (x % 3)) := fun x => gMod_c _ _ (by omega)
  have d3 : ∀ x, gDiv (.int x) (.int 3) = some (.int (x / 3)) := fun x => gDiv_c _ _ (by omega)
  have hlen : gLen [.str S] = some (.int 95) := lenStr (n := 95) (by rw [hS]; decide)
  have rg1 : gRng1 [.int (c % 11)] = some (rngD 0 (c % 11).toNat) := gRng_c _ (by omega)
  obtain ⟨ys, hy, hyl, hyc⟩ := lc_ex (j := 5) (fi := fFnI gRng1 (fCons (vVar 3) fNil)) (fe := (fOp gIx (vVar 2) (fOp gAdd (fC (.int 64)) (fOp gMod (fOp gAdd (fOp gDiv (vVar 0) (fC (.int 11))) (fOp gMul (vVar 5) (fOp gAdd (fC (.int 1)) (fOp gMod (fOp gDiv (vVar 0) (fC (.int 286))) (fC (.int 25)))))) (fC (.int 26)))))) (ρ := [some ⟨.shr, .int c⟩, some ⟨.shr, .int d⟩, some ⟨.shr, .str S⟩, some ⟨.shr, .int (c % 11)⟩, none, none]) (B := B) (items := rngD 0 (c % 11).toNat) (fun _ y => chD y) (by simp only [ite_ap, mbind, mlift, mret, fVar, vVar, fC, fOp, fUn, fNil, fCons, fFn, fTst, tst, fAndT, fOrT, fNotT, fAnd, fOr, fIf, fChain, fCall, callM, fRE, fRV, fR0, lend, fCallO, callO, fCallQ, callQ, sNext, sBrk, sCnt, sSeq, sE, sSet, sOwn, sRet, sRetF, sRetO, sRetN, sDrop, sIf, sSetQ, sRetQ, sMatch, cNone, cAny, cSeq, put, putO, start0, R.lent, R.d, fIts, fFnI, fPair, fUnit, sFrz, fD0, fDisp, fPairs, fSl, fNo, fPart, intOf, fJoin, strOf, List.getElem?_cons_zero, List.getElem?_cons_succ, List.set_cons_zero, List.set_cons_succ, List.map_cons, List.map_nil, List.length_cons, List.length_nil, List.cons_append, List.nil_append, List.replicate, Option.map_some, Option.map_none, Option.bind_some, Option.bind_none, if_true, Bool.not_true, Bool.not_false, Bool.false_eq_true, if_false, Nat.reduceAdd, Nat.reduceSub, eq_self_iff_true, Nat.zero_add, rg1]) (by rw [rngD_len]; omega) (fun x hx => by
    obtain ⟨k, hk, rfl⟩ := rngD_mem hx
    have mu : ∀ j : Int, gMul (.int (k : Int)) (.int j) = some (.int (k * j)) := fun j => gMul_l _ _ (by omega)
    obtain ⟨ch, hch, hix⟩ := ixStr (x := S) (i := 64 + (c / 11 + k * (1 + c / 286 % 25)) % 26) (by omega) (by rw [hS]; omega) sl
    refine ⟨.str ⟨#[ch]⟩, ⟨ch, hSc ch hch, rfl⟩, ?_⟩
    simp only [ite_ap, mbind, mlift, mret, fVar, vVar, fC, fOp, fUn, fNil, fCons, fFn, fTst, tst, fAndT, fOrT, fNotT, fAnd, fOr, fIf, fChain, fCall, callM, fRE, fRV, fR0, lend, fCallO, callO, fCallQ, callQ, sNext, sBrk, sCnt, sSeq, sE, sSet, sOwn, sRet, sRetF, sRetO, sRetN, sDrop, sIf, sSetQ, sRetQ, sMatch, cNone, cAny, cSeq, put, putO, start0, R.lent, R.d, fIts, fFnI, fPair, fUnit, sFrz, fD0, fDisp, fPairs, fSl, fNo, fPart, intOf, fJoin, strOf, List.getElem?_cons_zero, List.getElem?_cons_succ, List.set_cons_zero, List.set_cons_succ, List.map_cons, List.map_nil, List.length_cons, List.length_nil, List.cons_append, List.nil_append, List.replicate, Option.map_some, Option.map_none, Option.bind_some, Option.bind_none, if_true, Bool.not_true, Bool.not_false, Bool.false_eq_true, if_false, Nat.reduceAdd, Nat.reduceSub, eq_self_iff_true, Nat.zero_add, d11, d286, m25, m26, mu, gAdd_c, hix])
  rw [rngD_len] at hyl
  have hyc : ∀ y ∈ ys, chD y := fun y hy => let ⟨_, _, h⟩ := hyc y hy; h
  have jn : ∀ zs : List D, (∀ d ∈ zs, chD d) → zs.length = ys.length → ∃ x, GS x ∧ gJoin "" [.lst zs] = some (.str x) := fun zs hz hl => join_chs hz (by omega)
  have gg : ∀ a b : Int, gGt (.int a) (.int b) = some (.bl (decide (b < a))) := fun _ _ => rfl
  by_cases h1 : 0 < c % 11
  · by_cases h2 : 0 < d % 3
    · have mz : ∀ x, gMod (.int x) (.int (c % 11)) = some (.int (x % (c % 11))) := fun x => gMod_c _ _ h1
      have mu3 : gMul (.int 3) (.int (c % 11)) = some (.int (3 * (c % 11))) := gMul_l _ _ (by omega)
      have dz : gDiv (.int d) (.int (3 * (c % 11))) = some (.int (d / (3 * (c % 11)))) := gDiv_c _ _ (by omega)
      have m95 : ∀ x, gMod (.int x) (.int 95) = some (.int (x % 95)) := fun x => gMod_c _ _ (by omega)
      obtain ⟨ch, hch, hix⟩ := ixStr (x := S) (i := d / (3 * (c % 11)) % 95) (by omega) (by rw [hS]; omega) sl
      have b1 : 0 ≤ d / 3 % (c % 11) := Int.emod_nonneg _ (by omega)
      have b2 : d / 3 % (c % 11) < c % 11 := Int.emod_lt_of_pos _ h1
      have ixn : L2.ixN ys.length (d / 3 % (c % 11)) = some (d / 3 % (c % 11)).toNat := ixN_in b1 (by omega)
      obtain ⟨x, gx, hj⟩ := jn (ys.set (d / 3 % (c % 11)).toNat (.str ⟨#[ch]⟩)) (fun z hz => by
        rcases List.mem_or_eq_of_mem_set hz with h | h
        · exact hyc z h
        · exact ⟨ch, hSc ch hch, h⟩) (by rw [List.length_set])
      refine ⟨x, gx, ?_⟩
      simp only [f__law_text_by, fnF, b__law_text_by, ite_ap, mbind, mlift, mret, fVar, vVar, fC, fOp, fUn, fNil, fCons, fFn, fTst, tst, fAndT, fOrT, fNotT, fAnd, fOr, fIf, fChain, fCall, callM, fRE, fRV, fR0, lend, fCallO, callO, fCallQ, callQ, sNext, sBrk, sCnt, sSeq, sE, sSet, sOwn, sRet, sRetF, sRetO, sRetN, sDrop, sIf, sSetQ, sRetQ, sMatch, cNone, cAny, cSeq, put, putO, start0, R.lent, R.d, fIts, fFnI, fPair, fUnit, sFrz, fD0, fDisp, fPairs, fSl, fNo, fPart, intOf, fJoin, strOf, List.getElem?_cons_zero, List.getElem?_cons_succ, List.set_cons_zero, List.set_cons_succ, List.map_cons, List.map_nil, List.length_cons, List.length_nil, List.cons_append, List.nil_append, List.replicate, Option.map_some, Option.map_none, Option.bind_some, Option.bind_none, if_true, Bool.not_true, Bool.not_false, Bool.false_eq_true, if_false, Nat.reduceAdd, Nat.reduceSub, eq_self_iff_true, Nat.zero_add, hsg, m11]
      rw [hy]
      simp [ite_ap, mbind, mlift, mret, fVar, vVar, fC, fOp, fUn, fNil, fCons, fFn, fTst, tst, fAndT, fOrT, fNotT, fAnd, fOr, fIf, fChain, fCall, callM, fRE, fRV, fR0, lend, fCallO, callO, fCallQ, callQ, sNext, sBrk, sCnt, sSeq, sE, sSet, sOwn, sRet, sRetF, sRetO, sRetN, sDrop, sIf, sSetQ, sRetQ, sMatch, cNone, cAny, cSeq, put, putO, start0, R.lent, R.d, fIts, fFnI, fPair, fUnit, sFrz, fD0, fDisp, fPairs, fSl, fNo, fPart, intOf, fJoin, strOf, List.getElem?_cons_zero, List.getElem?_cons_succ, List.set_cons_zero, List.set_cons_succ, List.map_cons, List.map_nil, List.length_cons, List.length_nil, List.cons_append, List.nil_append, List.replicate, Option.map_some, Option.map_none, Option.bind_some, Option.bind_none, if_true, Bool.not_true, Bool.not_false, Bool.false_eq_true, if_false, Nat.reduceAdd, Nat.reduceSub, eq_self_iff_true, Nat.zero_add, gg, m3, h1, h2, d3, mz, mu3, dz, hlen, m95, hix, sMut, isL, gPutIx, ixn, hj]
    · obtain ⟨x, gx, hj⟩ := jn ys hyc rfl
      refine ⟨x, gx, ?_⟩
      simp only [f__law_text_by, fnF, b__law_text_by, ite_ap, mbind, mlift, mret, fVar, vVar, fC, fOp, fUn, fNil, fCons, fFn, fTst, tst, fAndT, fOrT, fNotT, fAnd, fOr, fIf, fChain, fCall, callM, fRE, fRV, fR0, lend, fCallO, callO, fCallQ, callQ, sNext, sBrk, sCnt, sSeq, sE, sSet, sOwn, sRet, sRetF, sRetO, sRetN, sDrop, sIf, sSetQ, sRetQ, sMatch, cNone, cAny, cSeq, put, putO, start0, R.lent, R.d, fIts, fFnI, fPair, fUnit, sFrz, fD0, fDisp, fPairs, fSl, fNo, fPart, intOf, fJoin, strOf, List.getElem?_cons_zero, List.getElem?_cons_succ, List.set_cons_zero, List.set_cons_succ, List.map_cons, List.map_nil, List.length_cons, List.length_nil, List.cons_append, List.nil_append, List.replicate, Option.map_some, Option.map_none, Option.bind_some, Option.bind_none, if_true, Bool.not_true, Bool.not_false, Bool.false_eq_true, if_false, Nat.reduceAdd, Nat.reduceSub, eq_self_iff_true, Nat.zero_add, hsg, m11]
      rw [hy]
      simp [ite_ap, mbind, mlift, mret, fVar, vVar, fC, fOp, fUn, fNil, fCons, fFn, fTst, tst, fAndT, fOrT, fNotT, fAnd, fOr, fIf, fChain, fCall, callM, fRE, fRV, fR0, lend, fCallO, callO, fCallQ, callQ, sNext, sBrk, sCnt, sSeq, sE, sSet, sOwn, sRet, sRetF, sRetO, sRetN, sDrop, sIf, sSetQ, sRetQ, sMatch, cNone, cAny, cSeq, put, putO, start0, R.lent, R.d, fIts, fFnI, fPair, fUnit, sFrz, fD0, fDisp, fPairs, fSl, fNo, fPart, intOf, fJoin, strOf, List.getElem?_cons_zero, List.getElem?_cons_succ, List.set_cons_zero, List.set_cons_succ, List.map_cons, List.map_nil, List.length_cons, List.length_nil, List.cons_append, List.nil_append, List.replicate, Option.map_some, Option.map_none, Option.bind_some, Option.bind_none, if_true, Bool.not_true, Bool.not_false, Bool.false_eq_true, if_false, Nat.reduceAdd, Nat.reduceSub, eq_self_iff_true, Nat.zero_add, gg, m3, h1, h2, hj]
  · obtain ⟨x, gx, hj⟩ := jn ys hyc rfl
    refine ⟨x, gx, ?_⟩
    simp only [f__law_text_by, fnF, b__law_text_by, ite_ap, mbind, mlift, mret, fVar, vVar, fC, fOp, fUn, fNil, fCons, fFn, fTst, tst, fAndT, fOrT, fNotT, fAnd, fOr, fIf, fChain, fCall, callM, fRE, fRV, fR0, lend, fCallO, callO, fCallQ, callQ, sNext, sBrk, sCnt, sSeq, sE, sSet, sOwn, sRet, sRetF, sRetO, sRetN, sDrop, sIf, sSetQ, sRetQ, sMatch, cNone, cAny, cSeq, put, putO, start0, R.lent, R.d, fIts, fFnI, fPair, fUnit, sFrz, fD0, fDisp, fPairs, fSl, fNo, fPart, intOf, fJoin, strOf, List.getElem?_cons_zero, List.getElem?_cons_succ, List.set_cons_zero, List.set_cons_succ, List.map_cons, List.map_nil, List.length_cons, List.length_nil, List.cons_append, List.nil_append, List.replicate, Option.map_some, Option.map_none, Option.bind_some, Option.bind_none, if_true, Bool.not_true, Bool.not_false, Bool.false_eq_true, if_false, Nat.reduceAdd, Nat.reduceSub, eq_self_iff_true, Nat.zero_add, hsg, m11]
    rw [hy]
    simp [ite_ap, mbind, mlift, mret, fVar, vVar, fC, fOp, fUn, fNil, fCons, fFn, fTst, tst, fAndT, fOrT, fNotT, fAnd, fOr, fIf, fChain, fCall, callM, fRE, fRV, fR0, lend, fCallO, callO, fCallQ, callQ, sNext, sBrk, sCnt, sSeq, sE, sSet, sOwn, sRet, sRetF, sRetO, sRetN, sDrop, sIf, sSetQ, sRetQ, sMatch, cNone, cAny, cSeq, put, putO, start0, R.lent, R.d, fIts, fFnI, fPair, fUnit, sFrz, fD0, fDisp, fPairs, fSl, fNo, fPart, intOf, fJoin, strOf, List.getElem?_cons_zero, List.getElem?_cons_succ, List.set_cons_zero, List.set_cons_succ, List.map_cons, List.map_nil, List.length_cons, List.length_nil, List.cons_append, List.nil_append, List.replicate, Option.map_some, Option.map_none, Option.bind_some, Option.bind_none, if_true, Bool.not_true, Bool.not_false, Bool.false_eq_true, if_false, Nat.reduceAdd, Nat.reduceSub, eq_self_iff_true, Nat.zero_add, gg, m3, h1, hj]
theorem nrP (i : Int) : partD (.int i) := ⟨⟨_, rfl⟩, fun x h => by cases h⟩
theorem stP {x : Str} (h : GS x) : partD (.str x) := ⟨⟨_, rfl⟩, fun y e => by cases e; exact h⟩
theorem part_eq (ns : List Int) (k : Nat) (x : Str) (n : Int) (kind : Str) (hx : GS x) (hk : GS kind) (B : Bk) :
    ∃ d, partD d ∧ f__law_part_by [⟨.shr, .scr ns⟩, ⟨.shr, .int (k : Int)⟩, ⟨.shr, .str x⟩, ⟨.shr, .int n⟩, ⟨.shr, .str kind⟩] B = some (.ok ⟨.shr, d⟩, B) := by
  have c0 : f__law_cell_at [⟨.shr, .scr ns⟩, ⟨.shr, .int (5 + (k : Int))⟩] B = some (.ok ⟨.shr, .int (cell ns (5 + k))⟩, B) := by
    have := cell_eq ns (5 + k) B
    rwa [show (((5 + k : Nat)) : Int) = 5 + (k : Int) by omega] at this
  generalize cell ns (5 + k) = c at c0
  have m9 : gMod (.int c) (.int 9) = some (.int (c % 9)) := gMod_c _ _ (by omega)
  have d9 : gDiv (.int c) (.int 9) = some (.int (c / 9)) := gDiv_c _ _ (by omega)
  have d7 : gDiv (.int c) (.int 7) = some (.int (c / 7)) := gDiv_c _ _ (by omega)
  have d2 : gDiv (.int c) (.int 2) = some (.int (c / 2)) := gDiv_c _ _ (by omega)
  have m7 : ∀ x, gMod (.int x) (.int 7) = some (.int (x % 7)) := fun x => gMod_c _ _ (by omega)
  have m4 : ∀ x, gMod (.int x) (.int 4) = some (.int (x % 4)) := fun x => gMod_c _ _ (by omega)
  have m99 : ∀ x, gMod (.int x) (.int 99) = some (.int (x % 99)) := fun x => gMod_c _ _ (by omega)
  obtain ⟨P, hP, p60⟩ := pow60
  have la : ∀ xs : List D, xs.length ≤ 100 → Fmx.gLst xs = some (.lst xs) := fun xs h => by
    unfold Fmx.gLst; rw [if_pos (by rw [sizeLine_eq]; omega)]
  have l1 := la [.str x] (by simp)
  have l7 := la [.str x, .int n, .bl true, .non, .lst [.str x], .str "", .int (P - 1 - c / 7 % 99)] (by simp)
  have l4 := la [.str "a", .str "b", .str "ab", .str "abcdefgh"] (by simp)
  obtain ⟨y, hy, hix⟩ := ixLst (xs := [.str x, .int n, .bl true, .non, .lst [.str x], .str "", .int (P - 1 - c / 7 % 99)]) (i := c / 9 % 7) (by omega) (by show _ < (7 : Int); omega)
  obtain ⟨z, hz, hiz⟩ := ixLst (xs := [.str "a", .str "b", .str "ab", .str "abcdefgh"]) (i := c / 2 % 4) (by omega) (by show _ < (4 : Int); omega)
  have py : partD y := by
    simp at hy
    rcases hy with h | h | h | h | h | h | h <;> subst h
    · exact stP hx
    · exact nrP _
    · exact ⟨⟨_, rfl⟩, fun x h => by cases h⟩
    · exact ⟨⟨_, rfl⟩, fun x h => by cases h⟩
    · exact ⟨⟨_, rfl⟩, fun x h => by cases h⟩
    · exact stP (gsl _ (by decide +kernel))
    · exact nrP _
  have pz : partD z := by
    simp at hz
    rcases hz with h | h | h | h <;> subst h <;> exact stP (gsl _ (by decide +kernel))
  have ek : gEq (.str kind) (.str "n") = some (.bl (kind == "n")) := gEq_str hk (gsl _ (by decide +kernel))
  by_cases h1 : c % 9 = 0
  · exact ⟨y, py, by simp [f__law_part_by, fnF, b__law_part_by, ite_ap, mbind, mlift, mret, fVar, vVar, fC, fOp, fUn, fNil, fCons, fFn, fTst, tst, fAndT, fOrT, fNotT, fAnd, fOr, fIf, fChain, fCall, callM, fRE, fRV, fR0, lend, fCallO, callO, fCallQ, callQ, sNext, sBrk, sCnt, sSeq, sE, sSet, sOwn, sRet, sRetF, sRetO, sRetN, sDrop, sIf, sSetQ, sRetQ, sMatch, cNone, cAny, cSeq, put, putO, start0, R.lent, R.d, fIts, fFnI, fPair, fUnit, sFrz, fD0, fDisp, fPairs, fSl, fNo, fPart, intOf, fJoin, strOf, List.getElem?_cons_zero, List.getElem?_cons_succ, List.set_cons_zero, List.set_cons_succ, List.map_cons, List.map_nil, List.length_cons, List.length_nil, List.cons_append, List.nil_append, List.replicate, Option.map_some, Option.map_none, Option.bind_some, Option.bind_none, if_true, Bool.not_true, Bool.not_false, Bool.false_eq_true, if_false, Nat.reduceAdd, Nat.reduceSub, eq_self_iff_true, Nat.zero_add, gAdd_c, gSub_c, c0, m9, d9, d7, m7, m99, p60, l1, l7, gEq_int, h1, hix]⟩
  · have h1' : (c % 9 == 0) = false := by simpa using h1
    cases h2 : (kind == ("n" : Str)) with
    | true => exact ⟨z, pz, by simp [f__law_part_by, fnF, b__law_part_by, ite_ap, mbind, mlift, mret, fVar, vVar, fC, fOp, fUn, fNil, fCons, fFn, fTst, tst, fAndT, fOrT, fNotT, fAnd, fOr, fIf, fChain, fCall, callM, fRE, fRV, fR0, lend, fCallO, callO, fCallQ, callQ, sNext, sBrk, sCnt, sSeq, sE, sSet, sOwn, sRet, sRetF, sRetO, sRetN, sDrop, sIf, sSetQ, sRetQ, sMatch, cNone, cAny, cSeq, put, putO, start0, R.lent, R.d, fIts, fFnI, fPair, fUnit, sFrz, fD0, fDisp, fPairs, fSl, fNo, fPart, intOf, fJoin, strOf, List.getElem?_cons_zero, List.getElem?_cons_succ, List.set_cons_zero, List.set_cons_succ, List.map_cons, List.map_nil, List.length_cons, List.length_nil, List.cons_append, List.nil_append, List.replicate, Option.map_some, Option.map_none, Option.bind_some, Option.bind_none, if_true, Bool.not_true, Bool.not_false, Bool.false_eq_true, if_false, Nat.reduceAdd, Nat.reduceSub, eq_self_iff_true, Nat.zero_add, gAdd_c, gSub_c, c0, m9, d9, d7, d2, m4, m7, m99, p60, l1, l7, gEq_int, h1, ek, h2, l4, hiz]⟩
    | false => exact ⟨.int n, nrP n, by simp [f__law_part_by, fnF, b__law_part_by, ite_ap, mbind, mlift, mret, fVar, vVar, fC, fOp, fUn, fNil, fCons, fFn, fTst, tst, fAndT, fOrT, fNotT, fAnd, fOr, fIf, fChain, fCall, callM, fRE, fRV, fR0, lend, fCallO, callO, fCallQ, callQ, sNext, sBrk, sCnt, sSeq, sE, sSet, sOwn, sRet, sRetF, sRetO, sRetN, sDrop, sIf, sSetQ, sRetQ, sMatch, cNone, cAny, cSeq, put, putO, start0, R.lent, R.d, fIts, fFnI, fPair, fUnit, sFrz, fD0, fDisp, fPairs, fSl, fNo, fPart, intOf, fJoin, strOf, List.getElem?_cons_zero, List.getElem?_cons_succ, List.set_cons_zero, List.set_cons_succ, List.map_cons, List.map_nil, List.length_cons, List.length_nil, List.cons_append, List.nil_append, List.replicate, Option.map_some, Option.map_none, Option.bind_some, Option.bind_none, if_true, Bool.not_true, Bool.not_false, Bool.false_eq_true, if_false, Nat.reduceAdd, Nat.reduceSub, eq_self_iff_true, Nat.zero_add, gAdd_c, gSub_c, c0, m9, d9, d7, d2, m4, m7, m99, p60, l1, l7, gEq_int, h1, ek, h2]⟩
end K01

namespace K01
open PySem Fmx

theorem law_is_step_eq {w : Str} {ps : List D} (B : Bk) (hw : GS w) (hp : ∀ d ∈ ps, partD d) : f__law_is_step [⟨.shr, .str w⟩, ⟨.shr, .lst ps⟩] B = some (.ok ⟨.shr, .bl (stepD w ps)⟩, B) := by
  by_cases h1 : w = "add"
  · subst h1; exact ls_add B hp
  by_cases h2 : w = "drop"
  · subst h2; exact ls_drop B hp
  by_cases h3 : w = "name"
  · subst h3; exact ls_name B hp
  by_cases h4 : w = "shift"
  · subst h4; exact ls_shift B hp
  by_cases h5 : w = "turn"
  · subst h5; exact ls_turn B hp
  by_cases h6 : w = "part"
  · subst h6; exact ls_part B hp
  by_cases h7 : w = "join"
  · subst h7; exact ls_join B hp
  have q : ∀ y : Str, w ≠ y → (w == y) = false ∧ (y == w) = false := fun y h => ⟨by simpa using h, by simpa using (Ne.symm h)⟩
  have hin := inW w
  rw [(q _ h1).2, (q _ h2).2, (q _ h3).2, (q _ h4).2, (q _ h5).2, (q _ h6).2, (q _ h7).2] at hin
  have hs : stepD w ps = false := by
    match ps with
    | [] => rfl
    | [a] => simp [stepD, (q _ h2).1, (q _ h5).1]
    | [a, b] => simp [stepD, (q _ h1).1, (q _ h3).1, (q _ h4).1]
    | [a, b, c] => rfl
    | [a, b, c, d] => simp [stepD, (q _ h6).1, (q _ h7).1]
    | a :: b :: c :: d :: e :: r => rfl
  rw [hs]
  simp [f__law_is_step, fnF, b__law_is_step, ite_ap, mbind, mlift, mret, fVar, vVar, fC, fOp, fUn, fNil, fCons, fFn, fTst, tst, fAndT, fOrT, fNotT, fAnd, fOr, fIf, fChain, fCall, callM, fRE, fRV, fR0, lend, fCallO, callO, fCallQ, callQ, sNext, sBrk, sCnt, sSeq, sE, sSet, sOwn, sRet, sRetF, sRetO, sRetN, sDrop, sIf, sSetQ, sRetQ, sMatch, cNone, cAny, cSeq, put, putO, start0, R.lent, R.d, fIts, fFnI, fPair, fUnit, sFrz, fD0, fDisp, fPairs, fSl, fNo, fPart, intOf, fJoin, strOf, List.getElem?_cons_zero, List.getElem?_cons_succ, List.set_cons_zero, List.set_cons_succ, List.map_cons, List.map_nil, List.length_cons, List.length_nil, List.cons_append, List.nil_append, List.replicate, Option.map_some, Option.map_none, Option.bind_some, Option.bind_none, if_true, Bool.not_true, Bool.not_false, Bool.false_eq_true, if_false, Nat.reduceAdd, Nat.reduceSub, eq_self_iff_true, Nat.zero_add, lst7, hin]
theorem same_eq (a b : Bool) (B : Bk) : f__law_same [⟨.shr, .bl a⟩, ⟨.shr, .bl b⟩] B = some (.ok ⟨.shr, .bl (a == b)⟩, B) := by
  have e : isiD "bool" (.bl a) = some (.bl true) := rfl
  simp [f__law_same, fnF, b__law_same, ite_ap, mbind, mlift, mret, fVar, vVar, fC, fOp, fUn, fNil, fCons, fFn, fTst, tst, fAndT, fOrT, fNotT, fAnd, fOr, fIf, fChain, fCall, callM, fRE, fRV, fR0, lend, fCallO, callO, fCallQ, callQ, sNext, sBrk, sCnt, sSeq, sE, sSet, sOwn, sRet, sRetF, sRetO, sRetN, sDrop, sIf, sSetQ, sRetQ, sMatch, cNone, cAny, cSeq, put, putO, start0, R.lent, R.d, fIts, fFnI, fPair, fUnit, sFrz, fD0, fDisp, fPairs, fSl, fNo, fPart, intOf, fJoin, strOf, List.getElem?_cons_zero, List.getElem?_cons_succ, List.set_cons_zero, List.set_cons_succ, List.map_cons, List.map_nil, List.length_cons, List.length_nil, List.cons_append, List.nil_append, List.replicate, Option.map_some, Option.map_none, Option.bind_some, Option.bind_none, if_true, Bool.not_true, Bool.not_false, Bool.false_eq_true, if_false, Nat.reduceAdd, Nat.reduceSub, eq_self_iff_true, Nat.zero_add, e, gEq_bl]
/-- no step -/
theorem nostep_ty {d : D} {n : String} (h : tyD d = some n) (hn : n ≠ "tuple") (B : Bk) : f_is_step [⟨.shr, d⟩] B = some (.ok ⟨.shr, .bl false⟩, B) := by
  have e : isiD "tuple" d = some (.bl false) := by
    unfold isiD; rw [h]
    have : (n == "tuple" || (n == "bool" && "tuple" == "int")) = false := by simp [hn]
    simp only [Option.map_some, this]
  simp [f_is_step, fnF, b_is_step, ite_ap, mbind, mlift, mret, fVar, vVar, fC, fOp, fUn, fNil, fCons, fFn, fTst, tst, fAndT, fOrT, fNotT, fAnd, fOr, fIf, fChain, fCall, callM, fRE, fRV, fR0, lend, fCallO, callO, fCallQ, callQ, sNext, sBrk, sCnt, sSeq, sE, sSet, sOwn, sRet, sRetF, sRetO, sRetN, sDrop, sIf, sSetQ, sRetQ, sMatch, cNone, cAny, cSeq, put, putO, start0, R.lent, R.d, fIts, fFnI, fPair, fUnit, sFrz, fD0, fDisp, fPairs, fSl, fNo, fPart, intOf, fJoin, strOf, List.getElem?_cons_zero, List.getElem?_cons_succ, List.set_cons_zero, List.set_cons_succ, List.map_cons, List.map_nil, List.length_cons, List.length_nil, List.cons_append, List.nil_append, List.replicate, Option.map_some, Option.map_none, Option.bind_some, Option.bind_none, if_true, Bool.not_true, Bool.not_false, Bool.false_eq_true, if_false, Nat.reduceAdd, Nat.reduceSub, eq_self_iff_true, Nat.zero_add, e]
theorem nostep_nil (B : Bk) : f_is_step [⟨.shr, .tup []⟩] B = some (.ok ⟨.shr, .bl false⟩, B) := by
  have e : isiD "tuple" (.tup []) = some (.bl true) := rfl
  have e2 : gLen [.tup []] = some (.int 0) := rfl
  simp [f_is_step, fnF, b_is_step, ite_ap, mbind, mlift, mret, fVar, vVar, fC, fOp, fUn, fNil, fCons, fFn, fTst, tst, fAndT, fOrT, fNotT, fAnd, fOr, fIf, fChain, fCall, callM, fRE, fRV, fR0, lend, fCallO, callO, fCallQ, callQ, sNext, sBrk, sCnt, sSeq, sE, sSet, sOwn, sRet, sRetF, sRetO, sRetN, sDrop, sIf, sSetQ, sRetQ, sMatch, cNone, cAny, cSeq, put, putO, start0, R.lent, R.d, fIts, fFnI, fPair, fUnit, sFrz, fD0, fDisp, fPairs, fSl, fNo, fPart, intOf, fJoin, strOf, List.getElem?_cons_zero, List.getElem?_cons_succ, List.set_cons_zero, List.set_cons_succ, List.map_cons, List.map_nil, List.length_cons, List.length_nil, List.cons_append, List.nil_append, List.replicate, Option.map_some, Option.map_none, Option.bind_some, Option.bind_none, if_true, Bool.not_true, Bool.not_false, Bool.false_eq_true, if_false, Nat.reduceAdd, Nat.reduceSub, eq_self_iff_true, Nat.zero_add, e, e2, gEq_int]
theorem nostep_cons {d : D} {n : String} (h : tyD d = some n) (hn : n ≠ "str") (ds : List D) (B : Bk) : f_is_step [⟨.shr, .tup (d :: ds)⟩] B = some (.ok ⟨.shr, .bl false⟩, B) := by
  have e : isiD "tuple" (.tup (d :: ds)) = some (.bl true) := rfl
  have e2 : gLen [.tup (d :: ds)] = some (.int ((ds.length + 1 : Nat) : Int)) := rfl
  have e3 : gIx (.tup (d :: ds)) (.int 0) = some d := L2.atI_nat (j := 0) rfl
  have e4 : isiD "str" d = some (.bl false) := by
    unfold isiD; rw [h]
    have : (n == "str" || (n == "bool" && "str" == "int")) = false := by simp [hn]
    simp only [Option.map_some, this]
  have e5 : (((ds.length + 1 : Nat) : Int) == 0) = false := by simp; omega
  simp only [f_is_step, fnF, b_is_step, ite_ap, mbind, mlift, mret, fVar, vVar, fC, fOp, fUn, fNil, fCons, fFn, fTst, tst, fAndT, fOrT, fNotT, fAnd, fOr, fIf, fChain, fCall, callM, fRE, fRV, fR0, lend, fCallO, callO, fCallQ, callQ, sNext, sBrk, sCnt, sSeq, sE, sSet, sOwn, sRet, sRetF, sRetO, sRetN, sDrop, sIf, sSetQ, sRetQ, sMatch, cNone, cAny, cSeq, put, putO, start0, R.lent, R.d, fIts, fFnI, fPair, fUnit, sFrz, fD0, fDisp, fPairs, fSl, fNo, fPart, intOf, fJoin, strOf, List.getElem?_cons_zero, List.getElem?_cons_succ, List.set_cons_zero, List.set_cons_succ, List.map_cons, List.map_nil, List.length_cons, List.length_nil, List.cons_append, List.nil_append, List.replicate, Option.map_some, Option.map_none, Option.bind_some, Option.bind_none, if_true, Bool.not_true, Bool.not_false, Bool.false_eq_true, if_false, Nat.reduceAdd, Nat.reduceSub, eq_self_iff_true, Nat.zero_add, e, e2, e3, e4, gEq_int, e5]
theorem put_put (ρ : Rho) (i : Nat) (a b : D) : put (put ρ i a) i b = put ρ i b := by unfold put; rw [List.set_set]
theorem for_all {i : Nat} {body : FS} {B : Bk} : ∀ {items : List D} {ρ : Rho}, (∀ d ∈ items, body (put ρ i d) B = some (.nx (put ρ i d), B)) → ∃ ρ', forGo i body items ρ B = some (.nx ρ', B) ∧ (ρ' = ρ ∨ ∃ d, ρ' = put ρ i d)
  | [], ρ, _ => ⟨ρ, rfl, .inl rfl⟩
  | d :: r, ρ, h => by
    have h1 := h d List.mem_cons_self
    obtain ⟨ρ', e, q⟩ := for_all (i := i) (body := body) (B := B) (items := r) (ρ := put ρ i d) fun x hx => by rw [put_put]; exact h x (List.mem_cons_of_mem _ hx)
    refine ⟨ρ', ?_, .inr ?_⟩
    · unfold forGo; rw [h1]; exact e
    · rcases q with rfl | ⟨x, rfl⟩
      · exact ⟨d, rfl⟩
      · exact ⟨x, by rw [put_put]⟩
/-- a thing that is none of the three -/
def noneD (d : D) : Prop := goodD d ∧ nmD d = false ∧ nrD d = false ∧ ∀ B, f_is_step [⟨.shr, d⟩] B = some (.ok ⟨.shr, .bl false⟩, B)
theorem noneD.nm {d : D} (h : noneD d) (hs : ∀ x, d ≠ .str x) (B : Bk) : f_is_name [⟨.shr, d⟩] B = some (.ok ⟨.shr, .bl false⟩, B) := by
  have := is_name_eq ⟨.shr, d⟩ B rfl h.1 fun x e => absurd e (hs x)
  rw [this, h.2.1]
theorem seq_nx {f g : FS} {ρ ρ' : Rho} {B B' : Bk} (h : f ρ B = some (.nx ρ', B')) : sSeq f g ρ B = g ρ' B' := by unfold sSeq; rw [h]
theorem law_true (ns : List Int) (hl : ns.length ≤ 63) : ∃ B, f_law [⟨.shr, .scr ns⟩] [] = some (.ok ⟨.shr, .bl true⟩, B) := by
  refine ⟨[], ?_⟩
  have C0 : f__law_cell_at [⟨.shr, .scr ns⟩, ⟨.shr, .int 0⟩] [] = _ := cell_eq ns 0 []
  have C1 : f__law_cell_at [⟨.shr, .scr ns⟩, ⟨.shr, .int 1⟩] [] = _ := cell_eq ns 1 []
  have C2 : f__law_cell_at [⟨.shr, .scr ns⟩, ⟨.shr, .int 2⟩] [] = _ := cell_eq ns 2 []
  have C3 : f__law_cell_at [⟨.shr, .scr ns⟩, ⟨.shr, .int 3⟩] [] = _ := cell_eq ns 3 []
  have C4 : f__law_cell_at [⟨.shr, .scr ns⟩, ⟨.shr, .int 4⟩] [] = _ := cell_eq ns 4 []
  obtain ⟨x, gx, hx⟩ := text_eq (cell ns 0) (cell ns 1) []
  obtain ⟨n, hn⟩ := number_eq (cell ns 2) []
  generalize cell ns 0 = c0 at *
  generalize cell ns 1 = c1 at *
  generalize cell ns 2 = c2 at *
  generalize cell ns 3 = c3 at *
  generalize cell ns 4 = c4 at *
  have la : ∀ xs : List D, xs.length ≤ 100 → Fmx.gLst xs = some (.lst xs) := fun xs h => by
    unfold Fmx.gLst; rw [if_pos (by rw [sizeLine_eq]; omega)]
  have l12 := la [.str "add", .str "drop", .str "name", .str "shift", .str "turn", .str "part", .str "join", .str "Add", .str "", .str x, .str "part", .str "join"] (by simp)
  have m12 : gMod (.int c3) (.int 12) = some (.int (c3 % 12)) := gMod_c _ _ (by omega)
  obtain ⟨dw, hdw, hw⟩ := ixLst (xs := [.str "add", .str "drop", .str "name", .str "shift", .str "turn", .str "part", .str "join", .str "Add", .str "", .str x, .str "part", .str "join"]) (i := c3 % 12) (by omega) (by show _ < (12 : Int); omega)
  obtain ⟨w, gw, rfl⟩ : ∃ w, GS w ∧ dw = .str w := by
    simp at hdw
    rcases hdw with h | h | h | h | h | h | h | h | h | h | h | h <;> subst h <;> first | exact ⟨_, gsl _ (by decide +kernel), rfl⟩ | exact ⟨x, gx, rfl⟩
  obtain ⟨K, hK, km⟩ : ∃ K : Str, f__law_kinds [⟨.shr, .str w⟩] [] = some (.ok ⟨.shr, .str K⟩, []) ∧ K ∈ ([("n" : Str), "ni", "nn", "nnns"] : List Str) := by
    refine ⟨_, kinds_eq w [] gw, ?_⟩
    split
    · simp
    · split
      · simp
      · split <;> simp
  have kf : ∀ K ∈ ([("n" : Str), "ni", "nn", "nnns"] : List Str), K.length ≤ 4 ∧ (K ++ ("nnnnn" : Str)).length ≤ 9 ∧ 6 ≤ (K ++ ("nnnnn" : Str)).length ∧ K.length + (("nnnnn" : Str)).length ≤ 9 ∧ ∀ c ∈ (K ++ ("nnnnn" : Str)).cps.toList, c < 1114112 := by decide +kernel
  obtain ⟨k1, k2, k3, k4, k5⟩ := kf K km
  have hs : sizeLine = 16777216 := sizeLine_eq
  have kl : gLen [.str K] = some (.int K.length) := by
    have : K.length ≤ sizeLine := by omega
    simp [gLen, lenD, this]
  have ka : gAdd (.str K) (.str "nnnnn") = some (.str (K ++ "nnnnn")) := by
    have h : K.length + (("nnnnn" : Str)).length ≤ sizeLine := by omega
    show gOr (gI (fun _ _ => true) (· + ·)) (gOr gAddS (gOr gCatL gCatT)) _ _ = _
    unfold gOr
    simp only [gI, gAddS, h, if_true]
  generalize (K ++ ("nnnnn" : Str)) = KK at *
  have m4 : gMod (.int c4) (.int 4) = some (.int (c4 % 4)) := gMod_c _ _ (by omega)
  have d4 : gDiv (.int c4) (.int 4) = some (.int (c4 / 4)) := gDiv_c _ _ (by omega)
  have m6 : ∀ x, gMod (.int x) (.int 6) = some (.int (x % 6)) := fun x => gMod_c _ _ (by omega)
  -- the rows up to the size
  obtain ⟨s, s0, s5, hrow⟩ : ∃ s : Int, 0 ≤ s ∧ s ≤ 5 ∧ ∀ g : FS, sSeq (sIf (fTst (fOp gEq (fOp gMod (fCall f__law_cell_at (fRV 0 (fRE (fC (.int 4)) fR0))) (fC (.int 4))) (fC (.int 1)))) (sSet 6 (fOp gMod (fOp gDiv (fCall f__law_cell_at (fRV 0 (fRE (fC (.int 4)) fR0))) (fC (.int 4))) (fC (.int 6)))) sNext) g
      [some ⟨.shr, .scr ns⟩, some ⟨.shr, .str x⟩, some ⟨.shr, .int n⟩, some ⟨.shr, .lst [.str "add", .str "drop", .str "name", .str "shift", .str "turn", .str "part", .str "join", .str "Add", .str "", .str x, .str "part", .str "join"]⟩, some ⟨.shr, .str w⟩, some ⟨.shr, .str K⟩, some ⟨.shr, .int K.length⟩, none, none, none, none, none] [] =
      g [some ⟨.shr, .scr ns⟩, some ⟨.shr, .str x⟩, some ⟨.shr, .int n⟩, some ⟨.shr, .lst [.str "add", .str "drop", .str "name", .str "shift", .str "turn", .str "part", .str "join", .str "Add", .str "", .str x, .str "part", .str "join"]⟩, some ⟨.shr, .str w⟩, some ⟨.shr, .str K⟩, some ⟨.shr, .int s⟩, none, none, none, none, none] [] := by
    by_cases h : c4 % 4 = 1
    · exact ⟨c4 / 4 % 6, by omega, by omega, fun g => by simp [ite_ap, mbind, mlift, mret, fVar, vVar, fC, fOp, fUn, fNil, fCons, fFn, fTst, tst, fAndT, fOrT, fNotT, fAnd, fOr, fIf, fChain, fCall, callM, fRE, fRV, fR0, lend, fCallO, callO, fCallQ, callQ, sNext, sBrk, sCnt, sSeq, sE, sSet, sOwn, sRet, sRetF, sRetO, sRetN, sDrop, sIf, sSetQ, sRetQ, sMatch, cNone, cAny, cSeq, put, putO, start0, R.lent, R.d, fIts, fFnI, fPair, fUnit, sFrz, fD0, fDisp, fPairs, fSl, fNo, fPart, intOf, fJoin, strOf, List.getElem?_cons_zero, List.getElem?_cons_succ, List.set_cons_zero, List.set_cons_succ, List.map_cons, List.map_nil, List.length_cons, List.length_nil, List.cons_append, List.nil_append, List.replicate, Option.map_some, Option.map_none, Option.bind_some, Option.bind_none, if_true, Bool.not_true, Bool.not_false, Bool.false_eq_true, if_false, Nat.reduceAdd, Nat.reduceSub, eq_self_iff_true, Nat.zero_add, C4, m4, d4, m6, gEq_int, h]⟩
    · have h' : (c4 % 4 == 1) = false := by simpa using h
      exact ⟨K.length, by omega, by omega, fun g => by simp only [ite_ap, mbind, mlift, mret, fVar, vVar, fC, fOp, fUn, fNil, fCons, fFn, fTst, tst, fAndT, fOrT, fNotT, fAnd, fOr, fIf, fChain, fCall, callM, fRE, fRV, fR0, lend, fCallO, callO, fCallQ, callQ, sNext, sBrk, sCnt, sSeq, sE, sSet, sOwn, sRet, sRetF, sRetO, sRetN, sDrop, sIf, sSetQ, sRetQ, sMatch, cNone, cAny, cSeq, put, putO, start0, R.lent, R.d, fIts, fFnI, fPair, fUnit, sFrz, fD0, fDisp, fPairs, fSl, fNo, fPart, intOf, fJoin, strOf, List.getElem?_cons_zero, List.getElem?_cons_succ, List.set_cons_zero, List.set_cons_succ, List.map_cons, List.map_nil, List.length_cons, List.length_nil, List.cons_append, List.nil_append, List.replicate, Option.map_some, Option.map_none, Option.bind_some, Option.bind_none, if_true, Bool.not_true, Bool.not_false, Bool.false_eq_true, if_false, Nat.reduceAdd, Nat.reduceSub, eq_self_iff_true, Nat.zero_add, C4, m4, gEq_int, h']⟩
  have rgs : gRng1 [.int s] = some (rngD 0 s.toNat) := gRng_c _ (by omega)
  obtain ⟨ys, hys, yl, yp⟩ := lc_ex (j := 11) (fi := fFnI gRng1 (fCons (vVar 6) fNil)) (fe := (fCall f__law_part_by (fRV 0 (fRV 11 (fRV 1 (fRV 2 (fRE (fOp gIx (fOp gAdd (vVar 5) (fC (.str "nnnnn"))) (vVar 11)) fR0))))))) (ρ := [some ⟨.shr, .scr ns⟩, some ⟨.shr, .str x⟩, some ⟨.shr, .int n⟩, some ⟨.shr, .lst [.str "add", .str "drop", .str "name", .str "shift", .str "turn", .str "part", .str "join", .str "Add", .str "", .str x, .str "part", .str "join"]⟩, some ⟨.shr, .str w⟩, some ⟨.shr, .str K⟩, some ⟨.shr, .int s⟩, none, none, none, none, none]) (B := []) (items := rngD 0 s.toNat) (fun _ y => partD y) (by simp only [ite_ap, mbind, mlift, mret, fVar, vVar, fC, fOp, fUn, fNil, fCons, fFn, fTst, tst, fAndT, fOrT, fNotT, fAnd, fOr, fIf, fChain, fCall, callM, fRE, fRV, fR0, lend, fCallO, callO, fCallQ, callQ, sNext, sBrk, sCnt, sSeq, sE, sSet, sOwn, sRet, sRetF, sRetO, sRetN, sDrop, sIf, sSetQ, sRetQ, sMatch, cNone, cAny, cSeq, put, putO, start0, R.lent, R.d, fIts, fFnI, fPair, fUnit, sFrz, fD0, fDisp, fPairs, fSl, fNo, fPart, intOf, fJoin, strOf, List.getElem?_cons_zero, List.getElem?_cons_succ, List.set_cons_zero, List.set_cons_succ, List.map_cons, List.map_nil, List.length_cons, List.length_nil, List.cons_append, List.nil_append, List.replicate, Option.map_some, Option.map_none, Option.bind_some, Option.bind_none, if_true, Bool.not_true, Bool.not_false, Bool.false_eq_true, if_false, Nat.reduceAdd, Nat.reduceSub, eq_self_iff_true, Nat.zero_add, rgs]) (by rw [rngD_len]; omega) (fun e he => by
    obtain ⟨k, hk, rfl⟩ := rngD_mem he
    obtain ⟨ch, hch, hix⟩ := ixStr (x := KK) (i := (k : Int)) (by omega) (by omega) (by omega)
    have gc : GS ⟨#[ch]⟩ := ⟨by show 1 ≤ 1000000; decide, fun d hd => by
      have : d = ch := by simpa using hd
      rw [this]; exact k5 ch hch⟩
    obtain ⟨d, pd, hd⟩ := part_eq ns k x n ⟨#[ch]⟩ gx gc []
    exact ⟨d, pd, by simp only [ite_ap, mbind, mlift, mret, fVar, vVar, fC, fOp, fUn, fNil, fCons, fFn, fTst, tst, fAndT, fOrT, fNotT, fAnd, fOr, fIf, fChain, fCall, callM, fRE, fRV, fR0, lend, fCallO, callO, fCallQ, callQ, sNext, sBrk, sCnt, sSeq, sE, sSet, sOwn, sRet, sRetF, sRetO, sRetN, sDrop, sIf, sSetQ, sRetQ, sMatch, cNone, cAny, cSeq, put, putO, start0, R.lent, R.d, fIts, fFnI, fPair, fUnit, sFrz, fD0, fDisp, fPairs, fSl, fNo, fPart, intOf, fJoin, strOf, List.getElem?_cons_zero, List.getElem?_cons_succ, List.set_cons_zero, List.set_cons_succ, List.map_cons, List.map_nil, List.length_cons, List.length_nil, List.cons_append, List.nil_append, List.replicate, Option.map_some, Option.map_none, Option.bind_some, Option.bind_none, if_true, Bool.not_true, Bool.not_false, Bool.false_eq_true, if_false, Nat.reduceAdd, Nat.reduceSub, eq_self_iff_true, Nat.zero_add, ka, hix, hd]⟩)
  rw [rngD_len] at yl
  have yp : ∀ y ∈ ys, partD y := fun y hy => let ⟨_, _, h⟩ := yp y hy; h
  have yl5 : ys.length ≤ 5 := by omega
  -- the step and the law's own word about it
  have cat : ∀ d : D, gAdd (.lst [d]) (.lst ys) = some (.lst (d :: ys)) := fun d => by
    have h : [d].length + ys.length ≤ sizeLine := by simp only [List.length_cons, List.length_nil]; omega
    show gOr (gI (fun _ _ => true) (· + ·)) (gOr gAddS (gOr gCatL gCatT)) _ _ = _
    unfold gOr
    simp only [gI, gAddS, gCatL, h, if_true, List.cons_append, List.nil_append]
  have tp : ∀ xs : List D, gTupOf [.lst xs] = some (.tup xs) := fun xs => rfl
  have l1 : ∀ d : D, Fmx.gLst [d] = some (.lst [d]) := fun d => la _ (by simp)
  have n1 := nm_eq (d := .str x) [] (stP gx)
  have n2 := lnm_eq (d := .str x) [] (stP gx)
  have i1 := nr_eq (d := .int n) [] (nrP n)
  have nI := nm_eq (d := .int n) [] (nrP n)
  have iS := nr_eq (d := .str x) [] (stP gx)
  have t1 := is_step_eq (ps := ys) [] gw yp
  have t2 := law_is_step_eq (ps := ys) [] gw yp
  have tS := nostep_ty (d := .str x) rfl (by decide) []
  have same := fun a b => same_eq a b []
  unfold f_law fnF b_law
  simp only [start0, List.map_cons, List.map_nil, List.length_cons, List.length_nil, List.cons_append, List.nil_append, List.replicate, Nat.reduceAdd, Nat.reduceSub, if_true]
  rw [seq_nx (ρ' := [some ⟨.shr, .scr ns⟩, some ⟨.shr, .str x⟩, none, none, none, none, none, none, none, none, none, none]) (B' := []) (by simp only [ite_ap, mbind, mlift, mret, fVar, vVar, fC, fOp, fUn, fNil, fCons, fFn, fTst, tst, fAndT, fOrT, fNotT, fAnd, fOr, fIf, fChain, fCall, callM, fRE, fRV, fR0, lend, fCallO, callO, fCallQ, callQ, sNext, sBrk, sCnt, sSeq, sE, sSet, sOwn, sRet, sRetF, sRetO, sRetN, sDrop, sIf, sSetQ, sRetQ, sMatch, cNone, cAny, cSeq, put, putO, start0, R.lent, R.d, fIts, fFnI, fPair, fUnit, sFrz, fD0, fDisp, fPairs, fSl, fNo, fPart, intOf, fJoin, strOf, List.getElem?_cons_zero, List.getElem?_cons_succ, List.set_cons_zero, List.set_cons_succ, List.map_cons, List.map_nil, List.length_cons, List.length_nil, List.cons_append, List.nil_append, List.replicate, Option.map_some, Option.map_none, Option.bind_some, Option.bind_none, if_true, Bool.not_true, Bool.not_false, Bool.false_eq_true, if_false, Nat.reduceAdd, Nat.reduceSub, eq_self_iff_true, Nat.zero_add, C0, C1, hx])]
  rw [seq_nx (ρ' := [some ⟨.shr, .scr ns⟩, some ⟨.shr, .str x⟩, some ⟨.shr, .int n⟩, none, none, none, none, none, none, none, none, none]) (B' := []) (by simp only [ite_ap, mbind, mlift, mret, fVar, vVar, fC, fOp, fUn, fNil, fCons, fFn, fTst, tst, fAndT, fOrT, fNotT, fAnd, fOr, fIf, fChain, fCall, callM, fRE, fRV, fR0, lend, fCallO, callO, fCallQ, callQ, sNext, sBrk, sCnt, sSeq, sE, sSet, sOwn, sRet, sRetF, sRetO, sRetN, sDrop, sIf, sSetQ, sRetQ, sMatch, cNone, cAny, cSeq, put, putO, start0, R.lent, R.d, fIts, fFnI, fPair, fUnit, sFrz, fD0, fDisp, fPairs, fSl, fNo, fPart, intOf, fJoin, strOf, List.getElem?_cons_zero, List.getElem?_cons_succ, List.set_cons_zero, List.set_cons_succ, List.map_cons, List.map_nil, List.length_cons, List.length_nil, List.cons_append, List.nil_append, List.replicate, Option.map_some, Option.map_none, Option.bind_some, Option.bind_none, if_true, Bool.not_true, Bool.not_false, Bool.false_eq_true, if_false, Nat.reduceAdd, Nat.reduceSub, eq_self_iff_true, Nat.zero_add, C2, hn])]
  rw [seq_nx (ρ' := [some ⟨.shr, .scr ns⟩, some ⟨.shr, .str x⟩, some ⟨.shr, .int n⟩, some ⟨.shr, .lst [.str "add", .str "drop", .str "name", .str "shift", .str "turn", .str "part", .str "join", .str "Add", .str "", .str x, .str "part", .str "join"]⟩, none, none, none, none, none, none, none, none]) (B' := []) (by simp only [ite_ap, mbind, mlift, mret, fVar, vVar, fC, fOp, fUn, fNil, fCons, fFn, fTst, tst, fAndT, fOrT, fNotT, fAnd, fOr, fIf, fChain, fCall, callM, fRE, fRV, fR0, lend, fCallO, callO, fCallQ, callQ, sNext, sBrk, sCnt, sSeq, sE, sSet, sOwn, sRet, sRetF, sRetO, sRetN, sDrop, sIf, sSetQ, sRetQ, sMatch, cNone, cAny, cSeq, put, putO, start0, R.lent, R.d, fIts, fFnI, fPair, fUnit, sFrz, fD0, fDisp, fPairs, fSl, fNo, fPart, intOf, fJoin, strOf, List.getElem?_cons_zero, List.getElem?_cons_succ, List.set_cons_zero, List.set_cons_succ, List.map_cons, List.map_nil, List.length_cons, List.length_nil, List.cons_append, List.nil_append, List.replicate, Option.map_some, Option.map_none, Option.bind_some, Option.bind_none, if_true, Bool.not_true, Bool.not_false, Bool.false_eq_true, if_false, Nat.reduceAdd, Nat.reduceSub, eq_self_iff_true, Nat.zero_add, l12])]
  rw [seq_nx (ρ' := [some ⟨.shr, .scr ns⟩, some ⟨.shr, .str x⟩, some ⟨.shr, .int n⟩, some ⟨.shr, .lst [.str "add", .str "drop", .str "name", .str "shift", .str "turn", .str "part", .str "join", .str "Add", .str "", .str x, .str "part", .str "join"]⟩, some ⟨.shr, .str w⟩, none, none, none, none, none, none, none]) (B' := []) (by simp only [ite_ap, mbind, mlift, mret, fVar, vVar, fC, fOp, fUn, fNil, fCons, fFn, fTst, tst, fAndT, fOrT, fNotT, fAnd, fOr, fIf, fChain, fCall, callM, fRE, fRV, fR0, lend, fCallO, callO, fCallQ, callQ, sNext, sBrk, sCnt, sSeq, sE, sSet, sOwn, sRet, sRetF, sRetO, sRetN, sDrop, sIf, sSetQ, sRetQ, sMatch, cNone, cAny, cSeq, put, putO, start0, R.lent, R.d, fIts, fFnI, fPair, fUnit, sFrz, fD0, fDisp, fPairs, fSl, fNo, fPart, intOf, fJoin, strOf, List.getElem?_cons_zero, List.getElem?_cons_succ, List.set_cons_zero, List.set_cons_succ, List.map_cons, List.map_nil, List.length_cons, List.length_nil, List.cons_append, List.nil_append, List.replicate, Option.map_some, Option.map_none, Option.bind_some, Option.bind_none, if_true, Bool.not_true, Bool.not_false, Bool.false_eq_true, if_false, Nat.reduceAdd, Nat.reduceSub, eq_self_iff_true, Nat.zero_add, C3, m12, hw])]
  rw [seq_nx (ρ' := [some ⟨.shr, .scr ns⟩, some ⟨.shr, .str x⟩, some ⟨.shr, .int n⟩, some ⟨.shr, .lst [.str "add", .str "drop", .str "name", .str "shift", .str "turn", .str "part", .str "join", .str "Add", .str "", .str x, .str "part", .str "join"]⟩, some ⟨.shr, .str w⟩, some ⟨.shr, .str K⟩, none, none, none, none, none, none]) (B' := []) (by simp only [ite_ap, mbind, mlift, mret, fVar, vVar, fC, fOp, fUn, fNil, fCons, fFn, fTst, tst, fAndT, fOrT, fNotT, fAnd, fOr, fIf, fChain, fCall, callM, fRE, fRV, fR0, lend, fCallO, callO, fCallQ, callQ, sNext, sBrk, sCnt, sSeq, sE, sSet, sOwn, sRet, sRetF, sRetO, sRetN, sDrop, sIf, sSetQ, sRetQ, sMatch, cNone, cAny, cSeq, put, putO, start0, R.lent, R.d, fIts, fFnI, fPair, fUnit, sFrz, fD0, fDisp, fPairs, fSl, fNo, fPart, intOf, fJoin, strOf, List.getElem?_cons_zero, List.getElem?_cons_succ, List.set_cons_zero, List.set_cons_succ, List.map_cons, List.map_nil, List.length_cons, List.length_nil, List.cons_append, List.nil_append, List.replicate, Option.map_some, Option.map_none, Option.bind_some, Option.bind_none, if_true, Bool.not_true, Bool.not_false, Bool.false_eq_true, if_false, Nat.reduceAdd, Nat.reduceSub, eq_self_iff_true, Nat.zero_add, hK])]
  rw [seq_nx (ρ' := [some ⟨.shr, .scr ns⟩, some ⟨.shr, .str x⟩, some ⟨.shr, .int n⟩, some ⟨.shr, .lst [.str "add", .str "drop", .str "name", .str "shift", .str "turn", .str "part", .str "join", .str "Add", .str "", .str x, .str "part", .str "join"]⟩, some ⟨.shr, .str w⟩, some ⟨.shr, .str K⟩, some ⟨.shr, .int K.length⟩, none, none, none, none, none]) (B' := []) (by simp only [ite_ap, mbind, mlift, mret, fVar, vVar, fC, fOp, fUn, fNil, fCons, fFn, fTst, tst, fAndT, fOrT, fNotT, fAnd, fOr, fIf, fChain, fCall, callM, fRE, fRV, fR0, lend, fCallO, callO, fCallQ, callQ, sNext, sBrk, sCnt, sSeq, sE, sSet, sOwn, sRet, sRetF, sRetO, sRetN, sDrop, sIf, sSetQ, sRetQ, sMatch, cNone, cAny, cSeq, put, putO, start0, R.lent, R.d, fIts, fFnI, fPair, fUnit, sFrz, fD0, fDisp, fPairs, fSl, fNo, fPart, intOf, fJoin, strOf, List.getElem?_cons_zero, List.getElem?_cons_succ, List.set_cons_zero, List.set_cons_succ, List.map_cons, List.map_nil, List.length_cons, List.length_nil, List.cons_append, List.nil_append, List.replicate, Option.map_some, Option.map_none, Option.bind_some, Option.bind_none, if_true, Bool.not_true, Bool.not_false, Bool.false_eq_true, if_false, Nat.reduceAdd, Nat.reduceSub, eq_self_iff_true, Nat.zero_add, kl])]
  rw [hrow]
  rw [seq_nx (ρ' := [some ⟨.shr, .scr ns⟩, some ⟨.shr, .str x⟩, some ⟨.shr, .int n⟩, some ⟨.shr, .lst [.str "add", .str "drop", .str "name", .str "shift", .str "turn", .str "part", .str "join", .str "Add", .str "", .str x, .str "part", .str "join"]⟩, some ⟨.shr, .str w⟩, some ⟨.shr, .str K⟩, some ⟨.shr, .int s⟩, some ⟨.shr, .lst ys⟩, none, none, none, none]) (B' := []) (by simp only [sSet, sE, hys, put, List.set_cons_succ, List.set_cons_zero])]
  rw [seq_nx (ρ' := [some ⟨.shr, .scr ns⟩, some ⟨.shr, .str x⟩, some ⟨.shr, .int n⟩, some ⟨.shr, .lst [.str "add", .str "drop", .str "name", .str "shift", .str "turn", .str "part", .str "join", .str "Add", .str "", .str x, .str "part", .str "join"]⟩, some ⟨.shr, .str w⟩, some ⟨.shr, .str K⟩, some ⟨.shr, .int s⟩, some ⟨.shr, .lst ys⟩, some ⟨.shr, .tup (.str w :: ys)⟩, none, none, none]) (B' := []) (by simp only [ite_ap, mbind, mlift, mret, fVar, vVar, fC, fOp, fUn, fNil, fCons, fFn, fTst, tst, fAndT, fOrT, fNotT, fAnd, fOr, fIf, fChain, fCall, callM, fRE, fRV, fR0, lend, fCallO, callO, fCallQ, callQ, sNext, sBrk, sCnt, sSeq, sE, sSet, sOwn, sRet, sRetF, sRetO, sRetN, sDrop, sIf, sSetQ, sRetQ, sMatch, cNone, cAny, cSeq, put, putO, start0, R.lent, R.d, fIts, fFnI, fPair, fUnit, sFrz, fD0, fDisp, fPairs, fSl, fNo, fPart, intOf, fJoin, strOf, List.getElem?_cons_zero, List.getElem?_cons_succ, List.set_cons_zero, List.set_cons_succ, List.map_cons, List.map_nil, List.length_cons, List.length_nil, List.cons_append, List.nil_append, List.replicate, Option.map_some, Option.map_none, Option.bind_some, Option.bind_none, if_true, Bool.not_true, Bool.not_false, Bool.false_eq_true, if_false, Nat.reduceAdd, Nat.reduceSub, eq_self_iff_true, Nat.zero_add, l1, cat, tp])]
  rw [seq_nx (ρ' := [some ⟨.shr, .scr ns⟩, some ⟨.shr, .str x⟩, some ⟨.shr, .int n⟩, some ⟨.shr, .lst [.str "add", .str "drop", .str "name", .str "shift", .str "turn", .str "part", .str "join", .str "Add", .str "", .str x, .str "part", .str "join"]⟩, some ⟨.shr, .str w⟩, some ⟨.shr, .str K⟩, some ⟨.shr, .int s⟩, some ⟨.shr, .lst ys⟩, some ⟨.shr, .tup (.str w :: ys)⟩, none, none, none]) (B' := []) (by simp [ite_ap, mbind, mlift, mret, fVar, vVar, fC, fOp, fUn, fNil, fCons, fFn, fTst, tst, fAndT, fOrT, fNotT, fAnd, fOr, fIf, fChain, fCall, callM, fRE, fRV, fR0, lend, fCallO, callO, fCallQ, callQ, sNext, sBrk, sCnt, sSeq, sE, sSet, sOwn, sRet, sRetF, sRetO, sRetN, sDrop, sIf, sSetQ, sRetQ, sMatch, cNone, cAny, cSeq, put, putO, start0, R.lent, R.d, fIts, fFnI, fPair, fUnit, sFrz, fD0, fDisp, fPairs, fSl, fNo, fPart, intOf, fJoin, strOf, List.getElem?_cons_zero, List.getElem?_cons_succ, List.set_cons_zero, List.set_cons_succ, List.map_cons, List.map_nil, List.length_cons, List.length_nil, List.cons_append, List.nil_append, List.replicate, Option.map_some, Option.map_none, Option.bind_some, Option.bind_none, if_true, Bool.not_true, Bool.not_false, Bool.false_eq_true, if_false, Nat.reduceAdd, Nat.reduceSub, eq_self_iff_true, Nat.zero_add, n1, n2, i1, same, nrD])]
  rw [seq_nx (ρ' := [some ⟨.shr, .scr ns⟩, some ⟨.shr, .str x⟩, some ⟨.shr, .int n⟩, some ⟨.shr, .lst [.str "add", .str "drop", .str "name", .str "shift", .str "turn", .str "part", .str "join", .str "Add", .str "", .str x, .str "part", .str "join"]⟩, some ⟨.shr, .str w⟩, some ⟨.shr, .str K⟩, some ⟨.shr, .int s⟩, some ⟨.shr, .lst ys⟩, some ⟨.shr, .tup (.str w :: ys)⟩, none, none, none]) (B' := []) (by simp [ite_ap, mbind, mlift, mret, fVar, vVar, fC, fOp, fUn, fNil, fCons, fFn, fTst, tst, fAndT, fOrT, fNotT, fAnd, fOr, fIf, fChain, fCall, callM, fRE, fRV, fR0, lend, fCallO, callO, fCallQ, callQ, sNext, sBrk, sCnt, sSeq, sE, sSet, sOwn, sRet, sRetF, sRetO, sRetN, sDrop, sIf, sSetQ, sRetQ, sMatch, cNone, cAny, cSeq, put, putO, start0, R.lent, R.d, fIts, fFnI, fPair, fUnit, sFrz, fD0, fDisp, fPairs, fSl, fNo, fPart, intOf, fJoin, strOf, List.getElem?_cons_zero, List.getElem?_cons_succ, List.set_cons_zero, List.set_cons_succ, List.map_cons, List.map_nil, List.length_cons, List.length_nil, List.cons_append, List.nil_append, List.replicate, Option.map_some, Option.map_none, Option.bind_some, Option.bind_none, if_true, Bool.not_true, Bool.not_false, Bool.false_eq_true, if_false, Nat.reduceAdd, Nat.reduceSub, eq_self_iff_true, Nat.zero_add, t1, t2, same])]
  have l7 := la [.non, .bl true, .bl false, .lst (.str w :: ys), .tup [], .tup [.int n, .str x], .dct [(.inr w, .lst ys)]] (by simp)
  have g0 : Fmx.gTup [] = some (.tup []) := rfl
  have g1 : ∀ d : D, Fmx.gTup [d] = some (.tup [d]) := fun d => by unfold Fmx.gTup; rw [if_pos (by simp only [List.length_cons, List.length_nil]; omega)]
  have g2 : Fmx.gTup [.int n, .str x] = some (.tup [.int n, .str x]) := by unfold Fmx.gTup; rw [if_pos (by simp only [List.length_cons, List.length_nil]; omega)]
  have gd : gDisp [(.str w, .lst ys)] = some (.dct [(.inr w, .lst ys)]) := rfl
  rw [seq_nx (ρ' := [some ⟨.shr, .scr ns⟩, some ⟨.shr, .str x⟩, some ⟨.shr, .int n⟩, some ⟨.shr, .lst [.str "add", .str "drop", .str "name", .str "shift", .str "turn", .str "part", .str "join", .str "Add", .str "", .str x, .str "part", .str "join"]⟩, some ⟨.shr, .str w⟩, some ⟨.shr, .str K⟩, some ⟨.shr, .int s⟩, some ⟨.shr, .lst ys⟩, some ⟨.shr, .tup (.str w :: ys)⟩, some ⟨.shr, .lst [.non, .bl true, .bl false, .lst (.str w :: ys), .tup [], .tup [.int n, .str x], .dct [(.inr w, .lst ys)]]⟩, none, none]) (B' := []) (by simp only [ite_ap, mbind, mlift, mret, fVar, vVar, fC, fOp, fUn, fNil, fCons, fFn, fTst, tst, fAndT, fOrT, fNotT, fAnd, fOr, fIf, fChain, fCall, callM, fRE, fRV, fR0, lend, fCallO, callO, fCallQ, callQ, sNext, sBrk, sCnt, sSeq, sE, sSet, sOwn, sRet, sRetF, sRetO, sRetN, sDrop, sIf, sSetQ, sRetQ, sMatch, cNone, cAny, cSeq, put, putO, start0, R.lent, R.d, fIts, fFnI, fPair, fUnit, sFrz, fD0, fDisp, fPairs, fSl, fNo, fPart, intOf, fJoin, strOf, List.getElem?_cons_zero, List.getElem?_cons_succ, List.set_cons_zero, List.set_cons_succ, List.map_cons, List.map_nil, List.length_cons, List.length_nil, List.cons_append, List.nil_append, List.replicate, Option.map_some, Option.map_none, Option.bind_some, Option.bind_none, if_true, Bool.not_true, Bool.not_false, Bool.false_eq_true, if_false, Nat.reduceAdd, Nat.reduceSub, eq_self_iff_true, Nat.zero_add, l1, cat, g0, g2, gd, l7])]
  have l3 := la [.tup (.lst [.str w] :: ys), .tup (.dct [] :: ys), .tup (.tup [.str w] :: ys)] (by simp)
  have cat2 : gAdd (.lst [.non, .bl true, .bl false, .lst (.str w :: ys), .tup [], .tup [.int n, .str x], .dct [(.inr w, .lst ys)]]) (.lst [.tup (.lst [.str w] :: ys), .tup (.dct [] :: ys), .tup (.tup [.str w] :: ys)]) = some (.lst [.non, .bl true, .bl false, .lst (.str w :: ys), .tup [], .tup [.int n, .str x], .dct [(.inr w, .lst ys)], .tup (.lst [.str w] :: ys), .tup (.dct [] :: ys), .tup (.tup [.str w] :: ys)]) := by
    have h : ([.non, .bl true, .bl false, .lst (.str w :: ys), .tup [], .tup [.int n, .str x], .dct [(.inr w, .lst ys)]] : List D).length + ([.tup (.lst [.str w] :: ys), .tup (.dct [] :: ys), .tup (.tup [.str w] :: ys)] : List D).length ≤ sizeLine := by simp only [List.length_cons, List.length_nil]; omega
    show gOr (gI (fun _ _ => true) (· + ·)) (gOr gAddS (gOr gCatL gCatT)) _ _ = _
    unfold gOr
    simp only [gI, gAddS, gCatL, h, if_true, List.cons_append, List.nil_append]
  have none10 : ∀ d ∈ ([.non, .bl true, .bl false, .lst (.str w :: ys), .tup [], .tup [.int n, .str x], .dct [(.inr w, .lst ys)], .tup (.lst [.str w] :: ys), .tup (.dct [] :: ys), .tup (.tup [.str w] :: ys)] : List D), noneD d ∧ ∀ x, d ≠ .str x := by
    intro d hd
    simp at hd
    rcases hd with h | h | h | h | h | h | h | h | h | h <;> subst h
    · exact ⟨⟨⟨_, rfl⟩, rfl, rfl, nostep_ty rfl (by decide)⟩, fun _ z => by cases z⟩
    · exact ⟨⟨⟨_, rfl⟩, rfl, rfl, nostep_ty rfl (by decide)⟩, fun _ z => by cases z⟩
    · exact ⟨⟨⟨_, rfl⟩, rfl, rfl, nostep_ty rfl (by decide)⟩, fun _ z => by cases z⟩
    · exact ⟨⟨⟨_, rfl⟩, rfl, rfl, nostep_ty rfl (by decide)⟩, fun _ z => by cases z⟩
    · exact ⟨⟨⟨_, rfl⟩, rfl, rfl, nostep_nil⟩, fun _ z => by cases z⟩
    · exact ⟨⟨⟨_, rfl⟩, rfl, rfl, nostep_cons rfl (by decide) _⟩, fun _ z => by cases z⟩
    · exact ⟨⟨⟨_, rfl⟩, rfl, rfl, nostep_ty rfl (by decide)⟩, fun _ z => by cases z⟩
    · exact ⟨⟨⟨_, rfl⟩, rfl, rfl, nostep_cons rfl (by decide) _⟩, fun _ z => by cases z⟩
    · exact ⟨⟨⟨_, rfl⟩, rfl, rfl, nostep_cons rfl (by decide) _⟩, fun _ z => by cases z⟩
    · exact ⟨⟨⟨_, rfl⟩, rfl, rfl, nostep_cons rfl (by decide) _⟩, fun _ z => by cases z⟩
  generalize ([.non, .bl true, .bl false, .lst (.str w :: ys), .tup [], .tup [.int n, .str x], .dct [(.inr w, .lst ys)], .tup (.lst [.str w] :: ys), .tup (.dct [] :: ys), .tup (.tup [.str w] :: ys)] : List D) = ALL at cat2 none10
  generalize ([.non, .bl true, .bl false, .lst (.str w :: ys), .tup [], .tup [.int n, .str x], .dct [(.inr w, .lst ys)]] : List D) = TH at *
  obtain ⟨ρ', hf, hρ⟩ := for_all (i := 10) (B := []) (items := ALL) (ρ := [some ⟨.shr, .scr ns⟩, some ⟨.shr, .str x⟩, some ⟨.shr, .int n⟩, some ⟨.shr, .lst [.str "add", .str "drop", .str "name", .str "shift", .str "turn", .str "part", .str "join", .str "Add", .str "", .str x, .str "part", .str "join"]⟩, some ⟨.shr, .str w⟩, some ⟨.shr, .str K⟩, some ⟨.shr, .int s⟩, some ⟨.shr, .lst ys⟩, some ⟨.shr, .tup (.str w :: ys)⟩, some ⟨.shr, .lst TH⟩, none, none]) (body := (sSeq (sIf (fOrT (fNotT (fTst (fCall f__law_same (fRE (fCall f_is_name (fRV 10 fR0)) (fRE (fC (.bl false)) fR0))))) (fNotT (fTst (fCall f__law_same (fRE (fCall f_is_number (fRV 10 fR0)) (fRE (fC (.bl false)) fR0)))))) (sRet (fC (.bl false))) sNext)
  (sIf (fNotT (fTst (fCall f__law_same (fRE (fCall f_is_step (fRV 10 fR0)) (fRE (fC (.bl false)) fR0))))) (sRet (fC (.bl false))) sNext))) (fun d hd => by
    obtain ⟨nd, ns'⟩ := none10 d hd
    have q1 := nd.nm ns' []
    have q2 := is_number_eq ⟨.shr, d⟩ [] rfl nd.1
    rw [nd.2.2.1] at q2
    have q3 := nd.2.2.2 []
    simp [ite_ap, mbind, mlift, mret, fVar, vVar, fC, fOp, fUn, fNil, fCons, fFn, fTst, tst, fAndT, fOrT, fNotT, fAnd, fOr, fIf, fChain, fCall, callM, fRE, fRV, fR0, lend, fCallO, callO, fCallQ, callQ, sNext, sBrk, sCnt, sSeq, sE, sSet, sOwn, sRet, sRetF, sRetO, sRetN, sDrop, sIf, sSetQ, sRetQ, sMatch, cNone, cAny, cSeq, put, putO, start0, R.lent, R.d, fIts, fFnI, fPair, fUnit, sFrz, fD0, fDisp, fPairs, fSl, fNo, fPart, intOf, fJoin, strOf, List.getElem?_cons_zero, List.getElem?_cons_succ, List.set_cons_zero, List.set_cons_succ, List.map_cons, List.map_nil, List.length_cons, List.length_nil, List.cons_append, List.nil_append, List.replicate, Option.map_some, Option.map_none, Option.bind_some, Option.bind_none, if_true, Bool.not_true, Bool.not_false, Bool.false_eq_true, if_false, Nat.reduceAdd, Nat.reduceSub, eq_self_iff_true, Nat.zero_add, q1, q2, q3, same])
  rw [seq_nx (ρ' := ρ') (B' := []) (by
    unfold sFor sE
    simp only [ite_ap, mbind, mlift, mret, fVar, vVar, fC, fOp, fUn, fNil, fCons, fFn, fTst, tst, fAndT, fOrT, fNotT, fAnd, fOr, fIf, fChain, fCall, callM, fRE, fRV, fR0, lend, fCallO, callO, fCallQ, callQ, sNext, sBrk, sCnt, sSeq, sE, sSet, sOwn, sRet, sRetF, sRetO, sRetN, sDrop, sIf, sSetQ, sRetQ, sMatch, cNone, cAny, cSeq, put, putO, start0, R.lent, R.d, fIts, fFnI, fPair, fUnit, sFrz, fD0, fDisp, fPairs, fSl, fNo, fPart, intOf, fJoin, strOf, List.getElem?_cons_zero, List.getElem?_cons_succ, List.set_cons_zero, List.set_cons_succ, List.map_cons, List.map_nil, List.length_cons, List.length_nil, List.cons_append, List.nil_append, List.replicate, Option.map_some, Option.map_none, Option.bind_some, Option.bind_none, if_true, Bool.not_true, Bool.not_false, Bool.false_eq_true, if_false, Nat.reduceAdd, Nat.reduceSub, eq_self_iff_true, Nat.zero_add, l1, cat, tp, g1, l3, cat2]
    simp only [ite_ap, mbind, mlift, mret, fVar, vVar, fC, fOp, fUn, fNil, fCons, fFn, fTst, tst, fAndT, fOrT, fNotT, fAnd, fOr, fIf, fChain, fCall, callM, fRE, fRV, fR0, lend, fCallO, callO, fCallQ, callQ, sNext, sBrk, sCnt, sSeq, sE, sSet, sOwn, sRet, sRetF, sRetO, sRetN, sDrop, sIf, sSetQ, sRetQ, sMatch, cNone, cAny, cSeq, put, putO, start0, R.lent, R.d, fIts, fFnI, fPair, fUnit, sFrz, fD0, fDisp, fPairs, fSl, fNo, fPart, intOf, fJoin, strOf, List.getElem?_cons_zero, List.getElem?_cons_succ, List.set_cons_zero, List.set_cons_succ, List.map_cons, List.map_nil, List.length_cons, List.length_nil, List.cons_append, List.nil_append, List.replicate, Option.map_some, Option.map_none, Option.bind_some, Option.bind_none, if_true, Bool.not_true, Bool.not_false, Bool.false_eq_true, if_false, Nat.reduceAdd, Nat.reduceSub, eq_self_iff_true, Nat.zero_add] at hf
    exact hf)]
  have fin : ∀ ρ'' : Rho, (ρ''[1]? = some (some ⟨.shr, .str x⟩)) → (ρ''[2]? = some (some ⟨.shr, .int n⟩)) → sRet (fAnd (fCall f__law_same (fRE (fCall f_is_name (fRV 2 fR0)) (fRE (fC (.bl false)) fR0))) (fAnd (fCall f__law_same (fRE (fCall f_is_number (fRV 1 fR0)) (fRE (fC (.bl false)) fR0))) (fCall f__law_same (fRE (fCall f_is_step (fRV 1 fR0)) (fRE (fC (.bl false)) fR0))))) ρ'' [] = some (.ret ⟨.shr, .bl true⟩, []) := fun ρ'' h1 h2 => by
    simp [ite_ap, mbind, mlift, mret, fVar, vVar, fC, fOp, fUn, fNil, fCons, fFn, fTst, tst, fAndT, fOrT, fNotT, fAnd, fOr, fIf, fChain, fCall, callM, fRE, fRV, fR0, lend, fCallO, callO, fCallQ, callQ, sNext, sBrk, sCnt, sSeq, sE, sSet, sOwn, sRet, sRetF, sRetO, sRetN, sDrop, sIf, sSetQ, sRetQ, sMatch, cNone, cAny, cSeq, put, putO, start0, R.lent, R.d, fIts, fFnI, fPair, fUnit, sFrz, fD0, fDisp, fPairs, fSl, fNo, fPart, intOf, fJoin, strOf, List.getElem?_cons_zero, List.getElem?_cons_succ, List.set_cons_zero, List.set_cons_succ, List.map_cons, List.map_nil, List.length_cons, List.length_nil, List.cons_append, List.nil_append, List.replicate, Option.map_some, Option.map_none, Option.bind_some, Option.bind_none, if_true, Bool.not_true, Bool.not_false, Bool.false_eq_true, if_false, Nat.reduceAdd, Nat.reduceSub, eq_self_iff_true, Nat.zero_add, h1, h2, nI, iS, tS, same, nmD, nrD]
  rw [fin ρ' (by rcases hρ with rfl | ⟨d, rfl⟩ <;> rfl) (by rcases hρ with rfl | ⟨d, rfl⟩ <;> rfl)]
end K01

namespace K01
open PySem PySem.Spec PyProof.Rows L2 Fmx
theorem all_mk {P : Program} {w : World} {K : PySem.W.Frag} {h : Heap} {mg : Str → Option Value} {fa : Addr} (X : K.In h) (G : h.Ns mainGlobals mg) (hfa : mg "law" = some (.ref fa))
    (d_is_name : DefAt K "is_name" s_is_name) (d_is_number : DefAt K "is_number" s_is_number) (d_is_size : DefAt K "is_size" s_is_size) (d_are_two_names : DefAt K "are_two_names" s_are_two_names) (d_is_step : DefAt K "is_step" s_is_step) (d__law_cell_at : DefAt K "_law_cell_at" s__law_cell_at) (d__law_signs : DefAt K "_law_signs" s__law_signs) (d__law_text_by : DefAt K "_law_text_by" s__law_text_by) (d__law_number_by : DefAt K "_law_number_by" s__law_number_by) (d__law_is_name : DefAt K "_law_is_name" s__law_is_name) (d__law_is_number : DefAt K "_law_is_number" s__law_is_number) (d__law_kinds : DefAt K "_law_kinds" s__law_kinds) (d__law_is_step : DefAt K "_law_is_step" s__law_is_step) (d__law_part_by : DefAt K "_law_part_by" s__law_part_by) (d__law_same : DefAt K "_law_same" s__law_same) (d_law : DefAt K "law" s_law)
    (z_isinstance : PySem.W.nsIn K mainGlobals "isinstance" = some none) (z_str : PySem.W.nsIn K mainGlobals "str" = some none) (z_all : PySem.W.nsIn K mainGlobals "all" = some none) (z_len : PySem.W.nsIn K mainGlobals "len" = some none) (z_bool : PySem.W.nsIn K mainGlobals "bool" = some none) (z_int : PySem.W.nsIn K mainGlobals "int" = some none) (z_tuple : PySem.W.nsIn K mainGlobals "tuple" = some none) (z_range : PySem.W.nsIn K mainGlobals "range" = some none) (c_LONGEST_NAME : intAt K "LONGEST_NAME" 8) (c_LEAST_SIZE : intAt K "LEAST_SIZE" 2) (c_GREATEST_SIZE : intAt K "GREATEST_SIZE" 1000000) :
    ∃ fd : FuncData, (∀ (s : Shared) (v : Value), BindsTo s fd ⟨[v], []⟩ [("_law_script", v)]) ∧ ∀ base : Heap, K.In base → base.Ns mainGlobals mg → FnOk P w K mg base (L2.CX P w) 4 fa fd ["_law_script"] (spF K (GK K) f_law 1) := by
  obtain ⟨a_is_name, fd_is_name, g_is_name, F_is_name⟩ := d_is_name.get X G
  obtain ⟨a_is_number, fd_is_number, g_is_number, F_is_number⟩ := d_is_number.get X G
  obtain ⟨a_is_size, fd_is_size, g_is_size, F_is_size⟩ := d_is_size.get X G
  obtain ⟨a_are_two_names, fd_are_two_names, g_are_two_names, F_are_two_names⟩ := d_are_two_names.get X G
  obtain ⟨a_is_step, fd_is_step, g_is_step, F_is_step⟩ := d_is_step.get X G
  obtain ⟨a__law_cell_at, fd__law_cell_at, g__law_cell_at, F__law_cell_at⟩ := d__law_cell_at.get X G
  obtain ⟨a__law_signs, fd__law_signs, g__law_signs, F__law_signs⟩ := d__law_signs.get X G
  obtain ⟨a__law_text_by, fd__law_text_by, g__law_text_by, F__law_text_by⟩ := d__law_text_by.get X G
  obtain ⟨a__law_number_by, fd__law_number_by, g__law_number_by, F__law_number_by⟩ := d__law_number_by.get X G
  obtain ⟨a__law_is_name, fd__law_is_name, g__law_is_name, F__law_is_name⟩ := d__law_is_name.get X G
  obtain ⟨a__law_is_number, fd__law_is_number, g__law_is_number, F__law_is_number⟩ := d__law_is_number.get X G
  obtain ⟨a__law_kinds, fd__law_kinds, g__law_kinds, F__law_kinds⟩ := d__law_kinds.get X G
  obtain ⟨a__law_is_step, fd__law_is_step, g__law_is_step, F__law_is_step⟩ := d__law_is_step.get X G
  obtain ⟨a__law_part_by, fd__law_part_by, g__law_part_by, F__law_part_by⟩ := d__law_part_by.get X G
  obtain ⟨a__law_same, fd__law_same, g__law_same, F__law_same⟩ := d__law_same.get X G
  obtain ⟨a_law, fd_law, g_law, F_law⟩ := d_law.get X G
  have b_is_name : Binds K fd_is_name ["thing"] [] := F_is_name.binds (ps := ["thing"]) fun _ _ _ _ _ _ us hl => match us, hl with | [_], _ => rfl
  have b_is_number : Binds K fd_is_number ["thing"] [] := F_is_number.binds (ps := ["thing"]) fun _ _ _ _ _ _ us hl => match us, hl with | [_], _ => rfl
  have b_is_size : Binds K fd_is_size ["thing"] [] := F_is_size.binds (ps := ["thing"]) fun _ _ _ _ _ _ us hl => match us, hl with | [_], _ => rfl
  have b_are_two_names : Binds K fd_are_two_names ["high", "low"] [] := F_are_two_names.binds (ps := ["high", "low"]) fun _ _ _ _ _ _ us hl => match us, hl with | [_, _], _ => rfl
  have b_is_step : Binds K fd_is_step ["thing"] [] := F_is_step.binds (ps := ["thing"]) fun _ _ _ _ _ _ us hl => match us, hl with | [_], _ => rfl
  have b__law_cell_at : Binds K fd__law_cell_at ["_law_script", "_law_k"] [] := F__law_cell_at.binds (ps := ["_law_script", "_law_k"]) fun _ _ _ _ _ _ us hl => match us, hl with | [_, _], _ => rfl
  have b__law_signs : Binds K fd__law_signs [] [] := F__law_signs.binds (ps := []) fun _ _ _ _ _ _ us hl => match us, hl with | [], _ => rfl
  have b__law_text_by : Binds K fd__law_text_by ["_law_cell", "_law_odd"] [] := F__law_text_by.binds (ps := ["_law_cell", "_law_odd"]) fun _ _ _ _ _ _ us hl => match us, hl with | [_, _], _ => rfl
  have b__law_number_by : Binds K fd__law_number_by ["_law_cell"] [] := F__law_number_by.binds (ps := ["_law_cell"]) fun _ _ _ _ _ _ us hl => match us, hl with | [_], _ => rfl
  have b__law_is_name : Binds K fd__law_is_name ["_law_thing"] [] := F__law_is_name.binds (ps := ["_law_thing"]) fun _ _ _ _ _ _ us hl => match us, hl with | [_], _ => rfl
  have b__law_is_number : Binds K fd__law_is_number ["_law_thing"] [] := F__law_is_number.binds (ps := ["_law_thing"]) fun _ _ _ _ _ _ us hl => match us, hl with | [_], _ => rfl
  have b__law_kinds : Binds K fd__law_kinds ["_law_word"] [] := F__law_kinds.binds (ps := ["_law_word"]) fun _ _ _ _ _ _ us hl => match us, hl with | [_], _ => rfl
  have b__law_is_step : Binds K fd__law_is_step ["_law_word", "_law_parts"] [] := F__law_is_step.binds (ps := ["_law_word", "_law_parts"]) fun _ _ _ _ _ _ us hl => match us, hl with | [_, _], _ => rfl
  have b__law_part_by : Binds K fd__law_part_by ["_law_script", "_law_k", "_law_text", "_law_number", "_law_kind"] [] := F__law_part_by.binds (ps := ["_law_script", "_law_k", "_law_text", "_law_number", "_law_kind"]) fun _ _ _ _ _ _ us hl => match us, hl with | [_, _, _, _, _], _ => rfl
  have b__law_same : Binds K fd__law_same ["_law_found", "_law_due"] [] := F__law_same.binds (ps := ["_law_found", "_law_due"]) fun _ _ _ _ _ _ us hl => match us, hl with | [_, _], _ => rfl
  have b_law : Binds K fd_law ["_law_script"] [] := F_law.binds (ps := ["_law_script"]) fun _ _ _ _ _ _ us hl => match us, hl with | [_], _ => rfl
  have Z : Zs mg := ⟨c_LONGEST_NAME.get X G, c_LEAST_SIZE.get X G, c_GREATEST_SIZE.get X G, PySem.W.mg_none_of X G z_isinstance, PySem.W.mg_none_of X G z_str, PySem.W.mg_none_of X G z_all, PySem.W.mg_none_of X G z_len, PySem.W.mg_none_of X G z_bool, PySem.W.mg_none_of X G z_int, PySem.W.mg_none_of X G z_tuple, PySem.W.mg_none_of X G z_range⟩
  have fae : fa = a_law := by have h2 := hfa.symm.trans g_law; cases h2; rfl
  subst fae
  refine ⟨fd_law, fun s v => ?_, fun base _ _ => ?_⟩
  · obtain ⟨oc, od, kV, doc, pm, an, cdv, ct, osl, rfl, _, _⟩ := F_law.ex
    exact .of_eq rfl
  · have C_is_name : Cal P w K mg base (GK K) 1 "is_name" ["thing"] f_is_name 1 := ok_is_name Z  F_is_name g_is_name b_is_name
    have C_is_number : Cal P w K mg base (GK K) 1 "is_number" ["thing"] f_is_number 1 := ok_is_number Z  F_is_number g_is_number b_is_number
    have C_is_size : Cal P w K mg base (GK K) 2 "is_size" ["thing"] f_is_size 1 := ok_is_size Z C_is_number F_is_size g_is_size b_is_size
    have C_are_two_names : Cal P w K mg base (GK K) 2 "are_two_names" ["high", "low"] f_are_two_names 2 := ok_are_two_names Z C_is_name F_are_two_names g_are_two_names b_are_two_names
    have C_is_step : Cal P w K mg base (GK K) 3 "is_step" ["thing"] f_is_step 1 := ok_is_step Z C_is_name C_is_number C_are_two_names C_is_size F_is_step g_is_step b_is_step
    have C__law_cell_at : Cal P w K mg base (GK K) 1 "_law_cell_at" ["_law_script", "_law_k"] f__law_cell_at 2 := ok__law_cell_at Z  F__law_cell_at g__law_cell_at b__law_cell_at
    have C__law_signs : Cal P w K mg base (GK K) 1 "_law_signs" [] f__law_signs 0 := ok__law_signs Z  F__law_signs g__law_signs b__law_signs
    have C__law_text_by : Cal P w K mg base (GK K) 2 "_law_text_by" ["_law_cell", "_law_odd"] f__law_text_by 2 := ok__law_text_by Z C__law_signs F__law_text_by g__law_text_by b__law_text_by
    have C__law_number_by : Cal P w K mg base (GK K) 1 "_law_number_by" ["_law_cell"] f__law_number_by 1 := ok__law_number_by Z  F__law_number_by g__law_number_by b__law_number_by
    have C__law_is_name : Cal P w K mg base (GK K) 1 "_law_is_name" ["_law_thing"] f__law_is_name 1 := ok__law_is_name Z  F__law_is_name g__law_is_name b__law_is_name
    have C__law_is_number : Cal P w K mg base (GK K) 1 "_law_is_number" ["_law_thing"] f__law_is_number 1 := ok__law_is_number Z  F__law_is_number g__law_is_number b__law_is_number
    have C__law_kinds : Cal P w K mg base (GK K) 1 "_law_kinds" ["_law_word"] f__law_kinds 1 := ok__law_kinds Z  F__law_kinds g__law_kinds b__law_kinds
    have C__law_is_step : Cal P w K mg base (GK K) 2 "_law_is_step" ["_law_word", "_law_parts"] f__law_is_step 2 := ok__law_is_step Z C__law_kinds C__law_is_name C__law_is_number F__law_is_step g__law_is_step b__law_is_step
    have C__law_part_by : Cal P w K mg base (GK K) 2 "_law_part_by" ["_law_script", "_law_k", "_law_text", "_law_number", "_law_kind"] f__law_part_by 5 := ok__law_part_by Z C__law_cell_at F__law_part_by g__law_part_by b__law_part_by
    have C__law_same : Cal P w K mg base (GK K) 1 "_law_same" ["_law_found", "_law_due"] f__law_same 2 := ok__law_same Z  F__law_same g__law_same b__law_same
    exact ok_law Z C__law_text_by C__law_number_by C__law_kinds C__law_cell_at C__law_part_by C__law_same C_is_step C__law_is_step C_is_name C_is_number C__law_is_name F_law
end K01
open PySem PySem.W PyProof.Rows
set_option maxHeartbeats 0 in
theorem PySem.Challenge.cw_formlens_k01_what_is_a_step_holds : PySem.Challenge.rw_formlens_k01_what_is_a_step.Holds := by
  w_on; o_law; k_head; (case hw => w_witness2)
  k_fill
  refine Fmx.walk_mine (l := PySem.Challenge.rw_formlens_k01_what_is_a_step) (n := 63) (k := 4) (x := "_law_script") K01.f_law rfl (by decide) rfl ⟨rfl, by decide, by decide⟩ (fun w h Y => PySem.W.kIn_of Y) K01.law_true ?F
  case F =>
    intro w mg fa h KX G hmg
    refine' K01.all_mk KX G hmg ?d0 ?d1 ?d2 ?d3 ?d4 ?d5 ?d6 ?d7 ?d8 ?d9 ?d10 ?d11 ?d12 ?d13 ?d14 ?d15 ?z0 ?z1 ?z2 ?z3 ?z4 ?z5 ?z6 ?z7 ?c0 ?c1 ?c2
    (case d0 => (refine' Fmx.def_at ?a ?l ?c ?k; (case a => k_is); (case l => k_is); (case c => k_is); (case k => k_is)))
    (case d1 => (refine' Fmx.def_at ?a ?l ?c ?k; (case a => k_is); (case l => k_is); (case c => k_is); (case k => k_is)))
    (case d2 => (refine' Fmx.def_at ?a ?l ?c ?k; (case a => k_is); (case l => k_is); (case c => k_is); (case k => k_is)))
    (case d3 => (refine' Fmx.def_at ?a ?l ?c ?k; (case a => k_is); (case l => k_is); (case c => k_is); (case k => k_is)))
    (case d4 => (refine' Fmx.def_at ?a ?l ?c ?k; (case a => k_is); (case l => k_is); (case c => k_is); (case k => k_is)))
    (case d5 => (refine' Fmx.def_at ?a ?l ?c ?k; (case a => k_is); (case l => k_is); (case c => k_is); (case k => k_is)))
    (case d6 => (refine' Fmx.def_at ?a ?l ?c ?k; (case a => k_is); (case l => k_is); (case c => k_is); (case k => k_is)))
    (case d7 => (refine' Fmx.def_at ?a ?l ?c ?k; (case a => k_is); (case l => k_is); (case c => k_is); (case k => k_is)))
    (case d8 => (refine' Fmx.def_at ?a ?l ?c ?k; (case a => k_is); (case l => k_is); (case c => k_is); (case k => k_is)))
    (case d9 => (refine' Fmx.def_at ?a ?l ?c ?k; (case a => k_is); (case l => k_is); (case c => k_is); (case k => k_is)))
    (case d10 => (refine' Fmx.def_at ?a ?l ?c ?k; (case a => k_is); (case l => k_is); (case c => k_is); (case k => k_is)))
    (case d11 => (refine' Fmx.def_at ?a ?l ?c ?k; (case a => k_is); (case l => k_is); (case c => k_is); (case k => k_is)))
    (case d12 => (refine' Fmx.def_at ?a ?l ?c ?k; (case a => k_is); (case l => k_is); (case c => k_is); (case k => k_is)))
    (case d13 => (refine' Fmx.def_at ?a ?l ?c ?k; (case a => k_is); (case l => k_is); (case c => k_is); (case k => k_is)))
    (case d14 => (refine' Fmx.def_at ?a ?l ?c ?k; (case a => k_is); (case l => k_is); (case c => k_is); (case k => k_is)))
    (case d15 => (refine' Fmx.def_at ?a ?l ?c ?k; (case a => k_is); (case l => k_is); (case c => k_is); (case k => k_is)))
    (case z0 => k_is)
    (case z1 => k_is)
    (case z2 => k_is)
    (case z3 => k_is)
    (case z4 => k_is)
    (case z5 => k_is)
    (case z6 => k_is)
    (case z7 => k_is)
    (case c0 => (refine' Fmx.int_at ?a; (case a => k_is)))
    (case c1 => (refine' Fmx.int_at ?a; (case a => k_is)))
    (case c2 => (refine' Fmx.int_at ?a; (case a => k_is)))
